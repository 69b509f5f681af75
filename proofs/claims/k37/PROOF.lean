import PyProof.Rows.All
import Wide.All
import OpenK.AllK
import Wide.FinOn
import Lean
import PyProof.EqAt
import PyProof.EqKinds
import PyProof.TupleCall
import PySem.Challenge.RW_heapsafe_k37_drained
set_option Elab.async false
set_option linter.all false
set_option maxRecDepth 100000
namespace L2
open PySem PySem.Spec PyProof.Rows
abbrev Key := Sum Int Str
def keyIs : Key → Value → Bool
  | .inl k, v => Value.isInt k v
  | .inr x, v => Value.isStrOf x v
def keyH (w : World) : Key → Int
  | .inl k => hashInt k
  | .inr x => hashStr w x
theorem keyIs_shape : ∀ {k : Key} {v : Value}, keyIs k v = true → (∃ i t, k = Sum.inl i ∧ v = Value.int i t) ∨ (∃ x t, k = Sum.inr x ∧ v = Value.str x t)
  | .inl i, v, h => by
    obtain ⟨t, e⟩ := Value.isInt_shape (k := i) (v := v) h
    exact .inl ⟨i, t, rfl, e⟩
  | .inr x, v, h => by
    obtain ⟨t, e⟩ := Value.isStrOf_shape (x := x) (v := v) h
    exact .inr ⟨x, t, rfl, e⟩
theorem keyIs_int (i : Int) (t : Tok) : keyIs (.inl i) (.int i t) = true := by simp [keyIs, Value.isInt]
theorem keyIs_str (x : Str) (t : Tok) : keyIs (.inr x) (.str x t) = true := by simp [keyIs, Value.isStrOf]
theorem key_ll (a b : Int) : decide ((Sum.inl a : Key) = Sum.inl b) = (a == b) := by
  by_cases e : a = b
  · subst e; simp
  · have h : ¬ (Sum.inl a : Key) = Sum.inl b := fun q => e (Sum.inl.inj q)
    rw [decide_eq_false h]
    exact (beq_eq_false_iff_ne.mpr e).symm
theorem key_rr (a b : Str) : decide ((Sum.inr a : Key) = Sum.inr b) = decide (a = b) := by
  by_cases e : a = b
  · subst e; simp
  · have h : ¬ (Sum.inr a : Key) = Sum.inr b := fun q => e (Sum.inr.inj q)
    rw [decide_eq_false h, decide_eq_false e]
theorem key_lr (a : Int) (b : Str) : decide ((Sum.inl a : Key) = Sum.inr b) = false := decide_eq_false (fun q => nomatch q)
theorem key_rl (a : Str) (b : Int) : decide ((Sum.inr a : Key) = Sum.inl b) = false := decide_eq_false (fun q => nomatch q)
def mixKind (prog : Program) (w : World) : PySem.KeyKind prog w Key where
  is := keyIs
  hash := keyH w
  inj := fun v a b ha hb => by
    rcases keyIs_shape ha with ⟨i, t, rfl, rfl⟩ | ⟨x, t, rfl, rfl⟩
    · rcases keyIs_shape hb with ⟨j, u, rfl, e⟩ | ⟨y, u, rfl, e⟩
      · injection e with e1 _; rw [e1]
      · exact nomatch e
    · rcases keyIs_shape hb with ⟨j, u, rfl, e⟩ | ⟨y, u, rfl, e⟩
      · exact nomatch e
      · injection e with e1 _; rw [e1]
  byValue := fun k v h => by
    rcases keyIs_shape h with ⟨i, t, rfl, rfl⟩ | ⟨x, t, rfl, rfl⟩ <;> rfl
  pyHash := fun hv h => by
    rcases keyIs_shape hv with ⟨i, t, rfl, rfl⟩ | ⟨x, t, rfl, rfl⟩
    · exact wpAny_pyHash_int h
    · exact wpAny_pyHash_str h
  eqBool := fun hu hv h => by
    rcases keyIs_shape hu with ⟨i, t, rfl, rfl⟩ | ⟨x, t, rfl, rfl⟩
    · rcases keyIs_shape hv with ⟨j, u, rfl, rfl⟩ | ⟨y, u, rfl, rfl⟩
      · rw [key_ll] at h; exact wpAny_eqBool_int h
      · rw [key_lr] at h; exact SeqAt.EqAt.int_str i t y u _ _ _ _ h
    · rcases keyIs_shape hv with ⟨j, u, rfl, rfl⟩ | ⟨y, u, rfl, rfl⟩
      · rw [key_rl] at h; exact SeqAt.EqAt.str_int x t j u _ _ _ _ h
      · rw [key_rr] at h; exact wpAny_eqBool_str h
  «strs» := fun k x t v h => by
    rcases keyIs_shape h with ⟨i, u, rfl, e⟩ | ⟨y, u, rfl, e⟩
    · exact nomatch e
    · injection e with e1 _
      subst e1
      cases v <;> rfl
theorem mixKind_int (prog : Program) (w : World) (i : Int) (t : Tok) : (mixKind prog w).is (.inl i) (.int i t) = true := keyIs_int i t
theorem mixKind_str (prog : Program) (w : World) (x : Str) (t : Tok) : (mixKind prog w).is (.inr x) (.str x t) = true := keyIs_str x t
end L2
namespace L2
open PySem PySem.Spec PyProof.Rows
inductive V where
  | non | bl (b : Bool) | int (i : Int) | str (x : Str) | byt (b : Array UInt8) | flt (b : UInt64) | ref (a : Addr) | ty (n : String)
  deriving DecidableEq
def RelV : V → Value → Prop
  | .non, u => u = Value.none
  | .bl b, u => u = Value.bool b
  | .int i, u => ∃ t, u = Value.int i t
  | .str x, u => ∃ t, u = Value.str x t
  | .byt b, u => ∃ t, u = Value.bytes b t
  | .flt b, u => ∃ t, u = Value.float b t
  | .ref a, u => u = Value.ref a
  | .ty n, u => u = Value.type n
abbrev Vals : List V → List Value → Prop := Paired RelV
theorem Vals.length {xs : List V} {us : List Value} (r : Vals xs us) : xs.length = us.length := Paired.length r
theorem Vals.get : ∀ {xs : List V} {us : List Value} {i : Nat} {x : V}, Vals xs us → xs[i]? = some x → ∃ u, us[i]? = some u ∧ RelV x u
  | _, _, _, _, .nil, e => by simp at e
  | _, _, 0, _, .cons r _, e => by simp at e; subst e; exact ⟨_, rfl, r⟩
  | _, _, i + 1, x, .cons _ t, e => by
    obtain ⟨u, h1, h2⟩ := Vals.get (i := i) (x := x) t (by simpa using e)
    exact ⟨u, by simpa using h1, h2⟩
theorem Vals.set {x : V} {u : Value} (r : RelV x u) : ∀ {xs : List V} {us : List Value} (i : Nat), Vals xs us → Vals (xs.set i x) (us.set i u)
  | _, _, _, .nil => .nil
  | _, _, 0, .cons _ t => .cons r t
  | _, _, i + 1, .cons q t => .cons q (Vals.set r i t)
theorem Vals.append : ∀ {xs ys : List V} {us ws : List Value}, Vals xs us → Vals ys ws → Vals (xs ++ ys) (us ++ ws)
  | _, _, _, _, .nil, s => s
  | _, _, _, _, .cons r t, s => .cons r (Vals.append t s)
theorem Vals.take : ∀ {xs : List V} {us : List Value} (n : Nat), Vals xs us → Vals (xs.take n) (us.take n)
  | _, _, 0, _ => .nil
  | _, _, _ + 1, .nil => .nil
  | _, _, n + 1, .cons r t => .cons r (Vals.take n t)
theorem Vals.drop : ∀ {xs : List V} {us : List Value} (n : Nat), Vals xs us → Vals (xs.drop n) (us.drop n)
  | _, _, 0, r => r
  | _, _, _ + 1, .nil => .nil
  | _, _, n + 1, .cons _ t => Vals.drop n t
def RelO : Option V → Option Value → Prop
  | some v, some u => RelV v u
  | none, none => True
  | _, _ => False
def KV {κ : Type} : List (κ × V) → List (κ × Value) → Prop := Paired fun (p : κ × V) (q : κ × Value) => p.1 = q.1 ∧ RelV p.2 q.2
def kV : Key → V
  | .inl i => .int i
  | .inr x => .str x
inductive HO where
  
  | lst (xs : List V)
  
  | tup (xs : List V)
  
  | dK (kvs : List (Key × V)) | dT (kvs : List (List Key × V))
  
  | set (S : Int → Bool) (n : Nat)
  
  | ins (C dx : Addr) (fs : List (Str × V))
  
  | own (x : Addr)
  
  | xd (fs : List (Str × V))
  
  | met (f x : Addr)
  
  | rng (lo hi : Int)
  
  | frz (o : Obj) (u : HO)
  
  | tbl (ps : Array Value)
  
  | ext (φ : Heap → Prop)
abbrev Hp := Addr → Option HO
def upd (H : Hp) (a : Addr) (o : HO) : Hp := fun b => if b = a then some o else H b
theorem upd_same {H : Hp} {a : Addr} {o : HO} : upd H a o a = some o := by unfold upd; rw [if_pos rfl]
theorem upd_ne {H : Hp} {a b : Addr} {o : HO} (h : b ≠ a) : upd H a o b = H b := by unfold upd; rw [if_neg h]
theorem upd_upd {H : Hp} {a : Addr} {o u : HO} : upd (upd H a o) a u = upd H a u := by
  funext b; unfold upd; split <;> rfl
theorem ne_of {H : Hp} {a b : Addr} {o u : HO} (h : H a = some o) (h' : H b = some u) (d : o ≠ u) : a ≠ b := by
  intro e; subst e; rw [h] at h'; exact d (Option.some.inj h')
theorem ne_of_none {H : Hp} {a b : Addr} {o : HO} (h : H a = some o) (h' : H b = none) : a ≠ b := by
  intro e; subst e; rw [h] at h'; cases h'
section
variable (P : Program) (w : World)
def ObjOk (H : Hp) (h : Heap) (a : Addr) : HO → Prop
  | .lst xs => xs.length ≤ sizeLine ∧ ∃ (its : List Value) (n : Nat), Vals xs its ∧ h.get? a = some { cls := .type "list", data := .seq its.toArray n }
  | .tup xs => xs.length ≤ sizeLine ∧ ∃ its : List Value, Vals xs its ∧ IsTup h a its.toArray
  | .dK kvs => kvs.length ≤ sizeLine ∧ (a == sysModules) = false ∧ ∃ vs, KV kvs vs ∧ h.DictOf (mixKind P w) a vs
  | .dT kvs => kvs.length ≤ sizeLine ∧ (a == sysModules) = false ∧ ∃ xs : List (List Key × Addr × Value),
      Paired (fun (p : List Key × V) (q : List Key × Addr × Value) => p.1 = q.1 ∧ H q.2.1 = some (.tup (p.1.map kV)) ∧ RelV p.2 q.2.2) kvs xs ∧
      ∃ o es ep, h.get? a = some o ∧ o.ExactDict ∧ o.data = .dict es ep ∧ es.toList = xs.map (entryOfKey (tupleKind (mixKind P w))) ∧ (xs.map (·.1)).Nodup
  | .set S n => h.SetOf (intKind P w) a S n
  | .ins C dx fs => H dx = some (.own a) ∧ fs.length ≤ 1000 ∧ dx ≠ a ∧ h.get? a = some (PySem.W.instObj C dx) ∧
      ∃ mA, h.Ns1 dx mA ∧ (∀ f, RelO (fs.lookup f) (mA f)) ∧ PySem.Within mA (fs.map (·.1))
  | .own _ => ∃ o, h.get? a = some o
  | .xd fs => ∃ mA, h.Ns1 a mA ∧ ∀ f, RelO (fs.lookup f) (mA f)
  | .rng lo hi => ∃ t u v, h.get? a = some { cls := .type "range", data := .fields #[.int lo t, .int hi u, .int 1 v] }
  | .frz o u => h.get? a = some o ∧ ObjOk H h a u
  | .tbl ps => h.get? a = some { cls := .none, data := .fields ps }
  | .met f x => h.get? a = some (PySem.W.methodObj (.ref f) (.ref x))
  | .ext φ => φ h ∧ (∃ o, h.get? a = some o) ∧ ∀ h1 h2 : Heap, φ h1 → (∀ o, h1.get? a = some o → h2.get? a = some o) → φ h2
def HOk (H : Hp) (h : Heap) : Prop := ∀ a o, H a = some o → ObjOk P w H h a o
end
section
variable {P : Program} {w : World} {H H' : Hp} {h h' : Heap} {a : Addr} {o : HO}
theorem ObjOk.lt (x : ObjOk P w H h a o) : a < h.objs.size := by
  cases o with
  | lst xs => obtain ⟨_, _, _, _, e⟩ := x; exact Heap.lt_size e
  | tup xs => obtain ⟨_, _, _, p⟩ := x; exact p.lt
  | dK kvs => obtain ⟨_, _, _, _, o, _, _, e, _⟩ := x; exact Heap.lt_size e
  | dT kvs => obtain ⟨_, _, _, _, o, _, _, e, _⟩ := x; exact Heap.lt_size e
  | set S n => obtain ⟨o, _, _, _, e, _⟩ := x; exact Heap.lt_size e
  | ins C dx fs => obtain ⟨_, _, _, e, _⟩ := x; exact Heap.lt_size e
  | own y => obtain ⟨_, e⟩ := x; exact Heap.lt_size e
  | xd fs => obtain ⟨_, ⟨_, _, _, e, _⟩, _⟩ := x; exact Heap.lt_size e
  | rng lo hi => obtain ⟨_, _, _, e⟩ := x; exact Heap.lt_size e
  | frz ob u => obtain ⟨e, _⟩ := x; exact Heap.lt_size e
  | tbl ps => exact Heap.lt_size (show h.get? a = some _ from x)
  | met f y => exact Heap.lt_size (show h.get? a = some _ from x)
  | ext φ => obtain ⟨_, ⟨_, e⟩, _⟩ := x; exact Heap.lt_size e
theorem Paired.mapP {α β : Type} {F G : α → β → Prop} : ∀ {l₁ : List α} {l₂ : List β}, Paired F l₁ l₂ → (∀ a b, F a b → G a b) → Paired G l₁ l₂
  | _, _, .nil, _ => .nil
  | _, _, .cons r t, f => .cons (f _ _ r) (Paired.mapP t f)
theorem ObjOk.stay (x : ObjOk P w H h a o) (k : ∀ b u, (b = a ∨ H b = some (.own a)) → h.get? b = some u → h'.get? b = some u)
    (ho : ∀ b, H b = some (.own a) → H' b = some (.own a)) (ht : ∀ b xs, H b = some (.tup xs) → H' b = some (.tup xs)) : ObjOk P w H' h' a o := by
  induction o with
  | lst xs => obtain ⟨z, its, n, r, e⟩ := x; exact ⟨z, its, n, r, k _ _ (.inl rfl) e⟩
  | tup xs => obtain ⟨z, its, r, ob, e, c⟩ := x; exact ⟨z, its, r, ob, k _ _ (.inl rfl) e, c⟩
  | dK kvs => obtain ⟨z, y, vs, r, ob, es, ep, e, c⟩ := x; exact ⟨z, y, vs, r, ob, es, ep, k _ _ (.inl rfl) e, c⟩
  | dT kvs =>
    obtain ⟨z, y, xs, r, ob, es, ep, e, c⟩ := x
    exact ⟨z, y, xs, Paired.mapP r fun p q z => ⟨z.1, ht _ _ z.2.1, z.2.2⟩, ob, es, ep, k _ _ (.inl rfl) e, c⟩
  | set S n => obtain ⟨ob, es, ep, t, e, c⟩ := x; exact ⟨ob, es, ep, t, k _ _ (.inl rfl) e, c⟩
  | ins C dx fs =>
    obtain ⟨d, z, ne, e, mA, ⟨od, es, ep, e2, c⟩, r⟩ := x
    exact ⟨ho _ d, z, ne, k _ _ (.inl rfl) e, mA, ⟨od, es, ep, k _ _ (.inr d) e2, c⟩, r⟩
  | own y => obtain ⟨ob, e⟩ := x; exact ⟨ob, k _ _ (.inl rfl) e⟩
  | xd fs => obtain ⟨mA, ⟨od, es, ep, e, c⟩, r⟩ := x; exact ⟨mA, ⟨od, es, ep, k _ _ (.inl rfl) e, c⟩, r⟩
  | rng lo hi => obtain ⟨t, u, v, e⟩ := x; exact ⟨t, u, v, k _ _ (.inl rfl) e⟩
  | frz ob u ih => obtain ⟨e, q⟩ := x; exact ⟨k _ _ (.inl rfl) e, ih q⟩
  | tbl ps =>
    have e : h.get? a = some { cls := .none, data := .fields ps } := x
    show h'.get? a = some { cls := .none, data := .fields ps }
    exact k a _ (.inl rfl) e
  | met f y =>
    have e : h.get? a = some (PySem.W.methodObj (.ref f) (.ref y)) := x
    show h'.get? a = some (PySem.W.methodObj (.ref f) (.ref y))
    exact k a _ (.inl rfl) e
  | ext φ => obtain ⟨p, ⟨o, e⟩, st⟩ := x; exact ⟨st _ _ p fun o q => k _ _ (.inl rfl) q, ⟨o, k _ _ (.inl rfl) e⟩, st⟩
theorem HOk.lt (x : HOk P w H h) (e : H a = some o) : a < h.objs.size := (x a o e).lt
theorem HOk.fresh (x : HOk P w H h) (e : h.objs.size ≤ a) : H a = none := by
  cases q : H a with
  | none => rfl
  | some u => exact absurd (Nat.lt_of_lt_of_le (x.lt q) e) (Nat.lt_irrefl _)
theorem HOk.kept (x : HOk P w H h) (k : ∀ b u, h.get? b = some u → h'.get? b = some u) : HOk P w H h' := fun a o e =>
  (x a o e).stay (fun b u _ q => k b u q) (fun _ q => q) fun _ _ q => q
theorem HOk.laid (x : HOk P w H h) (k : ∀ b u, h.get? b = some u → h'.get? b = some u) (hp : h.objs.size ≤ a) (new : ObjOk P w (upd H a o) h' a o) : HOk P w (upd H a o) h' := fun b u e => by
  have hn := x.fresh hp
  by_cases hb : b = a
  · subst hb; rw [upd_same] at e; cases e; exact new
  · rw [upd_ne hb] at e
    exact (x b u e).stay (fun c v _ q => k c v q) (fun c q => by rw [upd_ne (ne_of_none q hn)]; exact q) fun c xs q => by rw [upd_ne (ne_of_none q hn)]; exact q
end
def Rd (H : Hp) (a : Addr) (u : HO) : Prop := H a = some u ∨ ∃ o, H a = some (.frz o u)
theorem Rd.ok {P : Program} {w : World} {H : Hp} {h : Heap} {a : Addr} {u : HO} (r : Rd H a u) (x : HOk P w H h) : ObjOk P w H h a u := by
  rcases r with r | ⟨o, r⟩
  · exact x a u r
  · obtain ⟨_, q⟩ := x a _ r
    exact q
def Mut : Option HO → Prop
  | some (.lst _) => True
  | some (.dK _) => True
  | some (.dT _) => True
  | some (.set _ _) => True
  | some (.ins _ _ _) => True
  | some (.ext _) => True
  | _ => False
section
variable {P : Program} {w : World} {H : Hp} {h h' : Heap} {x e : Addr} {o' : HO}
theorem HOk.write (ok : HOk P w H h) (mu : Mut (H x)) (he : e = x ∨ H e = some (.own x)) (k : ∀ b u, b ≠ e → h.get? b = some u → h'.get? b = some u) (heo : ∃ u, h'.get? e = some u)
    (new : ObjOk P w (upd H x o') h' x o') : HOk P w (upd H x o') h' := fun b u q => by
  have nown : ∀ c y, H c = some (.own y) → c ≠ x := fun c y r z => by subst z; rw [r] at mu; exact mu
  have ntup : ∀ c xs, H c = some (.tup xs) → c ≠ x := fun c xs r z => by subst z; rw [r] at mu; exact mu
  by_cases hb : b = x
  · subst hb; rw [upd_same] at q; cases q; exact new
  · rw [upd_ne hb] at q
    by_cases hbe : b = e
    · have q' : H b = some (.own x) := by
        rcases he with z | z
        · exact absurd (hbe.trans z) hb
        · rw [hbe]; exact z
      rw [q] at q'; cases q'
      obtain ⟨v, hv⟩ := heo
      exact ⟨v, by rw [hbe]; exact hv⟩
    · refine (ok b u q).stay (fun c v hc r => k c v ?_ r) (fun c r => by rw [upd_ne (nown c b r)]; exact r) fun c xs r => by rw [upd_ne (ntup c xs r)]; exact r
      rcases hc with rfl | hc
      · exact hbe
      · rintro rfl
        rcases he with z | z
        · exact nown c b hc z
        · rw [hc] at z; cases z; exact hb rfl
end
structure Un (fs ex : List Addr) (H H' : Hp) (h h' : Heap) : Prop where
  keep : ∀ b o, h.get? b = some o → H b = none → b ∉ fs → b ∉ ex → h'.get? b = some o
  slot : ∀ b o, h.get? b = some o → H b = none → b ∈ fs → b ∉ ex → ∃ sl, h'.get? b = some { o with slots := sl }
  free : ∀ b o, h.get? b = some o → H b = none → b ∉ ex → H' b = none
  there : ∀ b o, h.get? b = some o → b ∉ ex → ∃ o', h'.get? b = some o'
  tups : ∀ b xs, H b = some (.tup xs) → H' b = some (.tup xs)
  frzs : ∀ b o u, H b = some (.frz o u) → H' b = some (.frz o u)
  tbls : ∀ b ps, H b = some (.tbl ps) → ∃ more, H' b = some (.tbl (ps ++ more))
section
variable {fs fs' ex ex' : List Addr} {H H1 H2 : Hp} {h h1 h2 h' : Heap} {a x e : Addr} {o : HO}
theorem Un.any (u : Un fs ex H H1 h h1) {b : Addr} {ob : Obj} (q : h.get? b = some ob) (n : H b = none) (hx : b ∉ ex) : ∃ sl, h1.get? b = some { ob with slots := sl } := by
  by_cases hb : b ∈ fs
  · exact u.slot b ob q n hb hx
  · exact ⟨ob.slots, u.keep b ob q n hb hx⟩
theorem Un.kept (k : ∀ b u, h.get? b = some u → h'.get? b = some u) : Un fs ex H H h h' :=
  ⟨fun b ob q _ _ _ => k b ob q, fun b ob q _ _ _ => ⟨ob.slots, k b ob q⟩, fun _ _ _ n _ => n, fun b ob q _ => ⟨ob, k b ob q⟩, fun _ _ q => q, fun _ _ _ q => q, fun _ ps q => ⟨#[], by rw [q]; simp⟩⟩
theorem Un.refl : Un fs ex H H h h := Un.kept fun _ _ q => q
theorem Un.laid (k : ∀ b u, h.get? b = some u → h'.get? b = some u) (hp : h.objs.size ≤ a) (hn : H a = none) : Un fs ex H (upd H a o) h h' where
  keep := fun b u q _ _ _ => k b u q
  slot := fun b u q _ _ _ => ⟨u.slots, k b u q⟩
  free := fun b u q n _ => by rw [upd_ne (Nat.ne_of_lt (Nat.lt_of_lt_of_le (Heap.lt_size q) hp))]; exact n
  there := fun b u q _ => ⟨u, k b u q⟩
  tups := fun b xs q => by rw [upd_ne (ne_of_none q hn)]; exact q
  frzs := fun b u xs q => by rw [upd_ne (ne_of_none q hn)]; exact q
  tbls := fun b ps q => ⟨#[], by rw [upd_ne (ne_of_none q hn), q]; simp⟩
theorem Un.write (mu : Mut (H x)) (he : e = x ∨ H e = some (.own x)) (k : ∀ b u, b ≠ e → h.get? b = some u → h'.get? b = some u) (heo : ∃ u, h'.get? e = some u) : Un fs ex H (upd H x o) h h' := by
  have hx : ∀ b, H b = none → b ≠ x := fun b n z => by subst z; rw [n] at mu; exact mu
  have hb : ∀ b, H b = none → b ≠ e := fun b n z => by
    subst z
    rcases he with r | r
    · exact hx b n r
    · rw [n] at r; cases r
  have hm : ∀ b u, H b = some u → ¬ Mut (some u) → b ≠ x := fun b u q nm z => by subst z; rw [q] at mu; exact nm mu
  refine ⟨fun b u q n _ _ => k b u (hb b n) q, fun b u q n _ _ => ⟨u.slots, k b u (hb b n) q⟩, fun b u q n _ => by rw [upd_ne (hx b n)]; exact n, fun b u q _ => ?_,
    fun b xs q => by rw [upd_ne (hm b _ q fun z => z)]; exact q, fun b u xs q => by rw [upd_ne (hm b _ q fun z => z)]; exact q, fun b ps q => ⟨#[], by rw [upd_ne (hm b _ q fun z => z), q]; simp⟩⟩
  by_cases hbe : b = e
  · subst hbe; exact heo
  · exact ⟨u, k b u hbe q⟩
end
def trk (h : Heap) (H : Hp) : List Addr := (List.range h.objs.size).filter fun a => (H a).isSome
def hidT (h : Heap) (H : Hp) : Heap := PySem.W.hideAll h (trk h H)
theorem hidT_size (h : Heap) (H : Hp) : (hidT h H).objs.size = h.objs.size := PySem.W.hideAll_size _ _
theorem hidT_get {h : Heap} {H : Hp} {b : Addr} {o : Obj} (e : h.get? b = some o) (n : H b = none) : (hidT h H).get? b = some o :=
  PySem.W.hideAll_get _ e fun hm => by
    have q : (H b).isSome = true := (List.mem_filter.mp hm).2
    rw [n] at q; simp at q
theorem of_hidT {h : Heap} {H : Hp} {b : Addr} {o : Obj} (e : (hidT h H).get? b = some o) : h.get? b = some o ∧ H b = none := by
  have e' : h.get? b = some o := PySem.W.of_hideAll (trk h H) e
  refine ⟨e', ?_⟩
  cases q : H b with
  | none => rfl
  | some x =>
    have hm : b ∈ trk h H := List.mem_filter.mpr ⟨List.mem_range.mpr (Heap.lt_size e'), by simp [q]⟩
    have z : (hidT h H).get? b = none := PySem.W.hideAll_none (trk h H) hm
    rw [z] at e; cases e
def allNews (g h : Heap) (L : Addr) : List (Addr × Obj) := (List.range h.objs.size).filterMap fun a => if a = L ∨ (g.get? a).isSome = true then none else (h.get? a).map fun o => (a, o)
def rest (g h : Heap) (L d : Addr) : List (Addr × Obj) := (allNews g h L).filter fun p => decide (p.1 ≠ d)
end L2
namespace L2
open PySem PySem.Spec PyProof.Rows
structure Mod (K : PySem.W.Frag) (mg : Str → Option Value) (base : Heap) : Prop where
  kin : K.In base
  glob : base.Ns mainGlobals mg
  blt : ∃ mb, base.Ns builtinsNs mb ∧ ∀ x : Str, x ≠ "__name__" → mb x = bootBuiltins x
  nolimit : base.NoLimit
structure Cx where
  prog : Program
  w : World
  K : PySem.W.Frag
  mg : Str → Option Value
  base : Heap
  A : Around
  N : List Str
  s₀ : Shared
  H₀ : Hp
  env : Env
  outer : List Env
  stack : List Env
  ex : List Addr
  fn : Str → Bool
  calm : Bool
  pn : List (Addr × Obj)
  xe : Value → Shared → Prop
def frs (l : List Env) : List Addr := l.filterMap (·.frame)
abbrev Cx.fs (X : Cx) : List Addr := frs X.outer
def Vis (sc : Scope) (x : Str) : Prop := sc.names.lookup x = some .local ∨ sc.names.lookup x = some .cell ∨ sc.names.lookup x = some .free
def Loc (sc : Scope) (x : Str) : Prop := sc.names.lookup x = some .local ∨ sc.names.lookup x = some .cell
def Look (env : Env) (h : Heap) (m : Str → Option Value) (x : Str) (u : Value) : Prop :=
  (env.kindOf x = some .local ∧ m x = some u) ∨ ((env.kindOf x = some .cell ∨ env.kindOf x = some .free) ∧ ∃ c, env.cells.lookup x = some c ∧ h.IsCell c (some u))
structure Cx.Ok (X : Cx) : Prop where
  mod : Mod X.K X.mg X.base
  kind : X.env.scope.kind = .function
  glob : X.env.globals = mainGlobals
  blt : X.env.builtins = builtinsNs
  above : X.s₀.heap.objs.size ≤ X.env.locals
  inj : ∀ x y c, X.env.cells.lookup x = some c → X.env.cells.lookup y = some c → x = y
  has : ∀ x, (X.env.kindOf x = some .cell ∨ X.env.kindOf x = some .free) → ∃ c, X.env.cells.lookup x = some c
  cab : ∀ x c, X.fn x = true → X.env.cells.lookup x = some c → X.s₀.heap.objs.size ≤ c
  hd : X.calm = true → X.A.handled = none
  frames : X.A.frames = some X.stack
  stk : X.stack = X.outer ∨ (X.stack = X.env :: X.outer ∧ X.env.frame = some X.env.locals)
  exf : ∀ b ∈ X.ex, b ≠ X.env.locals ∧ ∀ x c, X.env.cells.lookup x = some c → c ≠ b
  bs : ∀ b o, X.base.get? b = some o → X.s₀.heap.get? b = some o ∧ X.H₀ b = none
  bsz : X.base.objs.size ≤ X.s₀.heap.objs.size
  noex : ∀ b o, X.base.get? b = some o → b ∉ X.ex
  exfs : ∀ b ∈ X.ex, b ∉ X.fs
  funs : X.s₀.heap.FunFrames X.base X.outer
  frf : ∀ b ∈ X.fs, X.H₀ b = none
structure Inv (X : Cx) (pins : List (Addr × Obj)) (σ : List (Option V)) (H : Hp) (s : Shared) : Prop where
  ok : X.Ok
  os : s.os = X.s₀.os
  bare : AllBare s.gens
  base : Un X.fs X.ex X.H₀ H X.s₀.heap s.heap
  loc : ∃ m, s.heap.Ns X.env.locals m ∧ ∀ (i : Nat) (x : Str) (v : V), X.N[i]? = some x → σ[i]? = some (some v) → Vis X.env.scope x → ∃ u, RelV v u ∧ Look X.env s.heap m x u
  cell : ∀ x c, X.env.cells.lookup x = some c → ∃ v, s.heap.IsCell c v
  free : H X.env.locals = none
  freeC : ∀ x c, X.env.cells.lookup x = some c → H c = none
  pin : ∀ p ∈ X.pn ++ pins, s.heap.get? p.1 = some p.2 ∧ H p.1 = none ∧ p.1 ≠ X.env.locals ∧ p.1 ∉ X.fs ∧ ∀ v, p.2.data ≠ .cell v
  hok : HOk X.prog X.w H s.heap
  len : σ.length = X.N.length
section
variable {X : Cx} {pins : List (Addr × Obj)} {σ : List (Option V)} {H H' : Hp} {s : Shared} {h' : Heap}
theorem Cx.Ok.nofr (ok : X.Ok) {b : Addr} {o : Obj} (e : X.base.get? b = some o) : b ∉ X.fs := fun hb => by
  have := (ok.funs.mem hb).1
  rw [e] at this; cases this
theorem Inv.bs (I : Inv X pins σ H s) : ∀ b o, X.base.get? b = some o → s.heap.get? b = some o ∧ H b = none := fun b o e =>
  ⟨I.base.keep b o (I.ok.bs b o e).1 (I.ok.bs b o e).2 (I.ok.nofr e) (I.ok.noex b o e), I.base.free b o (I.ok.bs b o e).1 (I.ok.bs b o e).2 (I.ok.noex b o e)⟩
theorem Inv.bk (I : Inv X pins σ H s) : ∀ b o, X.base.get? b = some o → s.heap.get? b = some o := fun b o e => (I.bs b o e).1
theorem Inv.mod (I : Inv X pins σ H s) : Mod X.K X.mg X.base := I.ok.mod
theorem Inv.kIn (I : Inv X pins σ H s) : X.K.In s.heap := I.ok.mod.kin.keeps I.bk
theorem Inv.nolimit (I : Inv X pins σ H s) : s.heap.NoLimit := I.ok.mod.nolimit.keeps I.bk
theorem Inv.lt (I : Inv X pins σ H s) : X.env.locals < s.heap.objs.size := let ⟨_, hn, _⟩ := I.loc; hn.lt
theorem Inv.sz (I : Inv X pins σ H s) : X.s₀.heap.objs.size ≤ s.heap.objs.size := Nat.le_trans I.ok.above (Nat.le_of_lt I.lt)
theorem Inv.nofs (I : Inv X pins σ H s) {a : Addr} (h : s.heap.objs.size ≤ a) : a ∉ X.fs := fun hb => by
  obtain ⟨_, o, ho, _⟩ := I.ok.funs.mem hb
  exact absurd (Nat.lt_of_lt_of_le (Heap.lt_size ho) (Nat.le_trans I.sz h)) (Nat.lt_irrefl _)
theorem Inv.cne (I : Inv X pins σ H s) : ∀ x c, X.env.cells.lookup x = some c → c ≠ X.env.locals := fun x c e z => by
  obtain ⟨v, o, ho, hd⟩ := I.cell x c e
  obtain ⟨m, ⟨o', es, ep, ho', hd', _⟩, _⟩ := I.loc
  rw [z, ho'] at ho; cases ho; rw [hd'] at hd; cases hd
theorem Inv.funs (I : Inv X pins σ H s) : s.heap.FunFrames X.base X.outer := by
  have all : ∀ (l : List Env), (∀ b ∈ frs l, b ∈ X.fs) → X.s₀.heap.FunFrames X.base l → s.heap.FunFrames X.base l := by
    intro l
    induction l with
    | nil => intro _ _; trivial
    | cons env r ih =>
      intro hs hl
      obtain ⟨hk, ⟨L, o, hf, hn, ho, hd⟩, hr⟩ := hl
      have hL : L ∈ X.fs := hs L (by unfold frs; rw [List.filterMap_cons, hf]; exact List.mem_cons_self)
      obtain ⟨sl, e⟩ := I.base.slot L o ho (I.ok.frf L hL) hL fun z => I.ok.exfs L z hL
      exact ⟨hk, ⟨L, _, hf, hn, e, hd⟩, ih (fun b hb => hs b (by unfold frs; rw [List.filterMap_cons, hf]; exact List.mem_cons_of_mem _ hb)) hr⟩
  exact all X.outer (fun _ hb => hb) I.ok.funs
theorem Inv.stack (I : Inv X pins σ H s) : s.heap.FunFrames X.base X.stack := by
  rcases I.ok.stk with e | ⟨e, hf⟩
  · rw [e]; exact I.funs
  · rw [e]
    obtain ⟨m, hn, _⟩ := I.loc
    refine .cons (by rw [I.ok.kind]; decide) hf hn ?_ I.funs
    exact Heap.get?_none_of_le (Nat.le_trans I.ok.bsz I.ok.above)
theorem Inv.stkSub (I : Inv X pins σ H s) : ∀ b ∈ frs X.stack, b ∈ X.env.locals :: X.fs := fun b hb => by
  rcases I.ok.stk with e | ⟨e, hf⟩
  · rw [e] at hb; exact List.mem_cons_of_mem _ hb
  · rw [e] at hb
    unfold frs at hb
    rw [List.filterMap_cons, hf] at hb
    exact hb
theorem Inv.stkFree (I : Inv X pins σ H s) : ∀ b ∈ frs X.stack, H b = none := fun b hb => by
  rcases List.mem_cons.mp (I.stkSub b hb) with e | hb
  · rw [e]; exact I.free
  · obtain ⟨_, o, ho, _⟩ := I.ok.funs.mem hb
    exact I.base.free b o ho (I.ok.frf b hb) fun z => I.ok.exfs b z hb
theorem Inv.step {g' : Array GenState} {t' : Nat} {d' : Drawn} {ch : List Addr} (I : Inv X pins σ H s)
    (hch : ∀ b ∈ ch, (b ∈ X.ex ∨ X.s₀.heap.objs.size ≤ b) ∧ b ≠ X.env.locals ∧ (∀ x c, X.env.cells.lookup x = some c → c ≠ b) ∧ ∀ p ∈ X.pn ++ pins, p.1 ≠ b)
    (keep : ∀ b o, b ≠ X.env.locals → b ∉ X.fs → b ∉ ch → s.heap.get? b = some o → H b = none → h'.get? b = some o)
    (slot : ∀ b o, b ≠ X.env.locals → b ∈ X.fs → b ∉ ch → s.heap.get? b = some o → H b = none → ∃ sl, h'.get? b = some { o with slots := sl }) (free : ∀ b o, b ∉ ch → s.heap.get? b = some o → H b = none → H' b = none)
    (there : ∀ b o, b ∉ ch → s.heap.get? b = some o → ∃ o', h'.get? b = some o')
    (tups : ∀ b xs, H b = some (.tup xs) → H' b = some (.tup xs)) (frzs : ∀ b o u, H b = some (.frz o u) → H' b = some (.frz o u)) (tbls : ∀ b ps, H b = some (.tbl ps) → ∃ more, H' b = some (.tbl (ps ++ more)))
    (ns : ∀ m, s.heap.Ns X.env.locals m → h'.Ns X.env.locals m) (hok : HOk X.prog X.w H' h') (hg : AllBare g') :
    Inv X pins σ H' { s with heap := h', gens := g', drawn := d', toks := t' } := by
  have neL : ∀ b o, X.s₀.heap.get? b = some o → b ≠ X.env.locals := fun b o e => Nat.ne_of_lt (Nat.lt_of_lt_of_le (Heap.lt_size e) I.ok.above)
  have neC : ∀ b o, X.s₀.heap.get? b = some o → b ∉ X.ex → b ∉ ch := fun b o e hx hb => by
    rcases (hch b hb).1 with z | z
    · exact hx z
    · exact absurd (Nat.lt_of_lt_of_le (Heap.lt_size e) z) (Nat.lt_irrefl _)
  have cellK : ∀ x c, X.env.cells.lookup x = some c → ∀ v, s.heap.IsCell c v → h'.IsCell c v := fun x c e v ⟨o, ho, hd⟩ => by
    have nch : c ∉ ch := fun z => (hch c z).2.2.1 x c e rfl
    by_cases hc : c ∈ X.fs
    · obtain ⟨sl, q⟩ := slot c o (I.cne x c e) hc nch ho (I.freeC x c e)
      exact ⟨_, q, hd⟩
    · exact ⟨o, keep c o (I.cne x c e) hc nch ho (I.freeC x c e), hd⟩
  refine ⟨I.ok, I.os, hg, ⟨fun b o e n hb hx => ?_, fun b o e n hb hx => ?_, fun b o e n hx => ?_, fun b o e hx => ?_, fun b xs e => tups b xs (I.base.tups b xs e), fun b o xs e => frzs b o xs (I.base.frzs b o xs e), fun b ps e => ?_⟩, ?_, fun x c e => ?_, ?_, fun x c e => ?_, fun p hp => ?_, hok, I.len⟩
  · exact keep b o (neL b o e) hb (neC b o e hx) (I.base.keep b o e n hb hx) (I.base.free b o e n hx)
  · obtain ⟨sl, e1⟩ := I.base.slot b o e n hb hx
    obtain ⟨sl', e2⟩ := slot b _ (neL b o e) hb (neC b o e hx) e1 (I.base.free b o e n hx)
    exact ⟨sl', e2⟩
  · obtain ⟨o', e1⟩ := I.base.there b o e hx
    exact free b o' (neC b o e hx) e1 (I.base.free b o e n hx)
  · obtain ⟨o', e1⟩ := I.base.there b o e hx
    exact there b o' (neC b o e hx) e1
  · obtain ⟨m1, e1⟩ := I.base.tbls b ps e
    obtain ⟨m2, e2⟩ := tbls b _ e1
    exact ⟨m1 ++ m2, by rw [e2, Array.append_assoc]⟩
  · obtain ⟨m, hn, hl⟩ := I.loc
    refine ⟨m, ns m hn, fun i x v e1 e2 e3 => ?_⟩
    obtain ⟨u, r, l⟩ := hl i x v e1 e2 e3
    refine ⟨u, r, ?_⟩
    rcases l with l | ⟨k, c, e, z⟩
    · exact .inl l
    · exact .inr ⟨k, c, e, cellK x c e _ z⟩
  · obtain ⟨v, z⟩ := I.cell x c e
    exact ⟨v, cellK x c e v z⟩
  · obtain ⟨m, ⟨o, _, _, ho, _⟩, _⟩ := I.loc
    exact free _ o (fun z => (hch _ z).2.1 rfl) ho I.free
  · obtain ⟨v, o, ho, hd⟩ := I.cell x c e
    exact free c o (fun z => (hch c z).2.2.1 x c e rfl) ho (I.freeC x c e)
  · obtain ⟨e, n, ne, nf, d⟩ := I.pin p hp
    have nch : p.1 ∉ ch := fun z => (hch p.1 z).2.2.2 p hp rfl
    exact ⟨keep p.1 p.2 ne nf nch e n, free p.1 p.2 nch e n, ne, nf, d⟩
theorem Inv.un {t' : Nat} (I : Inv X pins σ H s) (u : Un X.fs [] H H' s.heap h') (hok : HOk X.prog X.w H' h') : Inv X pins σ H' { s with heap := h', toks := t' } := by
  obtain ⟨m, ⟨o, es, ep, ho, r⟩, _⟩ := id I.loc
  obtain ⟨sl, hL⟩ := u.any ho I.free (by simp)
  exact I.step (g' := s.gens) (d' := s.drawn) (ch := []) (fun _ z => nomatch z) (fun b o _ hb _ e n => u.keep b o e n hb (by simp)) (fun b o _ hb _ e n => u.slot b o e n hb (by simp)) (fun b o _ e n => u.free b o e n (by simp)) (fun b o _ e => u.there b o e (by simp)) u.tups u.frzs u.tbls (fun m' hm => by
    obtain ⟨o', es', ep', ho', r'⟩ := hm
    rw [ho] at ho'; cases ho'
    exact ⟨_, es', ep', hL, r'⟩) hok I.bare
theorem Inv.call {g' : Array GenState} {t' : Nat} {d' : Drawn} {ch : List Addr} (I : Inv X pins σ H s) (u : Un (frs X.stack) ch H H' s.heap h') (hok : HOk X.prog X.w H' h') (hg : AllBare g')
    (hch : ∀ b ∈ ch, (b ∈ X.ex ∨ X.s₀.heap.objs.size ≤ b) ∧ b ≠ X.env.locals ∧ (∀ x c, X.env.cells.lookup x = some c → c ≠ b) ∧ ∀ p ∈ X.pn ++ pins, p.1 ≠ b) :
    Inv X pins σ H' { s with heap := h', gens := g', drawn := d', toks := t' } := by
  obtain ⟨m, ⟨o, es, ep, ho, r⟩, _⟩ := id I.loc
  obtain ⟨sl, hL⟩ := u.any ho I.free fun z => (hch _ z).2.1 rfl
  exact I.step (ch := ch) hch (fun b o hL hb hc e n => u.keep b o e n (fun z => (List.mem_cons.mp (I.stkSub b z)).elim hL hb) hc) (fun b o _ _ hc e n => u.any e n hc) (fun b o hc e n => u.free b o e n hc) (fun b o hc e => u.there b o e hc) u.tups u.frzs u.tbls (fun m' hm => by
    obtain ⟨o', es', ep', ho', r'⟩ := hm
    rw [ho] at ho'; cases ho'
    exact ⟨_, es', ep', hL, r'⟩) hok hg
theorem Inv.turned {t' : Nat} {it : Addr} (I : Inv X pins σ H s) (k : ∀ b o, b ≠ it → s.heap.get? b = some o → h'.get? b = some o) (hn : H it = none) (hL : it ≠ X.env.locals)
    (h1 : it ∈ X.ex ∨ X.s₀.heap.objs.size ≤ it) (h2 : ∀ x c, X.env.cells.lookup x = some c → c ≠ it) (h3 : ∀ p ∈ X.pn ++ pins, p.1 ≠ it) : Inv X pins σ H { s with heap := h', toks := t' } := by
  have nit : ∀ b u, H b = some u → b ≠ it := fun b u e z => by rw [z, hn] at e; cases e
  refine I.step (g' := s.gens) (d' := s.drawn) (ch := [it]) (fun b hb => ?_) (fun b o _ _ hc e _ => k b o (fun z => hc (by simp [z])) e) (fun b o _ _ hc e _ => ⟨o.slots, k b o (fun z => hc (by simp [z])) e⟩) (fun _ _ _ _ n => n)
    (fun b o hc e => ⟨o, k b o (fun z => hc (by simp [z])) e⟩) (fun _ _ e => e) (fun _ _ _ e => e) (fun b ps e => ⟨#[], by rw [e]; simp⟩) (fun m hm => ?_) (fun b u e => ?_) I.bare
  · have e : b = it := by simpa using hb
    subst e
    exact ⟨h1, hL, h2, h3⟩
  · obtain ⟨o, es, ep, ho, r⟩ := hm
    exact ⟨o, es, ep, k _ o (Ne.symm hL) ho, r⟩
  · refine (I.hok b u e).stay (fun c v hc q => k c v ?_ q) (fun _ q => q) fun _ _ q => q
    rcases hc with z | z
    · rw [z]; exact nit b u e
    · exact nit c _ z
theorem Inv.tok (I : Inv X pins σ H s) (t : Nat) : Inv X pins σ H { s with toks := t } := I.un (h' := s.heap) (t' := t) Un.refl I.hok
theorem Inv.kept {t' : Nat} (I : Inv X pins σ H s) (k : ∀ b u, s.heap.get? b = some u → h'.get? b = some u) : Inv X pins σ H { s with heap := h', toks := t' } := I.un (Un.kept k) (I.hok.kept k)
theorem Inv.laid {a : Addr} {o : HO} {t' : Nat} (I : Inv X pins σ H s) (k : ∀ b u, s.heap.get? b = some u → h'.get? b = some u) (hp : s.heap.objs.size ≤ a) (new : ObjOk X.prog X.w (upd H a o) h' a o) :
    Inv X pins σ (upd H a o) { s with heap := h', toks := t' } := I.un (Un.laid k hp (I.hok.fresh hp)) (I.hok.laid k hp new)
theorem Inv.write {x e : Addr} {o : HO} {t' : Nat} (I : Inv X pins σ H s) (mu : Mut (H x)) (he : e = x ∨ H e = some (.own x)) (k : ∀ b u, b ≠ e → s.heap.get? b = some u → h'.get? b = some u) (heo : ∃ u, h'.get? e = some u)
    (new : ObjOk X.prog X.w (upd H x o) h' x o) : Inv X pins σ (upd H x o) { s with heap := h', toks := t' } := I.un (Un.write mu he k heo) (I.hok.write mu he k heo new)
theorem Inv.pins_of {pins' : List (Addr × Obj)} (I : Inv X pins σ H s) (h : ∀ p ∈ pins', s.heap.get? p.1 = some p.2 ∧ H p.1 = none ∧ p.1 ≠ X.env.locals ∧ p.1 ∉ X.fs ∧ ∀ v, p.2.data ≠ .cell v) : Inv X pins' σ H s :=
  ⟨I.ok, I.os, I.bare, I.base, I.loc, I.cell, I.free, I.freeC, fun p hp => (List.mem_append.mp hp).elim (fun z => I.pin p (List.mem_append_left _ z)) (h p), I.hok, I.len⟩
theorem nodup_ix {N : List Str} (hN : N.Nodup) {i j : Nat} {x : Str} (a : N[i]? = some x) (b : N[j]? = some x) : i = j := by
  obtain ⟨h1, e1⟩ := List.getElem?_eq_some_iff.mp a
  obtain ⟨h2, e2⟩ := List.getElem?_eq_some_iff.mp b
  exact (List.getElem_inj hN).mp (e1.trans e2.symm)
theorem store_ok2 {M : Model} {A : Around} {E : Value → Shared → Prop} {i : Nat} {x : Str} {v : V} {u : Value} {Q : Unit → Shared → Prop} (I : Inv X pins σ H s) (hN : X.N.Nodup) (hi : X.N[i]? = some x) (hx : Loc X.env.scope x) (r : RelV v u)
    (h : ∀ s', Inv X pins (σ.set i (some v)) H s' → (∃ a, Heap.SameBut a s.heap s'.heap ∧ (a = X.env.locals ∨ X.env.cells.lookup x = some a)) → Q () s') (hf : X.fn x = true ∨ X.env.scope.names.lookup x = some .local := by first | exact .inl rfl | exact .inr rfl | assumption) : wpAny M A (storeName X.env x u) Q E s := by
  obtain ⟨m, hn, hl⟩ := id I.loc
  have hcls : (X.env.scope.kind == .class || (X.env.scope.kind == .module && X.env.locals != X.env.globals)) = false := by rw [I.ok.kind]; rfl
  have hiσ : i < σ.length := by rw [I.len]; exact (List.getElem?_eq_some_iff.mp hi).1
  have cne := I.cne
  have tracked : ∀ {a : Addr} {h' : Heap}, (∃ o, s.heap.get? a = some o ∧ H a = none) → Heap.SameBut a s.heap h' → HOk X.prog X.w H h' := fun {a h'} ha hs b ob e => by
    obtain ⟨_, _, hfree⟩ := ha
    refine (I.hok b ob e).stay (fun c w' hc q => (hs.2 c ?_).trans q) (fun _ q => q) fun _ _ q => q
    rintro rfl
    rcases hc with rfl | hc
    · rw [hfree] at e; cases e
    · rw [hfree] at hc; cases hc
  rcases hx with hk | hk
  · refine wpAny_storeName_local hk hn (fun h' hn' hs => ?_) hcls
    obtain ⟨oL, _, _, hoL, _⟩ := id hn
    refine h _ ⟨I.ok, I.os, I.bare, ⟨fun b o e n hb hx => ?_, fun b o e n hb hx => ?_, I.base.free, fun b o e hx => ?_, I.base.tups, I.base.frzs, I.base.tbls⟩, ⟨_, hn', fun j y v' e1 e2 e3 => ?_⟩, fun y c e => ?_, I.free, I.freeC, fun p hp => ?_, tracked ⟨oL, hoL, I.free⟩ hs, by simpa using I.len⟩ ⟨_, hs, .inl rfl⟩
    · exact (hs.2 b (Nat.ne_of_lt (Nat.lt_of_lt_of_le (Heap.lt_size e) I.ok.above))).trans (I.base.keep b o e n hb hx)
    · obtain ⟨sl, e1⟩ := I.base.slot b o e n hb hx
      exact ⟨sl, (hs.2 b (Nat.ne_of_lt (Nat.lt_of_lt_of_le (Heap.lt_size e) I.ok.above))).trans e1⟩
    · obtain ⟨o', e1⟩ := I.base.there b o e hx
      exact ⟨o', (hs.2 b (Nat.ne_of_lt (Nat.lt_of_lt_of_le (Heap.lt_size e) I.ok.above))).trans e1⟩
    · by_cases hj : j = i
      · subst hj
        rw [hi] at e1; cases e1
        rw [List.getElem?_set_self hiσ] at e2
        cases e2
        exact ⟨u, r, .inl ⟨hk, by simp⟩⟩
      · rw [List.getElem?_set_ne (Ne.symm hj)] at e2
        obtain ⟨u', r', q⟩ := hl j y v' e1 e2 e3
        refine ⟨u', r', ?_⟩
        rcases q with ⟨k, e⟩ | ⟨k, c, e, z⟩
        · refine .inl ⟨k, ?_⟩
          have : y ≠ x := fun e => hj (nodup_ix hN e1 (e ▸ hi))
          simp [this, e]
        · exact .inr ⟨k, c, e, z.sameBut hs (cne y c e)⟩
    · obtain ⟨w', z⟩ := I.cell y c e
      exact ⟨w', z.sameBut hs (cne y c e)⟩
    · obtain ⟨e, n, ne, nf, d⟩ := I.pin p hp
      exact ⟨(hs.2 p.1 ne).trans e, n, ne, nf, d⟩
  · have hfn : X.fn x = true := by
      rcases hf with z | z
      · exact z
      · rw [z] at hk; cases hk
    obtain ⟨c, hc⟩ := I.ok.has x (.inl hk)
    obtain ⟨w', z⟩ := I.cell x c hc
    refine wpAny_storeName_cell I.ok.kind hk hc z (fun h' hc' hs => ?_)
    obtain ⟨oc, hoc, hocd⟩ := id z
    refine h { s with heap := h' } ⟨I.ok, I.os, I.bare, ⟨fun b o e n hb hx => ?_, fun b o e n hb hx => ?_, I.base.free, fun b o e hx => ?_, I.base.tups, I.base.frzs, I.base.tbls⟩, ⟨m, hn.sameBut hs (Ne.symm (cne x c hc)), fun j y v' e1 e2 e3 => ?_⟩, fun y c' e => ?_, I.free, I.freeC, fun p hp => ?_, tracked ⟨oc, hoc, I.freeC x c hc⟩ hs, by simpa using I.len⟩ ⟨c, hs, .inr hc⟩
    · exact (hs.2 b (Nat.ne_of_lt (Nat.lt_of_lt_of_le (Heap.lt_size e) (I.ok.cab x c hfn hc)))).trans (I.base.keep b o e n hb hx)
    · obtain ⟨sl, e1⟩ := I.base.slot b o e n hb hx
      exact ⟨sl, (hs.2 b (Nat.ne_of_lt (Nat.lt_of_lt_of_le (Heap.lt_size e) (I.ok.cab x c hfn hc)))).trans e1⟩
    · obtain ⟨o', e1⟩ := I.base.there b o e hx
      exact ⟨o', (hs.2 b (Nat.ne_of_lt (Nat.lt_of_lt_of_le (Heap.lt_size e) (I.ok.cab x c hfn hc)))).trans e1⟩
    · by_cases hj : j = i
      · subst hj
        rw [hi] at e1; cases e1
        rw [List.getElem?_set_self hiσ] at e2
        cases e2
        exact ⟨u, r, .inr ⟨.inl hk, c, hc, hc'⟩⟩
      · rw [List.getElem?_set_ne (Ne.symm hj)] at e2
        obtain ⟨u', r', q⟩ := hl j y v' e1 e2 e3
        refine ⟨u', r', ?_⟩
        rcases q with q | ⟨k, c', e, z'⟩
        · exact .inl q
        · refine .inr ⟨k, c', e, z'.sameBut hs ?_⟩
          rintro rfl
          exact hj (nodup_ix hN e1 (I.ok.inj _ _ _ e hc ▸ hi))
    · by_cases hcc : c' = c
      · subst hcc; exact ⟨_, hc'⟩
      · obtain ⟨w2, z2⟩ := I.cell y c' e
        exact ⟨w2, z2.sameBut hs hcc⟩
    · obtain ⟨e, n, ne, nf, d⟩ := I.pin p hp
      refine ⟨(hs.2 p.1 ?_).trans e, n, ne, nf, d⟩
      intro q
      rw [q, hoc] at e
      have q' : oc = p.2 := Option.some.inj e
      exact d w' (by rw [← q']; exact hocd)
theorem store_ok {M : Model} {A : Around} {E : Value → Shared → Prop} {i : Nat} {x : Str} {v : V} {u : Value} {Q : Unit → Shared → Prop} (I : Inv X pins σ H s) (hN : X.N.Nodup) (hi : X.N[i]? = some x) (hx : Loc X.env.scope x) (r : RelV v u)
    (h : ∀ s', Inv X pins (σ.set i (some v)) H s' → Q () s') (hf : X.fn x = true ∨ X.env.scope.names.lookup x = some .local := by first | exact .inl rfl | exact .inr rfl | assumption) : wpAny M A (storeName X.env x u) Q E s :=
  store_ok2 I hN hi hx r (fun s' I' _ => h s' I') hf
theorem Inv.call' {s' : Shared} {ch : List Addr} (I : Inv X pins σ H s) (ho : s'.os = s.os) (u : Un (frs X.stack) ch H H' s.heap s'.heap) (hok : HOk X.prog X.w H' s'.heap) (hg : AllBare s'.gens)
    (hch : ∀ b ∈ ch, (b ∈ X.ex ∨ X.s₀.heap.objs.size ≤ b) ∧ b ≠ X.env.locals ∧ (∀ x c, X.env.cells.lookup x = some c → c ≠ b) ∧ ∀ p ∈ X.pn ++ pins, p.1 ≠ b) : Inv X pins σ H' s' := by
  obtain ⟨h', g', d', t', o'⟩ := s'
  have e : o' = s.os := ho
  subst e
  exact I.call (g' := g') (t' := t') (d' := d') u hok hg hch
end
abbrev XK := Value → Option Addr → Hp → Prop
abbrev St := List (Option V)
abbrev VK := V → Hp → Prop
abbrev TE := St → Hp → VK → Prop
abbrev TT := St → Hp → (Bool → Hp → Prop) → Prop
abbrev TA := St → Hp → (List V → Hp → Prop) → Prop
structure Ends where
  nx : St → Hp → Prop
  rt : VK
  bk : St → Hp → Prop := fun _ _ => False
  ct : St → Hp → Prop := fun _ _ => False
abbrev TS := Ends → St → Hp → Prop
def EP (X : Cx) (pins : List (Addr × Obj)) (σ : St) (Q : VK) (u : Value) (s' : Shared) : Prop := ∃ v H', Inv X pins σ H' s' ∧ RelV v u ∧ Q v H'
def TP (X : Cx) (pins : List (Addr × Obj)) (σ : St) (Q : Bool → Hp → Prop) (b : Bool) (s' : Shared) : Prop := ∃ H', Inv X pins σ H' s' ∧ Q b H'
def AP (X : Cx) (pins : List (Addr × Obj)) (σ : St) (Q : List V → Hp → Prop) (us : List Value) (s' : Shared) : Prop := ∃ vs H', Inv X pins σ H' s' ∧ Vals vs us ∧ Q vs H'
def SP (X : Cx) (pins : List (Addr × Obj)) (D : Ends) (f : Flow) (s' : Shared) : Prop :=
  match f with
  | .next => ∃ σ' H', Inv X pins σ' H' s' ∧ D.nx σ' H'
  | .brk => ∃ σ' H', Inv X pins σ' H' s' ∧ D.bk σ' H'
  | .cont => ∃ σ' H', Inv X pins σ' H' s' ∧ D.ct σ' H'
  | .ret u => ∃ v σ' H', Inv X pins σ' H' s' ∧ RelV v u ∧ D.rt v H'
def PE (X : Cx) (e : Expr) (t : TE) : Prop :=
  ∀ (pins : List (Addr × Obj)) (s : Shared) (σ : St) (H : Hp) (Q : VK), Inv X pins σ H s → t σ H Q → wpAny (model X.prog X.w) X.A (eval e X.env) (EP X pins σ Q) X.xe s
def PT (X : Cx) (e : Expr) (t : TT) : Prop :=
  ∀ (pins : List (Addr × Obj)) (s : Shared) (σ : St) (H : Hp) (Q : Bool → Hp → Prop), Inv X pins σ H s → t σ H Q → wpAny (model X.prog X.w) X.A (isTrue e X.env (eval e X.env)) (TP X pins σ Q) X.xe s
def PW (X : Cx) (e : Expr) (t : TT) : Prop :=
  ∀ (whole : Sem Value) (pins : List (Addr × Obj)) (s : Shared) (σ : St) (H : Hp) (Q : Bool → Hp → Prop), Inv X pins σ H s → t σ H Q → wpAny (model X.prog X.w) X.A (isTrue e X.env whole) (TP X pins σ Q) X.xe s
theorem PW.pt {X : Cx} {e : Expr} {t : TT} (h : PW X e t) : PT X e t := h _
def PA (X : Cx) (es : List Expr) (t : TA) : Prop :=
  ∀ (pos : Pos) (pins : List (Addr × Obj)) (s : Shared) (σ : St) (H : Hp) (Q : List V → Hp → Prop), Inv X pins σ H s → t σ H Q → wpAny (model X.prog X.w) X.A (spliced (backTo pos (starEach es X.env))) (AP X pins σ Q) X.xe s
def PS (X : Cx) (st : Stmt) (t : TS) : Prop :=
  ∀ (pins : List (Addr × Obj)) (s : Shared) (σ : St) (H : Hp) (D : Ends), Inv X pins σ H s → t D σ H → wpAny (model X.prog X.w) X.A (exec st X.env) (SP X pins D) X.xe s
def PSs (X : Cx) (st : List Stmt) (t : TS) : Prop :=
  ∀ (pins : List (Addr × Obj)) (s : Shared) (σ : St) (H : Hp) (D : Ends), Inv X pins σ H s → t D σ H → wpAny (model X.prog X.w) X.A (execs st X.env) (SP X pins D) X.xe s
theorem thn {α : Type} {t : Sem α} {Q Q' : α → Shared → Prop} {M : Model} {A : Around} {E : Value → Shared → Prop} {s : Shared} (h : wpAny M A t Q E s) (hQ : ∀ a s, Q a s → Q' a s) : wpAny M A t Q' E s := wpAny_mono h hQ fun _ _ x => x
end L2
namespace L2
open PySem PySem.Spec PyProof.Rows
section
variable {X : Cx}
theorem bin {a b : Expr} {ta tb : TE} (ha : PE X a ta) (hb : PE X b tb) {pins : List (Addr × Obj)} {s : Shared} {σ : St} {H : Hp} {R : V → V → Hp → Prop} (I : Inv X pins σ H s) (h : ta σ H fun x H1 => tb σ H1 fun y H2 => R x y H2)
    {α : Type} {Q : α → Shared → Prop} {f : Value → Value → Sem α}
    (hf : ∀ v u s2 x y H2, Inv X pins σ H2 s2 → RelV x v → RelV y u → R x y H2 → wpAny (model X.prog X.w) X.A (f v u) Q X.xe s2) :
    wpAny (model X.prog X.w) X.A (eval a X.env) (fun v s₁ => wpAny (model X.prog X.w) X.A (eval b X.env) (fun u s₂ => wpAny (model X.prog X.w) X.A (f v u) Q X.xe s₂) X.xe s₁) X.xe s := by
  refine thn (ha pins s σ H _ I h) fun v s1 ⟨x, H1, I1, r1, q1⟩ => ?_
  refine thn (hb pins s1 σ H1 _ I1 q1) fun u s2 ⟨y, H2, I2, r2, q2⟩ => ?_
  exact hf v u s2 x y H2 I2 r1 r2 q2
def tVar (i : Nat) : TE := fun σ H Q => ∃ v, σ[i]? = some (some v) ∧ Q v H
def tC (v : V) : TE := fun _ H Q => Q v H
theorem pe_var {i : Nat} {x : Str} {pos : Pos} (hN : X.N[i]? = some x) (hv : Vis X.env.scope x) (hd : (x == ("__debug__" : Str)) = false := by decide) (hcd : (x == ("__classdict__" : Str)) = false := by decide) : PE X (.Name x pos) (tVar i) := by
  intro pins s σ H Q I h
  obtain ⟨v, e, h⟩ := h
  obtain ⟨m, hn, hl⟩ := I.loc
  obtain ⟨u, r, l⟩ := hl i x v hN e hv
  have fin : EP X pins σ Q u s := ⟨v, H, I, r, h⟩
  rcases l with ⟨hk, hm⟩ | ⟨hk, c, hc, hcell⟩
  · exact wpAny_Name (wpAny_loadName_local I.ok.kind hk hn hm fin) hd
  · rcases hk with hk | hk
    · exact wpAny_Name (wpAny_loadName_cell I.ok.kind hk hc hcell fin) hd
    · exact wpAny_Name (wpAny_loadName_free I.ok.kind hk hc hcell fin hcd) hd
theorem pe_int {i j pos} : PE X (.Constant (.int i) j pos) (tC (.int i)) := fun _ _ _ H _ I h => wpAny_Constant_int ⟨.int i, H, I.tok _, ⟨_, rfl⟩, h⟩
theorem pe_bl {b j pos} : PE X (.Constant (.bool b) j pos) (tC (.bl b)) := fun _ _ _ H _ I h => Constant_bool ⟨.bl b, H, I, rfl, h⟩
theorem pe_non {j pos} : PE X (.Constant .none j pos) (tC .non) := fun _ _ _ H _ I h => Constant_none ⟨.non, H, I, rfl, h⟩
theorem pe_str {x j pos} : PE X (.Constant (.str x) j pos) (tC (.str x)) := fun _ _ _ H _ I h => Calls.Constant_str ⟨.str x, H, I.tok _, ⟨_, rfl⟩, h⟩
def Gl (X : Cx) (x : Str) : Prop := X.env.kindOf x = some .globalImplicit
theorem ld_glob {E : Value → Shared → Prop} {pins : List (Addr × Obj)} {s : Shared} {σ : St} {H : Hp} {x : Str} {u : Value} {pos : Pos} {Q : Value → Shared → Prop} (I : Inv X pins σ H s) (hg : Gl X x) (hm : X.mg x = some u) (h : Q u s)
    (hd : (x == ("__debug__" : Str)) = false := by decide) : wpAny (model X.prog X.w) X.A (eval (.Name x pos) X.env) Q E s :=
  Calls.Name_function_global I.ok.kind hg (Calls.loadGlobal_global (by rw [I.ok.glob]; exact I.mod.glob.keeps I.bk) hm h) hd
theorem ld_blt {E : Value → Shared → Prop} {pins : List (Addr × Obj)} {s : Shared} {σ : St} {H : Hp} {x : Str} {u : Value} {pos : Pos} {Q : Value → Shared → Prop} (I : Inv X pins σ H s) (hg : Gl X x) (hm : X.mg x = none) (hv : bootBuiltins x = some u) (h : Q u s)
    (hn : x ≠ "__name__" := by decide) (hd : (x == ("__debug__" : Str)) = false := by decide) : wpAny (model X.prog X.w) X.A (eval (.Name x pos) X.env) Q E s := by
  obtain ⟨mb, h1, h2⟩ := I.mod.blt
  exact Calls.Name_function_global I.ok.kind hg (Calls.loadGlobal_builtin (by rw [I.ok.glob]; exact I.mod.glob.keeps I.bk) hm (by rw [I.ok.blt]; exact h1.keeps I.bk) ((h2 x hn).trans hv) h) hd
theorem pe_glob {x : Str} {v : V} {u : Value} {pos : Pos} (hg : Gl X x) (hm : X.mg x = some u) (r : RelV v u) (hd : (x == ("__debug__" : Str)) = false := by decide) : PE X (.Name x pos) (tC v) :=
  fun _ _ _ H _ I h => ld_glob I hg hm ⟨v, H, I, r, h⟩ hd
variable {a b : Expr} {ta tb : TE} {pos : Pos}
def PC (X : Cx) (op : CmpOp) (a b : Expr) (t : TE) : Prop :=
  ∀ (pins : List (Addr × Obj)) (s : Shared) (σ : St) (H : Hp) (Q : VK), Inv X pins σ H s → t σ H Q →
    wpAny (model X.prog X.w) X.A (eval a X.env) (fun v s₁ => wpAny (model X.prog X.w) X.A (eval b X.env) (fun u s₂ => wpAny (model X.prog X.w) X.A (compareOp op v u) (EP X pins σ Q) X.xe s₂) X.xe s₁) X.xe s
theorem nobehind (b : Expr) {op : CmpOp} (h : op ≠ .In) (h2 : op ≠ .NotIn) : behindInMarks op b = false := by
  have e1 : (op == CmpOp.In) = false := by cases op <;> first | rfl | exact absurd rfl h
  have e2 : (op == CmpOp.NotIn) = false := by cases op <;> first | rfl | exact absurd rfl h2
  cases b <;> simp [behindInMarks, e1, e2]
def tB (t : TE) : TT := fun σ H Q => t σ H fun x H1 => ∃ c, x = .bl c ∧ Q c H1
theorem pe_cmp {op : CmpOp} {t : TE} (h : PC X op a b t) (h1 : behindInMarks op b = false := by first | exact nobehind _ (by decide) (by decide) | rfl) : PE X (.Compare a [op] [b] pos) t := fun pins s σ H Q I hw => wpAny_Compare1 (h pins s σ H Q I hw) h1
theorem pt_cmp {op : CmpOp} {t : TE} (h : PC X op a b t) (h1 : behindInMarks op b = false := by first | exact nobehind _ (by decide) (by decide) | rfl) : PT X (.Compare a [op] [b] pos) (tB t) := by
  intro pins s σ H Q I hw
  refine wpAny_isTrue_Compare1 (thn (h pins s σ H _ I hw) fun v s1 h1 => thn h1 fun u s2 h2 => thn h2 fun c s3 ⟨x, H1, I1, r1, q1⟩ => ?_) h1
  obtain ⟨d, rfl, q⟩ := q1
  cases r1
  exact wpAny_truthy_bool ⟨H1, I1, q⟩
theorem pt_val {e : Expr} {t : TE} (h : PE X e t) (he : ∀ whole, isTrue e X.env whole = (do let v ← whole; standAt e.pos; holding [v] (truthy v)) := by intro _; rfl) : PT X e (tB t) := by
  intro pins s σ H Q I hw
  refine isTrue_plain (thn (h pins s σ H _ I hw) fun v s1 ⟨x, H1, I1, r1, q1⟩ => ?_) (he _)
  obtain ⟨d, rfl, q⟩ := q1
  cases r1
  exact wpAny_truthy_bool ⟨H1, I1, q⟩
variable {tA tB' : TT} {rest : List Expr}
def tAnd (t u : TT) : TT := fun σ H Q => t σ H fun c H1 => if c = true then u σ H1 Q else Q false H1
def tOr (t u : TT) : TT := fun σ H Q => t σ H fun c H1 => if c = true then Q true H1 else u σ H1 Q
def tNot (t : TT) : TT := fun σ H Q => t σ H fun c H1 => Q (!c) H1
theorem pw_and1 (ha : PT X a tA) : PW X (.BoolOp .And [a] pos) tA := by
  intro wh pins s σ H Q I h
  refine isTrue_and (thn (ha pins s σ H Q I h) fun c s1 e => ?_)
  cases c with
  | true => exact isTrue_and_nil e
  | false => exact e
theorem pw_or1 (ha : PT X a tA) : PW X (.BoolOp .Or [a] pos) tA := by
  intro wh pins s σ H Q I h
  refine isTrue_or (thn (ha pins s σ H Q I h) fun c s1 e => ?_)
  cases c with
  | false => exact isTrue_or_nil e
  | true => exact e
theorem pw_and (ha : PT X a tA) (hb : PW X (.BoolOp .And (b :: rest) pos) tB') : PW X (.BoolOp .And (a :: b :: rest) pos) (tAnd tA tB') := by
  intro wh pins s σ H Q I h
  refine isTrue_and (thn (ha pins s σ H _ I h) fun c s1 ⟨H1, I1, q1⟩ => ?_)
  cases c with
  | true => exact hb wh pins s1 σ H1 Q I1 q1
  | false => exact ⟨H1, I1, q1⟩
theorem pw_or (ha : PT X a tA) (hb : PW X (.BoolOp .Or (b :: rest) pos) tB') : PW X (.BoolOp .Or (a :: b :: rest) pos) (tOr tA tB') := by
  intro wh pins s σ H Q I h
  refine isTrue_or (thn (ha pins s σ H _ I h) fun c s1 ⟨H1, I1, q1⟩ => ?_)
  cases c with
  | true => exact ⟨H1, I1, q1⟩
  | false => exact hb wh pins s1 σ H1 Q I1 q1
theorem pt_not (ha : PT X a tA) : PT X (.UnaryOp .Not a pos) (tNot tA) := by
  intro pins s σ H Q I h
  exact isTrue_not (ha pins s σ H (fun c H1 => Q (!c) H1) I h)
def tAndV (ta tb : TE) : TE := fun σ H Q => ta σ H fun x H1 => ∃ c, x = .bl c ∧ if c = true then tb σ H1 Q else Q (.bl false) H1
def tOrV (ta tb : TE) : TE := fun σ H Q => ta σ H fun x H1 => ∃ c, x = .bl c ∧ if c = true then Q (.bl true) H1 else tb σ H1 Q
def tNotV (ta : TE) : TE := fun σ H Q => ta σ H fun x H1 => ∃ c, x = .bl c ∧ Q (.bl (!c)) H1
theorem pe_one {op} {t : TE} (h : PE X a t) : PE X (.BoolOp op [a] pos) t := fun pins s σ H Q I hw => BoolOp_one (h pins s σ H Q I hw)
theorem pe_and (ha : PE X a ta) (hb : PE X (.BoolOp .And (b :: rest) pos) tb) : PE X (.BoolOp .And (a :: b :: rest) pos) (tAndV ta tb) := by
  intro pins s σ H Q I h
  refine BoolOp_and (thn (ha pins s σ H _ I h) fun v s1 ⟨x, H1, I1, r1, q1⟩ => ?_)
  obtain ⟨c, rfl, q1⟩ := q1
  cases r1
  refine wpAny_truthy_bool ?_
  cases c with
  | true => exact hb pins s1 σ H1 Q I1 q1
  | false => exact ⟨.bl false, H1, I1, rfl, q1⟩
def tIf (t : TT) (ta tb : TE) : TE := fun σ H Q => t σ H fun c H1 => if c = true then ta σ H1 Q else tb σ H1 Q
theorem pe_ifExp {c : Expr} (hc : PT X c tA) (ha : PE X a ta) (hb : PE X b tb) : PE X (.IfExp c a b pos) (tIf tA ta tb) := by
  intro pins s σ H Q I h
  refine wpAny_IfExp (thn (hc pins s σ H _ I h) fun d s1 ⟨H1, I1, q1⟩ => ?_)
  cases d with
  | true => exact ha pins s1 σ H1 Q I1 q1
  | false => exact hb pins s1 σ H1 Q I1 q1
end
end L2
namespace L2
open PySem PySem.Spec PyProof.Rows
def SqL (K : PySem.W.Frag) (H : Hp) (a : Addr) (xs : List V) : Prop :=
  Rd H a (.lst xs) ∨
    ∃ (o : Obj) (its : Array Value) (n : Nat), K.lookup a = some o ∧ o.cls = .type "list" ∧ o.dict = none ∧ o.data = .seq its n ∧ its.size ≤ sizeLine ∧ Vals xs its.toList
def SqT (K : PySem.W.Frag) (H : Hp) (a : Addr) (xs : List V) : Prop :=
  Rd H a (.tup xs) ∨
    ∃ (o : Obj) (its : Array Value) (n : Nat), K.lookup a = some o ∧ o.cls = .type "tuple" ∧ o.data = .seq its n ∧ its.size ≤ sizeLine ∧ Vals xs its.toList
def absV : Value → Option V
  | .none => some .non
  | .bool b => some (.bl b)
  | .int i _ => some (.int i)
  | .str x _ => some (.str x)
  | .bytes b _ => some (.byt b)
  | .float b _ => some (.flt b)
  | .ref a => some (.ref a)
  | .type n => some (.ty n)
  | _ => none
theorem RelV.abs {x : V} {u : Value} (r : RelV x u) : absV u = some x := by
  cases x with
  | non => cases r; rfl
  | bl _ => cases r; rfl
  | int _ => obtain ⟨t, rfl⟩ := r; rfl
  | str _ => obtain ⟨t, rfl⟩ := r; rfl
  | byt _ => obtain ⟨t, rfl⟩ := r; rfl
  | flt _ => obtain ⟨t, rfl⟩ := r; rfl
  | ref _ => cases r; rfl
  | ty _ => cases r; rfl
theorem RelV.inj {x y : V} {u : Value} (r : RelV x u) (q : RelV y u) : x = y := Option.some.inj (r.abs.symm.trans q.abs)
theorem Vals.inj : ∀ {xs ys : List V} {us : List Value}, Vals xs us → Vals ys us → xs = ys
  | _, _, _, .nil, .nil => rfl
  | _, _, _, .cons r t, .cons r' t' => by rw [r.inj r', Vals.inj t t']
section
variable {X : Cx} {pins : List (Addr × Obj)} {σ : St} {H : Hp} {s : Shared} {a : Addr} {xs ys : List V}
theorem SqL.of {K : PySem.W.Frag} (h : H a = some (.lst xs)) : SqL K H a xs := .inl (.inl h)
theorem SqT.of {K : PySem.W.Frag} (h : H a = some (.tup xs)) : SqT K H a xs := .inl (.inl h)
theorem Inv.list (I : Inv X pins σ H s) (h : SqL X.K H a xs) : ∃ its : List Value, Vals xs its ∧ PlainL s.heap a its.toArray ∧ xs.length ≤ sizeLine := by
  rcases h with h | ⟨o, its, n, hk, hc, hd, hs, hz, r⟩
  · obtain ⟨z, its, n, r, e⟩ := h.ok I.hok
    exact ⟨its, r, ⟨_, n, e, rfl, rfl, rfl⟩, z⟩
  · refine ⟨its.toList, r, ⟨o, n, I.kIn a o hk, hc, hd, by simpa using hs⟩, ?_⟩
    have e := r.length
    simp only [Array.length_toList] at e
    omega
theorem Inv.tuple (I : Inv X pins σ H s) (h : SqT X.K H a xs) : ∃ its : List Value, Vals xs its ∧ IsTup s.heap a its.toArray ∧ xs.length ≤ sizeLine := by
  rcases h with h | ⟨o, its, n, hk, hc, hs, hz, r⟩
  · obtain ⟨z, its, r, p⟩ := h.ok I.hok
    exact ⟨its, r, p, z⟩
  · refine ⟨its.toList, r, ⟨o, I.kIn a o hk, hc, n, by simpa using hs⟩, ?_⟩
    have e := r.length
    simp only [Array.length_toList] at e
    omega
theorem Inv.list_inj (I : Inv X pins σ H s) (h : SqL X.K H a xs) (h' : SqL X.K H a ys) : xs = ys := by
  obtain ⟨its, r, ⟨o, n, e, _, _, d⟩, _⟩ := I.list h
  obtain ⟨its', r', ⟨o', n', e', _, _, d'⟩, _⟩ := I.list h'
  rw [e] at e'; cases e'
  rw [d] at d'
  injection d' with d1 _
  have : its = its' := by simpa using congrArg Array.toList d1
  subst this
  exact r.inj r'
theorem Inv.tuple_inj (I : Inv X pins σ H s) (h : SqT X.K H a xs) (h' : SqT X.K H a ys) : xs = ys := by
  obtain ⟨its, r, ⟨o, e, _, n, d⟩, _⟩ := I.tuple h
  obtain ⟨its', r', ⟨o', e', _, n', d'⟩, _⟩ := I.tuple h'
  rw [e] at e'; cases e'
  rw [d] at d'
  injection d' with d1 _
  have : its = its' := by simpa using congrArg Array.toList d1
  subst this
  exact r.inj r'
end
abbrev Cx.wish (X : Cx) (E : Value → Shared → Prop) : Cx := { X with xe := E }
abbrev Cx.nox (X : Cx) : Cx := X.wish fun _ _ => False
theorem Cx.Ok.wish {X : Cx} (ok : X.Ok) (E : Value → Shared → Prop) : (X.wish E).Ok :=
  ⟨ok.mod, ok.kind, ok.glob, ok.blt, ok.above, ok.inj, ok.has, ok.cab, ok.hd, ok.frames, ok.stk, ok.exf, ok.bs, ok.bsz, ok.noex, ok.exfs, ok.funs, ok.frf⟩
theorem Cx.Ok.unwish {X : Cx} {E : Value → Shared → Prop} (ok : (X.wish E).Ok) : X.Ok :=
  ⟨ok.mod, ok.kind, ok.glob, ok.blt, ok.above, ok.inj, ok.has, ok.cab, ok.hd, ok.frames, ok.stk, ok.exf, ok.bs, ok.bsz, ok.noex, ok.exfs, ok.funs, ok.frf⟩
section
variable {X : Cx} {pins : List (Addr × Obj)} {σ : St} {H : Hp} {s : Shared} {E : Value → Shared → Prop}
theorem Inv.wish (I : Inv X pins σ H s) (E : Value → Shared → Prop) : Inv (X.wish E) pins σ H s := ⟨I.ok.wish E, I.os, I.bare, I.base, I.loc, I.cell, I.free, I.freeC, I.pin, I.hok, I.len⟩
theorem Inv.unwish (I : Inv (X.wish E) pins σ H s) : Inv X pins σ H s := ⟨I.ok.unwish, I.os, I.bare, I.base, I.loc, I.cell, I.free, I.freeC, I.pin, I.hok, I.len⟩
theorem SP.unwish {D : Ends} {f : Flow} {s' : Shared} (h : SP (X.wish E) pins D f s') : SP X pins D f s' := by
  cases f with
  | next => obtain ⟨σ', H', I, q⟩ := h; exact ⟨σ', H', I.unwish, q⟩
  | brk => obtain ⟨σ', H', I, q⟩ := h; exact ⟨σ', H', I.unwish, q⟩
  | cont => obtain ⟨σ', H', I, q⟩ := h; exact ⟨σ', H', I.unwish, q⟩
  | ret u => obtain ⟨v, σ', H', I, r, q⟩ := h; exact ⟨v, σ', H', I.unwish, r, q⟩
theorem PSs.nox {st : List Stmt} {t : TS} (h : PSs X.nox st t) : PSs X st t := fun pins s σ H D I hw =>
  wpAny_mono (h pins s σ H D (I.wish _) hw) (fun _ _ q => q.unwish) fun _ _ z => False.elim z
end
section
variable {X : Cx} {st : Stmt} {rest : List Stmt} {t u : TS} {e : Expr} {te : TE} {pos : Pos}
def tNext : TS := fun D σ H => D.nx σ H
def tSeq (t u : TS) : TS := fun D σ H => t { D with nx := u D } σ H
theorem pss_nil : PSs X [] tNext := fun _ _ σ H _ I h => wpAny_execs_nil ⟨σ, H, I, h⟩
theorem pss_cons (h1 : PS X st t) (h2 : PSs X rest u) : PSs X (st :: rest) (tSeq t u) := by
  intro pins s σ H D I h
  refine wpAny_execs_cons (thn (h1 pins s σ H { D with nx := u D } I h) fun f s1 q => ?_)
  cases f with
  | next =>
    obtain ⟨σ', H', I', q⟩ := q
    exact h2 pins s1 σ' H' D I' q
  | ret v => exact q
  | brk => exact q
  | cont => exact q
theorem pss_one (h1 : PS X st t) : PSs X [st] t := by
  intro pins s σ H D I h
  refine wpAny_execs_cons (thn (h1 pins s σ H D I h) fun f s1 q => ?_)
  cases f with
  | next => exact wpAny_execs_nil q
  | ret v => exact q
  | brk => exact q
  | cont => exact q
theorem Inv.quiet {pins : List (Addr × Obj)} {σ : St} {H : Hp} {s : Shared} (I : Inv X pins σ H s) : interactive X.env = false := by simp [interactive, I.ok.kind]
def tDrop (te : TE) : TS := fun D σ H => te σ H fun _ H1 => D.nx σ H1
theorem ps_expr (he : PE X e te) (hs : swapsWith e none pos.line X.env = pure false := by rfl) : PS X (.Expr e pos) (tDrop te) := by
  intro pins s σ H D I h
  exact wpAny_Expr_any (thn (he pins s σ H _ I h) fun v s1 ⟨x, H1, I1, r1, q1⟩ => ⟨σ, H1, I1, q1⟩) I.quiet hs
def tRet (te : TE) : TS := fun D σ H => te σ H D.rt
theorem ps_ret (he : PE X e te) : PS X (.Return (some e) pos) (tRet te) := by
  intro pins s σ H D I h
  exact wpAny_Return_some (thn (he pins s σ H _ I h) fun v s1 ⟨x, H1, I1, r1, q1⟩ => ⟨x, σ, H1, I1, r1, q1⟩)
def tRetN : TS := fun D _ H => D.rt .non H
def tIfS (c : TT) (t u : TS) : TS := fun D σ H => c σ H fun b H1 => if b = true then t D σ H1 else u D σ H1
theorem ps_if {c : Expr} {a b : List Stmt} {tc : TT} (hc : PT X c tc) (ha : PSs X a t) (hb : PSs X b u) : PS X (.If c a b pos) (tIfS tc t u) := by
  intro pins s σ H D I h
  refine wpAny_If (thn (hc pins s σ H _ I h) fun d s1 ⟨H1, I1, q1⟩ => ?_)
  cases d with
  | true => exact ha pins s1 σ H1 D I1 q1
  | false => exact hb pins s1 σ H1 D I1 q1
def tNever : TS := fun _ _ _ => False
end
abbrev TG := V → St → Hp → (St → Hp → Prop) → Prop
abbrev TGs := List V → St → Hp → (St → Hp → Prop) → Prop
def PG (X : Cx) (target : Expr) (t : TG) : Prop :=
  ∀ (pins : List (Addr × Obj)) (s : Shared) (σ : St) (H : Hp) (v : V) (u : Value) (Q : St → Hp → Prop), Inv X pins σ H s → RelV v u → t v σ H Q →
    wpAny (model X.prog X.w) X.A (assign target X.env u) (fun _ s' => ∃ σ' H', Inv X pins σ' H' s' ∧ Q σ' H') X.xe s
def PGs (X : Cx) (ts : List Expr) (t : TGs) : Prop :=
  ∀ (pins : List (Addr × Obj)) (s : Shared) (σ : St) (H : Hp) (vs : List V) (us : List Value) (Q : St → Hp → Prop), Inv X pins σ H s → Vals vs us → t vs σ H Q →
    wpAny (model X.prog X.w) X.A (assignInOrder ((assignEach ts X.env).map (·.2)) us) (fun _ s' => ∃ σ' H', Inv X pins σ' H' s' ∧ Q σ' H') X.xe s
abbrev TSet := V → V → V → Hp → (Hp → Prop) → Prop
def PSet (X : Cx) (t : TSet) : Prop :=
  ∀ (pins : List (Addr × Obj)) (s : Shared) (σ : St) (H : Hp) (o i v : V) (ov iv u : Value) (Q : Hp → Prop), Inv X pins σ H s → RelV o ov → RelV i iv → RelV v u → t o i v H Q →
    wpAny (model X.prog X.w) X.A (setItem ov iv u) (fun _ s' => ∃ H', Inv X pins σ H' s' ∧ Q H') X.xe s
abbrev TIp := V → V → Hp → VK → Prop
section
variable {X : Cx} {pos : Pos}
def gName (i : Nat) : TG := fun v σ H Q => Q (σ.set i (some v)) H
theorem pg_name {i : Nat} {x : Str} (hN : X.N.Nodup) (hi : X.N[i]? = some x) (hx : Loc X.env.scope x) (hf : X.fn x = true ∨ X.env.scope.names.lookup x = some .local := by first | exact .inl rfl | exact .inr rfl | assumption) : PG X (.Name x pos) (gName i) := by
  intro pins s σ H v u Q I r h
  exact wpAny_assign_Name (store_ok I hN hi hx r (fun s' I' => ⟨_, H, I', h⟩) hf)
def gNil : TGs := fun vs σ H Q => vs = [] ∧ Q σ H
def gCons (t : TG) (u : TGs) : TGs := fun vs σ H Q => ∃ v r, vs = v :: r ∧ t v σ H fun σ' H' => u r σ' H' Q
theorem pgs_nil : PGs X [] gNil := by
  intro pins s σ H vs us Q I r h
  obtain ⟨e, h⟩ := h
  subst e
  cases r
  exact assignInOrder_nil ⟨σ, H, I, h⟩
theorem pgs_cons {e : Expr} {es : List Expr} {t : TG} {u : TGs} (h1 : PG X e t) (h2 : PGs X es u)
    (hs : (assignEach (e :: es) X.env).map (·.2) = assign e X.env :: (assignEach es X.env).map (·.2) := by rfl) : PGs X (e :: es) (gCons t u) := by
  intro pins s σ H vs us Q I r h
  obtain ⟨v, vr, e1, h⟩ := h
  subst e1
  cases r with
  | cons r rr =>
    rw [hs]
    refine assignInOrder_cons (thn (h1 pins s σ H _ _ _ I r h) fun _ s1 ⟨σ1, H1, I1, q1⟩ => ?_)
    exact h2 pins s1 σ1 H1 _ _ Q I1 rr q1
def gTup (K : PySem.W.Frag) (n : Nat) (t : TGs) : TG := fun v σ H Q => ∃ a xs, v = .ref a ∧ SqT K H a xs ∧ xs.length = n ∧ t xs σ H Q
theorem pg_tup {es : List Expr} {k : Nat} {t : TGs} {n : Nat} (hc : X.calm = true) (h : PGs X es t)
    (hn : (assignEach es X.env).length = n := by rfl) (hst : (assignEach es X.env).findIdx? (·.1) = none := by rfl) : PG X (.Tuple es k pos) (gTup X.K n t) := by
  intro pins s σ H v u Q I r hw
  obtain ⟨a, xs, e1, hq, hl, hw⟩ := hw
  subst e1
  cases r
  obtain ⟨its, rv, ht, hz⟩ := I.tuple hq
  refine assign_Tuple_tuple (I.ok.hd hc) ht (by simp [hn, ← hl, rv.length]) hst fun h' hx => ?_
  have I1 : Inv X pins σ H { s with heap := h' } := I.kept (t' := s.toks) fun b o e => hx b o (Nat.ne_of_lt (Heap.lt_size e)) e
  exact h pins _ σ H xs _ Q I1 (by simpa using rv) hw
def gSub (to ti : TE) (t : TSet) : TG := fun v σ H Q => to σ H fun o H1 => ti σ H1 fun i H2 => t o i v H2 fun H3 => Q σ H3
theorem pg_sub {o i : Expr} {to ti : TE} {t : TSet} (ho : PE X o to) (hi : PE X i ti) (hs : PSet X t)
    (ha : ∀ v, assign (.Subscript o i pos) X.env v = (do
      let ov ← holding [v] (eval o X.env)
      let iv ← holding [v, ov] (eval i X.env)
      standAt pos
      holding [v, ov, iv] (setItem ov iv v)
      release [v, ov, iv] []) := by intro _; rfl) : PG X (.Subscript o i pos) (gSub to ti t) := by
  intro pins s σ H v u Q I r h
  rw [ha]
  refine wpAny_bind (wpAny_holding (thn (ho pins s σ H _ I h) fun ov s1 ⟨x, H1, I1, r1, q1⟩ => ?_))
  refine wpAny_bind (wpAny_holding (thn (hi pins s1 σ H1 _ I1 q1) fun iv s2 ⟨y, H2, I2, r2, q2⟩ => ?_))
  refine wpAny_bind (wpAny_standAt (wpAny_bind (wpAny_holding (thn (hs pins s2 σ H2 x y v ov iv u _ I2 r1 r2 r q2) fun _ s3 ⟨H3, I3, q3⟩ => ?_))))
  exact wpAny_release ⟨σ, H3, I3, q3⟩
def tAsg (te : TE) (g : TG) : TS := fun D σ H => te σ H fun x H1 => g x σ H1 D.nx
theorem ps_asg {tg e : Expr} {te : TE} {g : TG} (he : PE X e te) (hg : PG X tg g) (hs : swapsWithSole [tg] e pos.line X.env = pure false := by rfl) (hw : swappedStores [tg] e X.env = pure none := by rfl)
    (h1 : (assignEach [tg] X.env).map (·.2) = [assign tg X.env] := by rfl) : PS X (.Assign [tg] e pos) (tAsg te g) := by
  intro pins s σ H D I h
  refine wpAny_Assign_stores (thn (he pins s σ H _ I h) fun v s1 ⟨x, H1, I1, r1, q1⟩ => ?_) hs hw
  rw [h1]
  exact thn (hg pins s1 σ H1 x v _ I1 r1 q1) fun _ s2 q => q
theorem ps_set {i : Nat} {x : Str} {e : Expr} {te : TE} {pos' : Pos} (hN : X.N.Nodup) (hi : X.N[i]? = some x) (hx : Loc X.env.scope x) (he : PE X e te) (hs : swapsWith e (some (.Name x pos')) pos.line X.env = pure false := by rfl) (hf : X.fn x = true ∨ X.env.scope.names.lookup x = some .local := by first | exact .inl rfl | exact .inr rfl | assumption) :
    PS X (.Assign [.Name x pos'] e pos) (tAsg te (gName i)) := by
  intro pins s σ H D I h
  refine wpAny_Assign_Name (thn (he pins s σ H _ I h) fun v s1 ⟨y, H1, I1, r1, q1⟩ => ?_) hs
  exact store_ok I1 hN hi hx r1 (fun s2 I2 => ⟨_, H1, I2, q1⟩) hf
def tAug (i : Nat) (te : TE) (ti : TIp) : TS := fun D σ H => ∃ x, σ[i]? = some (some x) ∧ te σ H fun y H1 => ti x y H1 fun z H2 => D.nx (σ.set i (some z)) H2
def ipI (f : Int → Int → Int) : TIp := fun x y H Q => ∃ i j, x = .int i ∧ y = .int j ∧ Q (.int (f i j)) H
end
section
variable {X : Cx} {pos : Pos}
def tWhile (c : TT) (tb : TS) : TS := fun D σ H => ∃ W : Nat → St → Hp → Prop, (∃ m, W m σ H) ∧ ∀ m σ H, W m σ H →
  c σ H fun b H1 => if b = true then ∃ N : St → Hp → Prop, (∀ σ' H', N σ' H' → ∃ m', m' < m ∧ W m' σ' H') ∧ tb { D with nx := N, ct := N, bk := D.nx } σ H1 else D.nx σ H1
theorem ps_while {c : Expr} {body : List Stmt} {tc : TT} {tb : TS} (hp : PassesOwn (model X.prog X.w) X.A X.env X.xe) (hc : PT X c tc) (hb : PSs X body tb) : PS X (.While c body [] pos) (tWhile tc tb) := by
  intro pins s σ H D I h
  obtain ⟨W, ⟨m0, w0⟩, turn⟩ := h
  refine wpAny_While (codeAny_whileLoop (fun n s' => ∃ σ' H', Inv X pins σ' H' s' ∧ W n σ' H') ?_ m0 ⟨σ, H, I, w0⟩)
  rintro n s1 ⟨σ1, H1, I1, w1⟩
  refine wpAny_passesOwn hp (thn (hc pins s1 σ1 H1 _ I1 (turn n σ1 H1 w1)) fun b s2 ⟨H2, I2, q2⟩ => ?_)
  cases b with
  | true =>
    obtain ⟨N, hN, q2⟩ := q2
    rw [if_pos rfl]
    refine wpAny_passesOwn hp (thn (hb pins s2 σ1 H2 _ I2 q2) fun f s3 q3 => ?_)
    cases f with
    | next =>
      obtain ⟨σ3, H3, I3, n3⟩ := q3
      obtain ⟨m', hm, w3⟩ := hN σ3 H3 n3
      exact ⟨m', hm, σ3, H3, I3, w3⟩
    | cont =>
      obtain ⟨σ3, H3, I3, n3⟩ := q3
      obtain ⟨m', hm, w3⟩ := hN σ3 H3 n3
      exact ⟨m', hm, σ3, H3, I3, w3⟩
    | brk => exact q3
    | ret v => exact q3
  | false =>
    rw [if_neg Bool.false_ne_true]
    exact wpAny_execs_nil ⟨σ1, H2, I2, q2⟩
end
structure It where
  go : Nat → Hp → Prop
  yld : Nat → Hp → V → Hp → Prop
  stop : Nat → Hp → Prop
def FpOk (X : Cx) (pins : List (Addr × Obj)) (H : Hp) (b : Addr) : Prop :=
  H b = none ∧ b ≠ X.env.locals ∧ b ∉ X.fs ∧ (b ∈ X.ex ∨ X.s₀.heap.objs.size ≤ b) ∧ (∀ x c, X.env.cells.lookup x = some c → c ≠ b) ∧ ∀ p ∈ X.pn ++ pins, p.1 ≠ b
theorem Inv.fpOk {X : Cx} {pins : List (Addr × Obj)} {σ : St} {H H' : Hp} {s : Shared} {b : Addr} (I : Inv X pins σ H s) (hb : s.heap.objs.size ≤ b) (hn : H' b = none) : FpOk X pins H' b := by
  refine ⟨hn, Nat.ne_of_gt (Nat.lt_of_lt_of_le I.lt hb), I.nofs hb, .inr (Nat.le_trans I.sz hb), fun x c e z => ?_, fun p hp z => ?_⟩
  · obtain ⟨v, q⟩ := I.cell x c e
    exact absurd (Nat.lt_of_lt_of_le q.lt (by rw [z]; exact hb)) (Nat.lt_irrefl _)
  · exact absurd (Nat.lt_of_lt_of_le (Heap.lt_size (I.pin p hp).1) (by rw [z]; exact hb)) (Nat.lt_irrefl _)
structure Turn (P : Program) (w : World) (K : PySem.W.Frag) (tg : Expr) (J : It) (fp : List Addr) (it : Addr) (tn : Nat → Heap → Prop) : Prop where
  mem : it ∈ fp
  obj : ∀ i h, tn i h → ∀ b ∈ fp, ∃ o, h.get? b = some o ∧ ∀ v, o.data ≠ .cell v
  keep : ∀ i h h', tn i h → (∀ b ∈ fp, ∀ o, h.get? b = some o → h'.get? b = some o) → tn i h'
  item : ∀ (X : Cx), X.prog = P → X.w = w → X.K = K → X.calm = true → ∀ (i : Nat) (pins : List (Addr × Obj)) (s : Shared) (σ : St) (H : Hp) (E : Value → Shared → Prop), Inv X pins σ H s → (∀ b ∈ fp, FpOk X pins H b) → tn i s.heap → J.go i H →
    wpAny (model P w) X.A (pyNext (.ref it)) (fun r s1 => ∃ u, r = some u ∧
      wpAny (model P w) X.A (letOwnedTupleGo tg (.ref it) u) (fun _ s2 => ∃ x H', Inv X pins σ H' s2 ∧ RelV x u ∧ J.yld i H x H' ∧ tn (i + 1) s2.heap ∧ ∀ b ∈ fp, H' b = none) E s1) E s
  done : ∀ (X : Cx), X.prog = P → X.w = w → X.K = K → X.calm = true → ∀ (i : Nat) (pins : List (Addr × Obj)) (s : Shared) (σ : St) (H : Hp) (E : Value → Shared → Prop), Inv X pins σ H s → (∀ b ∈ fp, FpOk X pins H b) → tn i s.heap → J.stop i H →
    wpAny (model P w) X.A (pyNext (.ref it)) (fun r s1 => r = none ∧ Inv X pins σ H s1) E s
  self : ∀ (A : Around) (i : Nat) (s : Shared) (Q : Value → Shared → Prop) (E : Value → Shared → Prop), tn i s.heap → Q (.ref it) s → wpAny (model P w) A (pyIter (.ref it)) Q E s
abbrev TI := St → Hp → (It → Hp → Prop) → Prop
def PIE (X : Cx) (pins : List (Addr × Obj)) (σ : St) (tg : Expr) (R : It → Hp → Prop) (itv : Value) (s2 : Shared) : Prop :=
  ∃ (it : Addr) (fp : List Addr) (tn : Nat → Heap → Prop) (J : It) (H' : Hp), itv = .ref it ∧ Inv X pins σ H' s2 ∧ Turn X.prog X.w X.K tg J fp it tn ∧ tn 0 s2.heap ∧ (∀ b ∈ fp, FpOk X pins H' b) ∧ R J H'
def PI (X : Cx) (tg iter : Expr) (wi : TI) : Prop :=
  ∀ (pins : List (Addr × Obj)) (s : Shared) (σ : St) (H : Hp) (R : It → Hp → Prop), Inv X pins σ H s → wi σ H R →
    wpAny (model X.prog X.w) X.A (eval iter X.env) (fun v s1 => wpAny (model X.prog X.w) X.A (pyIter v) (PIE X pins σ tg R) X.xe s1) X.xe s
theorem go_of {M : Model} {A : Around} {E : Value → Shared → Prop} {s : Shared} {tg : Expr} {it : Addr} {u : Value} {o : Obj} {n : String} {vs : Array Value} {Q : Unit → Shared → Prop} (ho : s.heap.get? it = some o) (hc : o.cls = .type n) (hd : o.data = .fields vs)
    (hn : ["enumerate", "zip", "dict_itemiterator", "dict_reverseitemiterator", "odict_iterator", "itertools.zip_longest", "itertools.pairwise"].contains n = false) (hQ : Q () s) : wpAny M A (letOwnedTupleGo tg (.ref it) u) Q E s := by
  unfold letOwnedTupleGo
  cases tg <;> first
    | exact wpAny_pure hQ
    | (cases u <;> first
        | exact wpAny_pure hQ
        | (refine wpAny_bind (wpAny_load ho ?_)
           rw [hc, hd]
           show wpAny M A (if (["enumerate", "zip", "dict_itemiterator", "dict_reverseitemiterator", "odict_iterator", "itertools.zip_longest", "itertools.pairwise"].contains n && vs[0]? == some (rawInt _)) = true then _ else _) Q E s
           rw [if_neg (by intro h; rw [hn, Bool.false_and] at h; cases h)]
           exact wpAny_pure hQ))
def Itl (K : PySem.W.Frag) (a : Addr) : It :=
  ⟨fun i H => ∃ xs x, SqL K H a xs ∧ xs[i]? = some x, fun i H x H' => H' = H ∧ ∀ xs, SqL K H a xs → xs[i]? = some x, fun i H => ∃ xs, SqL K H a xs ∧ xs.length ≤ i⟩
def Itt (K : PySem.W.Frag) (a : Addr) : It :=
  ⟨fun i H => ∃ xs x, SqT K H a xs ∧ xs[i]? = some x, fun i H x H' => H' = H ∧ ∀ xs, SqT K H a xs → xs[i]? = some x, fun i H => ∃ xs, SqT K H a xs ∧ xs.length ≤ i⟩
def Itr (lo : Int) (n : Nat) : It := ⟨fun i _ => i < n, fun i H x H' => H' = H ∧ x = .int (lo + i), fun i _ => n ≤ i⟩
theorem turn_list {P : Program} {w : World} {K : PySem.W.Frag} {tg : Expr} (a it : Addr) : Turn P w K tg (Itl K a) [it] it (fun i h => h.IsListIter it a i) where
  mem := by simp
  obj := fun i h st b hb => by
    have e : b = it := by simpa using hb
    subst e
    obtain ⟨o, e, c, d⟩ := st
    exact ⟨o, e, fun v z => by rw [d] at z; cases z⟩
  keep := fun i h h' st k => st.at fun o e => k it (by simp) o e
  item := by
    intro X hP hw hK hc i pins s σ H E I hf st hg
    subst hP hw hK
    obtain ⟨xs, x, hq, hx⟩ := hg
    obtain ⟨its, rv, p, hz⟩ := I.list hq
    obtain ⟨u, hu, ru⟩ := rv.get hx
    obtain ⟨f0, f1, f2, f3, f4, f5⟩ := hf it (by simp)
    refine wpAny_pyNext_list_item st p.isList (x := u) (by simpa using hu) fun h' st' sb => ?_
    have I1 : Inv X pins σ H { s with heap := h' } := I.turned (t' := s.toks) (fun b o hb e => (sb.2 b hb).trans e) f0 f1 f3 f4 f5
    obtain ⟨o, e, c, d⟩ := id st'
    exact ⟨u, rfl, go_of (s := { s with heap := h' }) e c d (by decide) ⟨x, H, I1, ru, ⟨rfl, fun ys hy => by rw [I.list_inj hy hq]; exact hx⟩, st', fun b hb => (hf b hb).1⟩⟩
  done := by
    intro X hP hw hK hc i pins s σ H E I hf st hg
    subst hP hw hK
    obtain ⟨xs, hq, hx⟩ := hg
    obtain ⟨its, rv, p, hz⟩ := I.list hq
    obtain ⟨f0, f1, f2, f3, f4, f5⟩ := hf it (by simp)
    have hl := rv.length
    exact wpAny_pyNext_list_end (I.ok.hd hc) st p.isList (by simp; omega) fun h' eb => ⟨rfl, I.turned (t' := s.toks) (fun b o hb e => eb b o hb e) f0 f1 f3 f4 f5⟩
  self := fun _ _ _ _ _ st h => wpAny_pyIter_listiter st h
theorem turn_range {P : Program} {w : World} {K : PySem.W.Frag} {tg : Expr} (it : Addr) (lo : Int) (n : Nat) : Turn P w K tg (Itr lo n) [it] it (fun i h => IsRangeIter h it (lo + (i : Nat) * 1) ((n : Int) - (i : Nat)) 1) where
  mem := by simp
  obj := fun i h st b hb => by
    have e : b = it := by simpa using hb
    subst e
    exact ⟨_, st, fun v z => by
      have z' : Data.fields _ = Data.cell v := z
      cases z'⟩
  keep := fun i h h' st k => k it (by simp) _ st
  item := by
    intro X hP hw hK hc i pins s σ H E I hf st hg
    subst hP hw hK
    obtain ⟨f0, f1, f2, f3, f4, f5⟩ := hf it (by simp)
    have W := Walks.range (prog := X.prog) (w := X.w) (I.ok.hd hc) it lo 1 n
    refine W.item i s _ _ hg st fun v h' tk hv st' kk => ?_
    obtain ⟨t, rfl⟩ := hv
    have I1 : Inv X pins σ H { s with heap := h', toks := tk } := I.turned (fun b o hb e => kk b o (by simpa using hb) e) f0 f1 f3 f4 f5
    refine ⟨_, rfl, go_of (s := { s with heap := h', toks := tk }) (n := "range_iterator") st' rfl rfl (by decide) ⟨.int (lo + i), H, I1, ⟨t, ?_⟩, ⟨rfl, rfl⟩, st', fun b hb => (hf b hb).1⟩⟩
    rw [Int.mul_one]
  done := by
    intro X hP hw hK hc i pins s σ H E I hf st hg
    subst hP hw hK
    obtain ⟨f0, f1, f2, f3, f4, f5⟩ := hf it (by simp)
    exact wpAny_pyNext_range_end (I.ok.hd hc) st (by have : n ≤ i := hg; omega) fun h' eb => ⟨rfl, I.turned (t' := s.toks) (fun b o hb e => eb b o hb e) f0 f1 f3 f4 f5⟩
  self := fun _ _ _ _ _ st h => wpAny_pyIter_rangeiter st h
end L2
namespace L2
open PySem PySem.Spec PyProof.Rows
section
variable {X : Cx} {tg : Expr}
def iList (K : PySem.W.Frag) (tl : TE) : TI := fun σ H R => tl σ H fun x H1 => ∃ a, x = .ref a ∧ (∃ xs, SqL K H1 a xs) ∧ R (Itl K a) H1
def iTup (K : PySem.W.Frag) (tl : TE) : TI := fun σ H R => tl σ H fun x H1 => ∃ a, x = .ref a ∧ (∃ xs, SqT K H1 a xs) ∧ R (Itt K a) H1
theorem pi_list {l : Expr} {tl : TE} (hl : PE X l tl) : PI X tg l (iList X.K tl) := by
  intro pins s σ H R I h
  refine thn (hl pins s σ H _ I h) fun v s1 ⟨x, H1, I1, r1, q1⟩ => ?_
  obtain ⟨a, e, ⟨xs, hq⟩, q⟩ := q1
  subst e
  cases r1
  obtain ⟨its, rv, p, hz⟩ := I1.list hq
  refine wpAny_pyIter_list p.isList ?_
  refine ⟨s1.heap.objs.size, [s1.heap.objs.size], _, _, H1, rfl, I1.kept (t' := s1.toks) fun b o e => Heap.get?_push_of_some _ e, turn_list a _, ⟨_, Heap.get?_push_size _ rfl, rfl, rfl⟩, fun b hb => ?_, q⟩
  have e : b = s1.heap.objs.size := by simpa using hb
  subst e
  exact I1.fpOk (Nat.le_refl _) (I1.hok.fresh (Nat.le_refl _))
theorem range_it {pins : List (Addr × Obj)} {σ : St} {H : Hp} {s : Shared} {R : It → Hp → Prop} {E : Value → Shared → Prop} {lo hi : Int} {t u v : Tok} {tk : Nat} (I : Inv X pins σ H s) (h1 : -(2 ^ 62) ≤ lo) (h2 : lo < 2 ^ 62) (h3 : -(2 ^ 62) ≤ hi) (h4 : hi < 2 ^ 62)
    (q : R (Itr lo (hi - lo).toNat) H) : wpAny (model X.prog X.w) X.A (pyIter (.ref s.heap.objs.size)) (PIE X pins σ tg R) E { s with heap := s.heap.push { cls := .type "range", data := .fields #[.int lo t, .int hi u, .int 1 v] }, toks := tk } := by
  refine wpAny_pyIter_range (IsRange.new ..) (small_one h1 h2 h3 h4) ?_
  have I1 : Inv X pins σ H { s with heap := s.heap.push { cls := .type "range", data := .fields #[.int lo t, .int hi u, .int 1 v] }, toks := tk } := I.kept fun b o e => Heap.get?_push_of_some _ e
  refine ⟨(s.heap.push { cls := .type "range", data := .fields #[.int lo t, .int hi u, .int 1 v] }).objs.size, [(s.heap.push { cls := .type "range", data := .fields #[.int lo t, .int hi u, .int 1 v] }).objs.size], _, _, H, rfl,
    I1.kept (t' := tk) fun b o e => Heap.get?_push_of_some _ e, turn_range _ lo (hi - lo).toNat, ?_, fun b hb => ?_, q⟩
  · have e1 : lo + ((0 : Nat) : Int) * 1 = lo := by simp
    have e2 : (((hi - lo).toNat : Nat) : Int) - ((0 : Nat) : Int) = Builtin.Range.rangeSize lo hi 1 := by rw [rangeSize_one]; split <;> omega
    show IsRangeIter _ _ (lo + ((0 : Nat) : Int) * 1) ((((hi - lo).toNat : Nat) : Int) - ((0 : Nat) : Int)) 1
    rw [e1, e2]
    exact Heap.get?_push_size _ rfl
  · have e : b = (s.heap.push { cls := .type "range", data := .fields #[.int lo t, .int hi u, .int 1 v] }).objs.size := by simpa using hb
    subst e
    exact I1.fpOk (Nat.le_refl _) (I1.hok.fresh (Nat.le_refl _))
def iRng1 (ta : TA) : TI := fun σ H R => ta σ H fun vs H1 => ∃ j : Int, vs = [.int j] ∧ -(2 ^ 62) ≤ j ∧ j < 2 ^ 62 ∧ R (Itr 0 j.toNat) H1
def iRng2 (ta : TA) : TI := fun σ H R => ta σ H fun vs H1 => ∃ i j : Int, vs = [.int i, .int j] ∧ (-(2 ^ 62) ≤ i ∧ i < 2 ^ 62 ∧ -(2 ^ 62) ≤ j ∧ j < 2 ^ 62) ∧ R (Itr i (j - i).toNat) H1
theorem pi_range1 {a : Expr} {ta : TA} {p pos : Pos} (hg : Gl X "range") (hm : X.mg "range" = none) (ha : PA X [a] ta) (hs : starEach [a] X.env = [(false, eval a X.env)] := by rfl) : PI X tg (.Call (.Name "range" p) [a] [] pos) (iRng1 ta) := by
  intro pins s σ H R I h
  refine Call_ (ld_blt I hg hm boot_range (PyProof.Rows.callWith_type1 (thn (ha pos pins s σ H _ I h) fun us s1 ⟨vs, H1, I1, r1, q1⟩ => ?_) hs rfl))
  obtain ⟨j, e, q1, q2, q⟩ := q1
  subst e
  cases r1 with
  | cons r rr =>
    cases rr
    obtain ⟨t, rfl⟩ := r
    exact call_range_1 (range_it I1 (by omega) (by omega) q1 q2 (by simpa using q))
theorem pi_range2 {a b : Expr} {ta : TA} {p pos : Pos} (hg : Gl X "range") (hm : X.mg "range" = none) (ha : PA X [a, b] ta) (hs : starEach [a, b] X.env = [(false, eval a X.env), (false, eval b X.env)] := by rfl) (hs2 : starEach [b] X.env = [(false, eval b X.env)] := by rfl) :
    PI X tg (.Call (.Name "range" p) [a, b] [] pos) (iRng2 ta) := by
  intro pins s σ H R I h
  refine Call_ (ld_blt I hg hm boot_range (PyProof.Rows.callWith_type1 (thn (ha pos pins s σ H _ I h) fun us s1 ⟨vs, H1, I1, r1, q1⟩ => ?_) (by rw [hs, hs2]) (by rw [hs2]; rfl)))
  obtain ⟨i, j, e, ⟨q1, q2, q3, q4⟩, q⟩ := q1
  subst e
  cases r1 with
  | cons r rr =>
    cases rr with
    | cons r' rr =>
      cases rr
      obtain ⟨t, rfl⟩ := r
      obtain ⟨t', rfl⟩ := r'
      exact call_range_2 (range_it I1 q1 q2 q3 q4 q)
def tFor (wi : TI) (g : TG) (tb : TS) : TS := fun D σ H => wi σ H fun J H1 => ∃ W : Nat → Nat → St → Hp → Prop, (∃ m, W 0 m σ H1) ∧ ∀ i m σ H, W i m σ H →
  (J.stop i H ∧ D.nx σ H) ∨ (J.go i H ∧ ∃ N : St → Hp → Prop, (∀ σ' H', N σ' H' → ∃ m', m' < m ∧ W (i + 1) m' σ' H') ∧ ∀ x H', J.yld i H x H' → g x σ H' fun σ2 H2 => tb { D with nx := N, ct := N, bk := D.nx } σ2 H2)
def pinsAt (fp : List Addr) (h : Heap) : List (Addr × Obj) := fp.filterMap fun b => (h.get? b).map fun o => (b, o)
theorem mem_pinsAt {fp : List Addr} {h : Heap} {b : Addr} {o : Obj} (hb : b ∈ fp) (e : h.get? b = some o) : (b, o) ∈ pinsAt fp h := List.mem_filterMap.mpr ⟨b, hb, by rw [e]; rfl⟩
theorem of_pinsAt {fp : List Addr} {h : Heap} {p : Addr × Obj} (hp : p ∈ pinsAt fp h) : p.1 ∈ fp ∧ h.get? p.1 = some p.2 := by
  obtain ⟨b, hb, e⟩ := List.mem_filterMap.mp hp
  cases q : h.get? b with
  | none => rw [q] at e; cases e
  | some o =>
    rw [q] at e
    have e' : (b, o) = p := Option.some.inj e
    subst e'
    exact ⟨hb, q⟩
theorem Inv.pinned {pins : List (Addr × Obj)} {σ : St} {H : Hp} {s : Shared} {fp : List Addr} (I : Inv X pins σ H s) (hf : ∀ b ∈ fp, FpOk X pins H b) (ho : ∀ b ∈ fp, ∃ o, s.heap.get? b = some o ∧ ∀ v, o.data ≠ .cell v) : Inv X (pins ++ pinsAt fp s.heap) σ H s :=
  I.pins_of fun p hp => (List.mem_append.mp hp).elim (fun z => I.pin p (List.mem_append_right _ z)) fun z => by
    obtain ⟨hb, e⟩ := of_pinsAt z
    obtain ⟨f0, f1, f2, _⟩ := hf p.1 hb
    obtain ⟨o, e', d⟩ := ho p.1 hb
    rw [e] at e'; cases e'
    exact ⟨e, f0, f1, f2, d⟩
theorem Inv.unpinned {pins pl : List (Addr × Obj)} {σ : St} {H : Hp} {s : Shared} (I : Inv X (pins ++ pl) σ H s) : Inv X pins σ H s := I.pins_of fun p hp => I.pin p (List.mem_append_right _ (List.mem_append_left _ hp))
theorem ps_for {iter : Expr} {body : List Stmt} {wi : TI} {g : TG} {tb : TS} {pos : Pos} (hp : PassesOwn (model X.prog X.w) X.A X.env X.xe) (hc : X.calm = true) (hi : PI X tg iter wi) (hg : PG X tg g) (hb : PSs X body tb)
    (hs : ∀ x, foldedSetIterable iter X.env x = pure x := by intro _; rfl) : PS X (.For tg iter body [] pos) (tFor wi g tb) := by
  intro pins s σ H D I h
  refine wpAny_For (thn (hi pins s σ H _ I h) fun v s1 h1 => thn h1 fun itv s2 h2 => ?_) hs
  obtain ⟨it, fp, tn, J, H2, e, I2, T, st2, f2, W, ⟨m0, w0⟩, turn⟩ := h2
  subst e
  have stat : ∀ {H' : Hp}, (∀ b ∈ fp, H' b = none) → ∀ b ∈ fp, FpOk X pins H' b := fun hn b hb => ⟨hn b hb, (f2 b hb).2⟩
  refine codeAny_forLoop_any (fun n s' => ∃ i σ' H', Inv X pins σ' H' s' ∧ tn i s'.heap ∧ (∀ b ∈ fp, H' b = none) ∧ W i n σ' H') ?_ m0 ⟨0, σ, H2, I2, st2, fun b hb => (f2 b hb).1, w0⟩
  rintro n s3 ⟨i, σ3, H3, I3, st3, fr3, w3⟩
  rcases turn i n σ3 H3 w3 with ⟨stop, qn⟩ | ⟨go, N, hN, step⟩
  · refine wpAny_passesOwn hp (thn (T.done X rfl rfl rfl hc i pins s3 σ3 H3 X.xe I3 (stat fr3) st3 stop) fun r s4 ⟨hr, I4⟩ => ?_)
    subst hr
    exact wpAny_execs_nil ⟨σ3, H3, I4, qn⟩
  · refine wpAny_passesOwn hp (thn (T.item X rfl rfl rfl hc i pins s3 σ3 H3 X.xe I3 (stat fr3) st3 go) fun r s4 ⟨u, hr, h4⟩ => ?_)
    subst hr
    refine wpAny_passesOwn hp (thn h4 fun _ s5 ⟨x, H5, I5, r5, y5, st5, fr5⟩ => ?_)
    have I5' := I5.pinned (stat fr5) (T.obj _ _ st5)
    refine wpAny_passesOwn hp (thn (hg _ s5 σ3 H5 x u _ I5' r5 (step x H5 y5)) fun _ s6 ⟨σ6, H6, I6, q6⟩ => ?_)
    refine wpAny_passesOwn hp (thn (hb _ s6 σ6 H6 _ I6 q6) fun f s7 q7 => ?_)
    have again : ∀ {σ7 : St} {H7 : Hp}, Inv X (pins ++ pinsAt fp s5.heap) σ7 H7 s7 → N σ7 H7 → ∃ m, m < n ∧ ∃ i σ' H', Inv X pins σ' H' s7 ∧ tn i s7.heap ∧ (∀ b ∈ fp, H' b = none) ∧ W i m σ' H' := fun {σ7 H7} I7 n7 => by
      obtain ⟨m', hm, w7⟩ := hN σ7 H7 n7
      refine ⟨m', hm, i + 1, σ7, H7, I7.unpinned, T.keep _ _ _ st5 fun b hb o e => (I7.pin (b, o) (List.mem_append_right _ (List.mem_append_right _ (mem_pinsAt hb e)))).1, fun b hb => ?_, w7⟩
      obtain ⟨o, e, d⟩ := T.obj _ _ st5 b hb
      exact (I7.pin (b, o) (List.mem_append_right _ (List.mem_append_right _ (mem_pinsAt hb e)))).2.1
    cases f with
    | next => obtain ⟨σ7, H7, I7, n7⟩ := q7; exact again I7 n7
    | cont => obtain ⟨σ7, H7, I7, n7⟩ := q7; exact again I7 n7
    | brk => obtain ⟨σ7, H7, I7, q7⟩ := q7; exact ⟨σ7, H7, I7.unpinned, q7⟩
    | ret v => obtain ⟨x7, σ7, H7, I7, r7, q7⟩ := q7; exact ⟨x7, σ7, H7, I7.unpinned, r7, q7⟩
end
theorem for_list {K : PySem.W.Frag} {a : Addr} {xs : List V} {g : TG} {tb : TS} {D : Ends} {σ : St} {H : Hp} (Pv : Nat → St → Hp → Prop) (h0 : Pv 0 σ H) (hl : ∀ i σ H, i ≤ xs.length → Pv i σ H → SqL K H a xs)
    (hs : ∀ i x σ H, xs[i]? = some x → Pv i σ H → g x σ H fun σ2 H2 => tb { D with nx := Pv (i + 1), ct := Pv (i + 1), bk := D.nx } σ2 H2) (hd : ∀ σ H, Pv xs.length σ H → D.nx σ H) :
    ∃ W : Nat → Nat → St → Hp → Prop, (∃ m, W 0 m σ H) ∧ ∀ i m σ H, W i m σ H →
      ((Itl K a).stop i H ∧ D.nx σ H) ∨ ((Itl K a).go i H ∧ ∃ N : St → Hp → Prop, (∀ σ' H', N σ' H' → ∃ m', m' < m ∧ W (i + 1) m' σ' H') ∧ ∀ x H', (Itl K a).yld i H x H' → g x σ H' fun σ2 H2 => tb { D with nx := N, ct := N, bk := D.nx } σ2 H2) := by
  refine ⟨fun i m σ H => m = xs.length - i ∧ i ≤ xs.length ∧ Pv i σ H, ⟨xs.length, by simp, Nat.zero_le _, h0⟩, ?_⟩
  rintro i m σ H ⟨rfl, hi, p⟩
  have q := hl i σ H hi p
  by_cases hlt : i < xs.length
  · refine .inr ⟨⟨xs, xs[i], q, by simp [hlt]⟩, Pv (i + 1), fun σ' H' p' => ⟨xs.length - (i + 1), by omega, rfl, hlt, p'⟩, fun x H' y => ?_⟩
    obtain ⟨e, y⟩ := y
    subst e
    exact hs i x σ _ (y xs q) p
  · have e : i = xs.length := by omega
    subst e
    exact .inl ⟨⟨xs, q, Nat.le_refl _⟩, hd σ H p⟩
theorem for_range {lo : Int} {n : Nat} {g : TG} {tb : TS} {D : Ends} {σ : St} {H : Hp} (Pv : Nat → St → Hp → Prop) (h0 : Pv 0 σ H)
    (hs : ∀ i σ H, i < n → Pv i σ H → g (.int (lo + i)) σ H fun σ2 H2 => tb { D with nx := Pv (i + 1), ct := Pv (i + 1), bk := D.nx } σ2 H2) (hd : ∀ σ H, Pv n σ H → D.nx σ H) :
    ∃ W : Nat → Nat → St → Hp → Prop, (∃ m, W 0 m σ H) ∧ ∀ i m σ H, W i m σ H →
      ((Itr lo n).stop i H ∧ D.nx σ H) ∨ ((Itr lo n).go i H ∧ ∃ N : St → Hp → Prop, (∀ σ' H', N σ' H' → ∃ m', m' < m ∧ W (i + 1) m' σ' H') ∧ ∀ x H', (Itr lo n).yld i H x H' → g x σ H' fun σ2 H2 => tb { D with nx := N, ct := N, bk := D.nx } σ2 H2) := by
  refine ⟨fun i m σ H => m = n - i ∧ i ≤ n ∧ Pv i σ H, ⟨n, by simp, Nat.zero_le _, h0⟩, ?_⟩
  rintro i m σ H ⟨rfl, hi, p⟩
  by_cases hlt : i < n
  · refine .inr ⟨hlt, Pv (i + 1), fun σ' H' p' => ⟨n - (i + 1), by omega, rfl, hlt, p'⟩, fun x H' y => ?_⟩
    obtain ⟨e, y⟩ := y
    subst e y
    exact hs i σ _ hlt p
  · have e : i = n := by omega
    subst e
    exact .inl ⟨Nat.le_refl _, hd σ H p⟩
end L2
namespace L2
open PySem PySem.Spec PyProof.Rows
abbrev R2 := V → V → Hp → VK → Prop
def OpR (X : Cx) (f : Value → Value → Sem Value) (r : R2) : Prop :=
  ∀ (pins : List (Addr × Obj)) (s : Shared) (σ : St) (H : Hp) (x y : V) (v u : Value) (Q : VK), Inv X pins σ H s → RelV x v → RelV y u → r x y H Q →
    wpAny (model X.prog X.w) X.A (f v u) (EP X pins σ Q) X.xe s
def CallR (X : Cx) (f : Value) (r : List V → Hp → VK → Prop) : Prop :=
  ∀ (pins : List (Addr × Obj)) (s : Shared) (σ : St) (H : Hp) (xs : List V) (us : List Value) (Q : VK), Inv X pins σ H s → Vals xs us → r xs H Q →
    wpAny (model X.prog X.w) X.A (call f us) (EP X pins σ Q) X.xe s
def tOp (r : R2) (ta tb : TE) : TE := fun σ H Q => ta σ H fun x H1 => tb σ H1 fun y H2 => r x y H2 Q
def tUn (r : V → Hp → VK → Prop) (ta : TE) : TE := fun σ H Q => ta σ H fun x H1 => r x H1 Q
def rI (C : Int → Int → Prop) (g : Int → Int → V) : R2 := fun x y H Q => ∃ i j, x = .int i ∧ y = .int j ∧ C i j ∧ Q (g i j) H
def rI0 (g : Int → Int → V) : R2 := fun x y H Q => ∃ i j, x = .int i ∧ y = .int j ∧ Q (g i j) H
def rU (g : Int → V) : V → Hp → VK → Prop := fun x H Q => ∃ i, x = .int i ∧ Q (g i) H
section
variable {X : Cx} {a b c : Expr} {ta tb tc : TE} {pos : Pos}
theorem binT (ha : PE X a ta) (hb : PE X b tb) {pins : List (Addr × Obj)} {s : Shared} {σ : St} {H : Hp} {R : V → V → Hp → Prop} (I : Inv X pins σ H s)
    (h : ta σ H fun x H1 => tb σ H1 fun y H2 => R x y H2) {Q : Value → Shared → Prop} {f : Value → Value → Sem Value}
    (hf : ∀ v u s2 x y H2, Inv X pins σ H2 s2 → RelV x v → RelV y u → R x y H2 → wpAny (model X.prog X.w) X.A (f v u) Q X.xe s2) :
    wpAny (model X.prog X.w) X.A (eval a X.env) (fun v s₁ => wpAny (model X.prog X.w) X.A (eval b X.env) (fun u s₂ => wpAny (model X.prog X.w) X.A (f v u) Q X.xe s₂) X.xe s₁) X.xe s := by
  refine thn (ha pins s σ H _ I h) fun v s1 ⟨x, H1, I1, r1, q1⟩ => ?_
  refine thn (hb pins s1 σ H1 _ I1 q1) fun u s2 ⟨y, H2, I2, r2, q2⟩ => ?_
  exact hf v u s2 x y H2 I2 r1 r2 q2
theorem pe_op {op : Operator} {r : R2} (ho : OpR X (binaryOp op) r) (ha : PE X a ta) (hb : PE X b tb) : PE X (.BinOp a op b pos) (tOp r ta tb) := by
  intro pins s σ H Q I h
  exact wpAny_BinOp (binT ha hb I h fun v u s2 x y H2 I2 rx ry q => ho pins s2 σ H2 x y v u Q I2 rx ry q)
theorem opI {f : Value → Value → Sem Value} {C : Int → Int → Prop} {g : Int → Int → Int}
    (rule : ∀ (i j : Int) (t u : Tok) (s : Shared) (Q : Value → Shared → Prop) (E : Value → Shared → Prop), C i j → Q (.int (g i j) s.toks) { s with toks := s.toks + 1 } → wpAny (model X.prog X.w) X.A (f (.int i t) (.int j u)) Q E s) :
    OpR X f (rI C fun i j => .int (g i j)) := by
  intro pins s σ H x y v u Q I rx ry h
  obtain ⟨i, j, rfl, rfl, hc, q⟩ := h
  obtain ⟨t, rfl⟩ := rx
  obtain ⟨t', rfl⟩ := ry
  exact rule i j t t' s _ _ hc ⟨.int (g i j), H, I.tok _, ⟨_, rfl⟩, q⟩
theorem opI0 {f : Value → Value → Sem Value} {g : Int → Int → Int}
    (rule : ∀ (i j : Int) (t u : Tok) (s : Shared) (Q : Value → Shared → Prop) (E : Value → Shared → Prop), Q (.int (g i j) s.toks) { s with toks := s.toks + 1 } → wpAny (model X.prog X.w) X.A (f (.int i t) (.int j u)) Q E s) :
    OpR X f (rI0 fun i j => .int (g i j)) := by
  intro pins s σ H x y v u Q I rx ry h
  obtain ⟨i, j, rfl, rfl, q⟩ := h
  obtain ⟨t, rfl⟩ := rx
  obtain ⟨t', rfl⟩ := ry
  exact rule i j t t' s _ _ ⟨.int (g i j), H, I.tok _, ⟨_, rfl⟩, q⟩
theorem opB0 {f : Value → Value → Sem Value} {g : Int → Int → Bool}
    (rule : ∀ (i j : Int) (t u : Tok) (s : Shared) (Q : Value → Shared → Prop) (E : Value → Shared → Prop), Q (.bool (g i j)) s → wpAny (model X.prog X.w) X.A (f (.int i t) (.int j u)) Q E s) :
    OpR X f (rI0 fun i j => .bl (g i j)) := by
  intro pins s σ H x y v u Q I rx ry h
  obtain ⟨i, j, rfl, rfl, q⟩ := h
  obtain ⟨t, rfl⟩ := rx
  obtain ⟨t', rfl⟩ := ry
  exact rule i j t t' s _ _ ⟨.bl (g i j), H, I, rfl, q⟩
def CPow (i j : Int) : Prop := 0 ≤ j ∧ j ≤ 1000000 ∧ i.natAbs < 2 ^ 64
def CMul (i j : Int) : Prop := (-(2 ^ 64) < i ∧ i < 2 ^ 64) ∨ (-(2 ^ 64) < j ∧ j < 2 ^ 64)
theorem CMul.ok {i j : Int} (h : CMul i j) : IntMulOk i j := by
  rcases h with ⟨h1, h2⟩ | ⟨h1, h2⟩
  · exact .of_left (intBits_le_64 h1 h2)
  · exact .of_right (intBits_le_64 h1 h2)
theorem two_pow_nn (k : Nat) : (0 : Int) ≤ 2 ^ k := by
  rw [two_pow_cast]
  exact Int.natCast_nonneg _
theorem op_add : OpR X (binaryOp .Add) (rI0 fun i j => .int (i + j)) := opI0 fun _ _ _ _ _ _ _ q => add_int q
theorem op_sub : OpR X (binaryOp .Sub) (rI0 fun i j => .int (i - j)) := opI0 fun _ _ _ _ _ _ _ q => sub_int q
theorem op_mul : OpR X (binaryOp .Mult) (rI CMul fun i j => .int (i * j)) := opI fun _ _ _ _ _ _ _ hc q => mul_int q hc.ok
theorem op_mod : OpR X (binaryOp .Mod) (rI (fun _ j => 0 < j) fun i j => .int (i % j)) := opI fun i j _ _ _ _ _ hc q => by
  have h1 : (0 : Int) < j := hc
  exact mod_int' (by omega) (by rw [Int.fmod_eq_emod_of_nonneg i (by omega)]; exact q)
theorem op_pow : OpR X (binaryOp .Pow) (rI CPow fun i j => .int (i ^ j.toNat)) := opI fun _ _ _ _ _ _ _ hc q => pow_int_small hc.1 hc.2.1 hc.2.2 q
theorem op_shr : OpR X (binaryOp .RShift) (rI (fun _ j => 0 ≤ j) fun i j => .int (i / 2 ^ j.toNat)) := opI fun i j _ _ _ _ _ hc q =>
  rshift_int hc (by rw [Int.fdiv_eq_ediv_of_nonneg i (two_pow_nn _)]; exact q)
theorem op_and : OpR X (binaryOp .BitAnd) (rI0 fun i j => .int (Builtin.bitAnd i j)) := opI0 fun _ _ _ _ _ _ _ q => and_int q
theorem op_or : OpR X (binaryOp .BitOr) (rI0 fun i j => .int (Builtin.bitOr i j)) := opI0 fun _ _ _ _ _ _ _ q => or_int q
end
def scal : V → V → Bool
  | .non, .non => true | .non, .int _ => true | .int _, .non => true | .non, .bl _ => true | .bl _, .non => true | .non, .str _ => true | .str _, .non => true
  | .int _, .int _ => true | .bl _, .bl _ => true | .str _, .str _ => true | .byt _, .byt _ => true
  | .int _, .str _ => true | .str _, .int _ => true | .bl _, .str _ => true | .str _, .bl _ => true
  | _, _ => false
def rEq : R2 := fun x y H Q => scal x y = true ∧ Q (.bl (decide (x = y))) H
def rNe : R2 := fun x y H Q => scal x y = true ∧ Q (.bl (!decide (x = y))) H
theorem dec_int {i j : Int} : decide (V.int i = V.int j) = (i == j) := by
  rw [Bool.eq_iff_iff]
  simp
theorem dec_bl {i j : Bool} : decide (V.bl i = V.bl j) = (i == j) := by
  rw [Bool.eq_iff_iff]
  simp
theorem dec_str {i j : Str} : decide (V.str i = V.str j) = (i == j) := by
  rw [Bool.eq_iff_iff]
  simp
theorem dec_byt {i j : Array UInt8} : decide (V.byt i = V.byt j) = (i.toList == j.toList) := by
  rw [Bool.eq_iff_iff]
  cases i
  cases j
  simp
section
variable {X : Cx} {a b c : Expr} {ta tb tc : TE} {pos : Pos}
theorem fin_bl {pins : List (Addr × Obj)} {σ : St} {H : Hp} {s : Shared} {Q : VK} {k k' : Bool} (I : Inv X pins σ H s) (q : Q (.bl k) H) (e : k = k') : EP X pins σ Q (.bool k') s := by
  subst e
  exact ⟨.bl k, H, I, rfl, q⟩
theorem op_eq : OpR X (compareOp .Eq) rEq := by
  intro pins s σ H x y v u Q I rx ry h
  obtain ⟨hs, q⟩ := h
  cases x with
  | non =>
    cases rx
    cases y with
    | non => cases ry; exact PySem.EqNone.eq_none_none (fin_bl I q (by simp))
    | bl j => cases ry; exact PySem.EqNone.eq_none_bool (fin_bl I q (by simp))
    | int j => obtain ⟨t', rfl⟩ := ry; exact PySem.EqNone.eq_none_int (fin_bl I q (by simp))
    | str j => obtain ⟨t', rfl⟩ := ry; exact PySem.EqNone.eq_none_str (fin_bl I q (by simp))
    | _ => exact absurd (show false = true from hs) Bool.false_ne_true
  | bl i =>
    cases rx
    cases y with
    | non => cases ry; exact PySem.EqNone.eq_bool_none (fin_bl I q (by simp))
    | bl j => cases ry; exact eq_bool (fin_bl I q dec_bl)
    | str j => obtain ⟨t', rfl⟩ := ry; exact PySem.EqMixed.eq_bool_str (fin_bl I q (by simp))
    | _ => exact absurd (show false = true from hs) Bool.false_ne_true
  | int i =>
    obtain ⟨t, rfl⟩ := rx
    cases y with
    | non => cases ry; exact PySem.EqNone.eq_int_none (fin_bl I q (by simp))
    | int j => obtain ⟨t', rfl⟩ := ry; exact eq_int (fin_bl I q dec_int)
    | str j => obtain ⟨t', rfl⟩ := ry; exact PySem.EqMixed.eq_int_str (fin_bl I q (by simp))
    | _ => exact absurd (show false = true from hs) Bool.false_ne_true
  | str i =>
    obtain ⟨t, rfl⟩ := rx
    cases y with
    | non => cases ry; exact PySem.EqNone.eq_str_none (fin_bl I q (by simp))
    | bl j => cases ry; exact PySem.EqMixed.eq_str_bool (fin_bl I q (by simp))
    | int j => obtain ⟨t', rfl⟩ := ry; exact PySem.EqMixed.eq_str_int (fin_bl I q (by simp))
    | str j => obtain ⟨t', rfl⟩ := ry; exact eq_str (fin_bl I q dec_str)
    | _ => exact absurd (show false = true from hs) Bool.false_ne_true
  | byt i =>
    obtain ⟨t, rfl⟩ := rx
    cases y with
    | byt j => obtain ⟨t', rfl⟩ := ry; exact PySem.W.eq_bytes (fin_bl I q dec_byt)
    | _ => exact absurd (show false = true from hs) Bool.false_ne_true
  | _ => cases y <;> exact absurd (show false = true from hs) Bool.false_ne_true
theorem op_ne : OpR X (compareOp .NotEq) rNe := by
  intro pins s σ H x y v u Q I rx ry h
  obtain ⟨hs, q⟩ := h
  cases x with
  | non =>
    cases rx
    cases y with
    | non => cases ry; exact PySem.EqNone.ne_none_none (fin_bl I q (by simp))
    | bl j => cases ry; exact PySem.EqNone.ne_none_bool (fin_bl I q (by simp))
    | int j => obtain ⟨t', rfl⟩ := ry; exact PySem.EqNone.ne_none_int (fin_bl I q (by simp))
    | str j => obtain ⟨t', rfl⟩ := ry; exact PySem.EqNone.ne_none_str (fin_bl I q (by simp))
    | _ => exact absurd (show false = true from hs) Bool.false_ne_true
  | bl i =>
    cases rx
    cases y with
    | non => cases ry; exact PySem.EqNone.ne_bool_none (fin_bl I q (by simp))
    | bl j => cases ry; exact ne_bool (fin_bl I q (congrArg not dec_bl))
    | str j => obtain ⟨t', rfl⟩ := ry; exact PySem.EqMixed.ne_bool_str (fin_bl I q (by simp))
    | _ => exact absurd (show false = true from hs) Bool.false_ne_true
  | int i =>
    obtain ⟨t, rfl⟩ := rx
    cases y with
    | non => cases ry; exact PySem.EqNone.ne_int_none (fin_bl I q (by simp))
    | int j => obtain ⟨t', rfl⟩ := ry; exact ne_int (fin_bl I q (congrArg not dec_int))
    | str j => obtain ⟨t', rfl⟩ := ry; exact PySem.EqMixed.ne_int_str (fin_bl I q (by simp))
    | _ => exact absurd (show false = true from hs) Bool.false_ne_true
  | str i =>
    obtain ⟨t, rfl⟩ := rx
    cases y with
    | non => cases ry; exact PySem.EqNone.ne_str_none (fin_bl I q (by simp))
    | bl j => cases ry; exact PySem.EqMixed.ne_str_bool (fin_bl I q (by simp))
    | int j => obtain ⟨t', rfl⟩ := ry; exact PySem.EqMixed.ne_str_int (fin_bl I q (by simp))
    | str j => obtain ⟨t', rfl⟩ := ry; exact ne_str (fin_bl I q (congrArg not dec_str))
    | _ => exact absurd (show false = true from hs) Bool.false_ne_true
  | byt i =>
    obtain ⟨t, rfl⟩ := rx
    cases y with
    | byt j => obtain ⟨t', rfl⟩ := ry; exact PySem.W.ne_bytes (fin_bl I q (congrArg not dec_byt))
    | _ => exact absurd (show false = true from hs) Bool.false_ne_true
  | _ => cases y <;> exact absurd (show false = true from hs) Bool.false_ne_true
theorem op_lt : OpR X (compareOp .Lt) (rI0 fun i j => .bl (decide (i < j))) := opB0 fun _ _ _ _ _ _ _ q => lt_int q
theorem op_gt : OpR X (compareOp .Gt) (rI0 fun i j => .bl (decide (j < i))) := opB0 fun _ _ _ _ _ _ _ q => gt_int q
theorem op_isN : OpR X (compareOp .Is) (fun x y H Q => y = .non ∧ Q (.bl (decide (x = .non))) H) := by
  intro pins s σ H x y v u Q I rx ry h
  obtain ⟨rfl, q⟩ := h
  cases ry
  refine is_none_gen (fin_bl I q ?_)
  cases x <;> first
    | (cases rx; rfl)
    | (obtain ⟨t, rfl⟩ := rx; rfl)
theorem op_notN : OpR X (compareOp .IsNot) (fun x y H Q => y = .non ∧ Q (.bl (!decide (x = .non))) H) := by
  intro pins s σ H x y v u Q I rx ry h
  obtain ⟨rfl, q⟩ := h
  cases ry
  refine isnot_none_gen (fin_bl I q ?_)
  cases x <;> first
    | (cases rx; rfl)
    | (obtain ⟨t, rfl⟩ := rx; rfl)
theorem nomark (b : Expr) {op : CmpOp} (h : op ≠ .In := by decide) (h2 : op ≠ .NotIn := by decide) : behindInMarks op b = false := by
  have e1 : (op == CmpOp.In) = false := by cases op <;> first | rfl | exact absurd rfl h
  have e2 : (op == CmpOp.NotIn) = false := by cases op <;> first | rfl | exact absurd rfl h2
  cases b <;> simp [behindInMarks, e1, e2]
theorem pe_cmpR {op : CmpOp} {r : R2} (ho : OpR X (compareOp op) r) (ha : PE X a ta) (hb : PE X b tb) (hm : behindInMarks op b = false) : PE X (.Compare a [op] [b] pos) (tOp r ta tb) := by
  intro pins s σ H Q I h
  exact wpAny_Compare1 (binT ha hb I h fun v u s2 x y H2 I2 rx ry q => ho pins s2 σ H2 x y v u Q I2 rx ry q) hm
def tTest (t : TE) : TT := fun σ H Q => t σ H fun x H' => ∃ k, x = .bl k ∧ Q k H'
theorem pt_cmpR {op : CmpOp} {r : R2} (ho : OpR X (compareOp op) r) (ha : PE X a ta) (hb : PE X b tb) (hm : behindInMarks op b = false) : PT X (.Compare a [op] [b] pos) (tTest (tOp r ta tb)) := by
  intro pins s σ H Q I h
  refine wpAny_isTrue_Compare1 (thn (ha pins s σ H _ I h) fun v s1 ⟨x, H1, I1, r1, q1⟩ => thn (hb pins s1 σ H1 _ I1 q1) fun u s2 ⟨y, H2, I2, r2, q2⟩ =>
    thn (ho pins s2 σ H2 x y v u _ I2 r1 r2 q2) fun c s3 ⟨z, H3, I3, r3, k, e, q3⟩ => ?_) hm
  subst e
  cases r3
  exact wpAny_truthy_bool ⟨H3, I3, q3⟩
def tChain (r r' : R2) (ta tb tc : TE) : TE := fun σ H Q => ta σ H fun x H1 => tb σ H1 fun y H2 => r x y H2 fun z H3 => ∃ k, z = .bl k ∧
  (if k = true then tc σ H3 fun w' H4 => r' y w' H4 Q else Q (.bl false) H3)
theorem line63 : (sizeLine : Nat) < 2 ^ 63 := by rw [sizeLine_eq]; decide
theorem vals1 {x : V} {us : List Value} (r : Vals [x] us) : ∃ u, us = [u] ∧ RelV x u := by
  cases r with
  | cons r1 r2 => cases r2; exact ⟨_, rfl, r1⟩
theorem vals2 {x y : V} {us : List Value} (r : Vals [x, y] us) : ∃ u w', us = [u, w'] ∧ RelV x u ∧ RelV y w' := by
  cases r with
  | cons r1 r2 =>
    cases r2 with
    | cons r3 r4 => cases r4; exact ⟨_, _, rfl, r1, r3⟩
theorem call_min2 (hc : X.calm = true) : CallR X (.builtin "min") (fun xs H Q => ∃ i j, xs = [.int i, .int j] ∧ Q (.int (if j < i then j else i)) H) := by
  intro pins s σ H xs us Q I r h
  obtain ⟨i, j, rfl, q⟩ := h
  obtain ⟨u, w', rfl, ⟨t, rfl⟩, ⟨t', rfl⟩⟩ := vals2 r
  refine min_two_ints (I.ok.hd hc) fun h' tk k => ⟨_, H, I.kept k, ?_, q⟩
  by_cases hj : j < i
  · rw [if_pos hj, if_pos hj]; exact ⟨_, rfl⟩
  · rw [if_neg hj, if_neg hj]; exact ⟨_, rfl⟩
end
end L2
namespace L2
open PySem PySem.Spec PyProof.Rows
structure ObjM (h : Heap) (x dx C : Addr) (mA : Str → Option Value) : Prop where
  obj : h.get? x = some (PySem.W.instObj C dx)
  ns : h.Ns1 dx mA
  ne : dx ≠ x
theorem lookIn_ns {h : Heap} {dx : Addr} {mA : Str → Option Value} (n : h.Ns1 dx mA) : ∃ od, h.get? dx = some od ∧ ∀ name, PySem.W.lookIn name od = some (mA name) := by
  obtain ⟨o, es, ep, ho, hd, hk, _, hm⟩ := n
  refine ⟨o, ho, fun name => ?_⟩
  have e := hm name
  unfold nsFind findBy at e
  rw [← Array.find?_toList] at e
  unfold PySem.W.lookIn
  rw [hd]
  dsimp only
  split
  · rename_i y q
    rw [q] at e
    exact congrArg some e
  · rename_i q
    rw [q] at e
    have a : es.toList.any (·.refKey) = false := by
      rw [List.any_eq_false]
      intro y hy
      obtain ⟨z, t, hkey⟩ := hk y (Array.mem_toList_iff.mp hy)
      simp [DictEntry.refKey, hkey]
    have a' : ¬ es.toList.any (·.refKey) = true := by rw [a]; exact Bool.false_ne_true
    rw [if_neg a']
    exact congrArg some e
theorem ObjM.look {h : Heap} {x dx C : Addr} {mA : Str → Option Value} (I : ObjM h x dx C mA) : ∃ od, PySem.W.InstAt h x (PySem.W.instObj C dx) C (some od) ∧ ∀ name, PySem.W.lookIn name od = some (mA name) :=
  let ⟨od, ho, hl⟩ := lookIn_ns I.ns
  ⟨od, ⟨I.obj, rfl, rfl, ho⟩, hl⟩
section
variable {prog : Program} {w : World} {A : Around} {E : Value → Shared → Prop} {s : Shared} {K : PySem.W.Frag} {x dx C f : Addr} {mA : Str → Option Value} {name : Str} {v : Value}
theorem get_map {expr : Bool} {Q : Value → Shared → Prop} (X : K.In s.heap) (I : ObjM s.heap x dx C mA) (hg : PySem.W.plainGet K C name = true) (hh : PySem.W.hasDictIn K C = true)
    (ha : PySem.W.findIn K (.ref C) name = some none) (hv : mA name = some v) (hv' : PySem.W.handedIn v = true) (h : Q v { s with toks := s.toks + 1 }) :
    wpAny (model prog w) A (getAttr (.ref x) name expr) Q E s := by
  obtain ⟨od, J, hl⟩ := I.look
  exact PySem.W.get_value X J (PySem.W.plainGet_of hg).1 (PySem.W.findObj_own hh ha rfl (by rw [hl, hv])) hv' h
theorem get_meth {pl : Sem Bool} {Q : Value × List Value → Shared → Prop} (X : K.In s.heap) (I : ObjM s.heap x dx C mA) (hg : PySem.W.plainGet K C name = true)
    (hf : PySem.W.findIn K (.ref C) name = some (some (.ref f))) (ht : PySem.W.isFn K (.ref f) = true) (hv : mA name = none) (h : Q (.ref f, [.ref x]) s) :
    wpAny (model prog w) A (getMethod (.ref x) name pl) Q E s := by
  obtain ⟨od, J, hl⟩ := I.look
  exact PySem.W.method_fn X J (PySem.W.plainGet_of hg).1 (PySem.W.plainGet_of hg).2 hf (beq_iff_eq.mp ht) (by show (PySem.W.lookIn name od).map (·.isSome) = some false; rw [hl, hv]; rfl) h
theorem set_map {ns : List Str} {Q : Unit → Shared → Prop} (X : K.In s.heap) (I : ObjM s.heap x dx C mA)
    (hs : PySem.W.findIn K (.ref C) "__setattr__" = some (some (.builtin "object.__setattr__"))) (hp : PySem.W.plainOver K C = true) (ht : PySem.W.takerIn K C name = some none) (hh : PySem.W.hasDictIn K C = true)
    (hw : PySem.Within mA ns) (hsz : ns.length ≤ sizeLine)
    (h : ∀ h', ObjM h' x dx C (fun y => if y = name then some v else mA y) → Heap.SameBut dx s.heap h' → Q () { s with heap := h', toks := s.toks + 2 }) :
    wpAny (model prog w) A (setAttr (.ref x) name v) Q E s := by
  obtain ⟨od, J, hl⟩ := I.look
  refine PySem.W.set_plain X J hs (PySem.W.osa_open (s := { s with toks := s.toks + 1 }) (r := none) X J hp ht fun b => ?_)
  obtain ⟨cd, hc, hd'⟩ := PySem.W.any_some hh
  have hx : s.heap.get? x = some ⟨.ref C, some dx, .plain, #[]⟩ := I.obj
  refine wpAny_bind (wpAny_pure (wpAny_bind (wpAny_bind (wpAny_loadPart hx (wpAny_bind (PySem.W.Looks.here (s := { s with toks := s.toks + 1 }) (PySem.W.looks_clsIn X hc) ?_))))))
  rw [hd']
  refine wpAny_pure (a := some dx) (wpAny_bind (wpAny_pure (wpAny_bind ?_)))
  refine wpAny_nsSet1 (s := { s with toks := s.toks + 1 }) I.ns fun h' hn2 hs2 => ?_
  obtain ⟨oD, esD, epD, hoD, hdD, hcD⟩ := hn2.count (PySem.Within.cons name v hw)
  refine wpAny_bind (wpAny_lookBehind hoD (by rw [hdD]; exact pastItsLine_dict (Nat.le_trans hcD (by rw [List.length_cons]; omega))) ?_)
  exact wpAny_pure (h _ ⟨(hs2.2 _ (Ne.symm I.ne)).trans I.obj, hn2, I.ne⟩ hs2)
theorem make_map {R : Result → Shared → Prop} {vs : List Value} {kw : List (Str × Value)} (X : K.In s.heap) (hm : PySem.W.makesIn K C = true)
    (hi : PySem.W.findIn K (.ref C) "__init__" = some (some (.ref f))) (hf : PySem.W.typeIn K (.ref f) = some (.type "function"))
    (h : codeAny (model prog w) (A.under (.builtin "type.__call__" ⟨.ref C :: vs, kw⟩)) (.call (.ref f) ⟨.ref (s.heap.objs.size + 1) :: vs, kw⟩) (PySem.W.InitBack (s.heap.objs.size + 1) R)
      { s with heap := (s.heap.push PySem.W.emptyDict).push (PySem.W.instObj C s.heap.objs.size) }) :
    codeAny (model prog w) A (.call (.ref C) ⟨vs, kw⟩) R s := by
  obtain ⟨hh, g, d, t, os⟩ := s
  exact PySem.W.make_core (PySem.W.makes_of X hm) (PySem.W.looks_findIn X hi) (fun self => PySem.W.bind_fn X self hf) (.inl rfl) h
end
def putF (f : Str) (v : V) : List (Str × V) → List (Str × V)
  | [] => [(f, v)]
  | (g, x) :: r => if g = f then (g, v) :: r else (g, x) :: putF f v r
theorem lookup_putF (f g : Str) (v : V) : ∀ fs : List (Str × V), (putF f v fs).lookup g = if g = f then some v else fs.lookup g
  | [] => by
    show List.lookup g [(f, v)] = _
    by_cases h : g = f
    · have hb : (g == f) = true := beq_iff_eq.mpr h
      simp only [List.lookup, hb, if_pos h]
    · have hb : (g == f) = false := beq_eq_false_iff_ne.mpr h
      simp only [List.lookup, hb, if_neg h]
  | (k, x) :: r => by
    have ih := lookup_putF f g v r
    rw [show putF f v ((k, x) :: r) = (if k = f then (k, v) :: r else (k, x) :: putF f v r) from rfl]
    by_cases hk : k = f
    · rw [if_pos hk]
      by_cases h : g = k
      · have hb : (g == k) = true := beq_iff_eq.mpr h
        simp only [List.lookup, hb, if_pos (h.trans hk)]
      · have hb : (g == k) = false := beq_eq_false_iff_ne.mpr h
        simp only [List.lookup, hb, if_neg (fun e : g = f => h (e.trans hk.symm))]
    · rw [if_neg hk]
      by_cases h : g = k
      · have hb : (g == k) = true := beq_iff_eq.mpr h
        simp only [List.lookup, hb, if_neg (fun e : g = f => hk (h.symm.trans e))]
      · have hb : (g == k) = false := beq_eq_false_iff_ne.mpr h
        simp only [List.lookup, hb]
        exact ih
theorem keys_putF (f : Str) (v : V) : ∀ fs : List (Str × V), f ∈ (putF f v fs).map (·.1) ∧ ∀ g, g ∈ fs.map (·.1) → g ∈ (putF f v fs).map (·.1)
  | [] => ⟨by simp [putF], fun g h => by simp at h⟩
  | (k, x) :: r => by
    obtain ⟨i1, i2⟩ := keys_putF f v r
    rw [show putF f v ((k, x) :: r) = (if k = f then (k, v) :: r else (k, x) :: putF f v r) from rfl]
    by_cases hk : k = f
    · rw [if_pos hk]
      subst hk
      exact ⟨by simp, fun g h => by simpa using h⟩
    · rw [if_neg hk]
      refine ⟨?_, fun g h => ?_⟩
      · rw [List.map_cons]
        exact List.mem_cons_of_mem _ i1
      · rw [List.map_cons] at h ⊢
        rcases List.mem_cons.mp h with e | e
        · exact List.mem_cons.mpr (.inl e)
        · exact List.mem_cons_of_mem _ (i2 g e)
theorem length_putF (f : Str) (v : V) : ∀ fs : List (Str × V), (putF f v fs).length ≤ fs.length + 1
  | [] => by simp [putF]
  | (k, x) :: r => by
    have ih := length_putF f v r
    rw [show putF f v ((k, x) :: r) = (if k = f then (k, v) :: r else (k, x) :: putF f v r) from rfl]
    by_cases hk : k = f
    · rw [if_pos hk, List.length_cons, List.length_cons]; omega
    · rw [if_neg hk, List.length_cons, List.length_cons]; omega
theorem RelO.some_of {v : V} {o : Option Value} (r : RelO (some v) o) : ∃ u, o = some u ∧ RelV v u := by
  cases o with
  | none => exact (show False from r).elim
  | some u => exact ⟨u, rfl, r⟩
theorem RelO.none_of {o : Option Value} (r : RelO none o) : o = none := by
  cases o with
  | none => rfl
  | some u => exact (show False from r).elim
theorem handed_of {v : V} {u : Value} (r : RelV v u) : PySem.W.handedIn u = true := by
  cases v with
  | non => cases (show u = Value.none from r); rfl
  | bl b => cases (show u = Value.bool b from r); rfl
  | int i => obtain ⟨t, e⟩ := (show ∃ t, u = Value.int i t from r); cases e; rfl
  | str x => obtain ⟨t, e⟩ := (show ∃ t, u = Value.str x t from r); cases e; rfl
  | byt b => obtain ⟨t, e⟩ := (show ∃ t, u = Value.bytes b t from r); cases e; rfl
  | flt b => obtain ⟨t, e⟩ := (show ∃ t, u = Value.float b t from r); cases e; rfl
  | ref a => cases (show u = Value.ref a from r); rfl
  | ty n => cases (show u = Value.type n from r); rfl
section
variable {P : Program} {w : World} {H H' : Hp} {h h' : Heap} {a C dx : Addr} {fs fs' : List (Str × V)}
theorem ins_get (hok : HOk P w H h) (e : H a = some (.ins C dx fs)) : ∃ mA, ObjM h a dx C mA ∧ (∀ f, RelO (fs.lookup f) (mA f)) ∧ PySem.Within mA (fs.map (·.1)) ∧ fs.length ≤ 1000 ∧ H dx = some (.own a) := by
  obtain ⟨d, z, ne, ob, mA, n, r, q⟩ := (show ObjOk P w H h a (.ins C dx fs) from hok a _ e)
  exact ⟨mA, ⟨ob, n, ne⟩, r, q, z, d⟩
end
structure Cls (K : PySem.W.Frag) (C : Addr) : Prop where
  pg : PySem.W.plainGet K C Str.empty = true
  hd : PySem.W.hasDictIn K C = true
  po : PySem.W.plainOver K C = true
  sa : PySem.W.findIn K (.ref C) "__setattr__" = some (some (.builtin "object.__setattr__"))
theorem Cls.get {K : PySem.W.Frag} {C : Addr} (c : Cls K C) (f : Str) : PySem.W.plainGet K C f = true := c.pg
def NoAttr (K : PySem.W.Frag) (C : Addr) (f : Str) : Prop := PySem.W.findIn K (.ref C) f = some none
theorem NoAttr.taker {K : PySem.W.Frag} {C : Addr} {f : Str} (n : NoAttr K C f) : PySem.W.takerIn K C f = some none := by
  unfold PySem.W.takerIn
  rw [show PySem.W.findIn K (.ref C) f = some none from n]
  rfl
structure Con (K : PySem.W.Frag) (C : Addr) (f : Str) (v : V) (u : Value) : Prop where
  at_ : PySem.W.findIn K (.ref C) f = some (some u)
  rel : RelV v u
  get : PySem.W.specialIn K u "__get__" = some none
  cp : PySem.W.copiedNames.contains f = false
structure Meth (K : PySem.W.Frag) (C : Addr) (m : Str) (f : Addr) : Prop where
  at_ : PySem.W.findIn K (.ref C) m = some (some (.ref f))
  fn : PySem.W.isFn K (.ref f) = true
  kp : PySem.W.keepIn K (.ref f) = true
section
variable {X : Cx} {pins : List (Addr × Obj)} {σ : St} {H : Hp} {s : Shared} {a C dx : Addr} {fs : List (Str × V)} {f : Str} {v : V} {A : Around} {E : Value → Shared → Prop}
theorem getattr_ok {b : Bool} {Q : Value → Shared → Prop} (I : Inv X pins σ H s) (e : H a = some (.ins C dx fs)) (c : Cls X.K C) (n : NoAttr X.K C f) (l : fs.lookup f = some v)
    (h : ∀ u s', Inv X pins σ H s' → RelV v u → Q u s') : wpAny (model X.prog X.w) A (getAttr (.ref a) f b) Q E s := by
  obtain ⟨mA, O, r, _, _, _⟩ := ins_get I.hok e
  obtain ⟨u, hu, ru⟩ := RelO.some_of (v := v) (o := mA f) (by rw [← l]; exact r f)
  exact get_map I.kIn O (c.get f) c.hd n hu (handed_of ru) (h u _ (I.tok _) ru)
theorem getmeth_ok {m : Str} {g : Addr} {pl : Sem Bool} {Q : Value × List Value → Shared → Prop} (I : Inv X pins σ H s) (e : H a = some (.ins C dx fs)) (c : Cls X.K C) (k : Meth X.K C m g) (l : fs.lookup m = none)
    (h : Q (.ref g, [.ref a]) s) : wpAny (model X.prog X.w) A (getMethod (.ref a) m pl) Q E s := by
  obtain ⟨mA, O, r, _, _, _⟩ := ins_get I.hok e
  have hn : mA m = none := RelO.none_of (by rw [← l]; exact r m)
  exact get_meth I.kIn O (c.get m) k.at_ k.fn hn h
theorem setattr_ok {y : V} {u : Value} {Q : Unit → Shared → Prop} (I : Inv X pins σ H s) (e : H a = some (.ins C dx fs)) (c : Cls X.K C) (n : NoAttr X.K C f) (hl : fs.length < 1000) (ry : RelV y u)
    (h : ∀ s', Inv X pins σ (upd H a (.ins C dx (putF f y fs))) s' → Q () s') : wpAny (model X.prog X.w) A (setAttr (.ref a) f u) Q E s := by
  obtain ⟨mA, O, r, wi, _, ho⟩ := ins_get I.hok e
  have hz : (fs.map (·.1)).length ≤ sizeLine := by rw [List.length_map, sizeLine_eq]; omega
  refine set_map I.kIn O c.sa c.po n.taker c.hd wi hz fun h' O' sb => h _ ?_
  have hd : ∃ o, h'.get? dx = some o := let ⟨o, _, _, e', _⟩ := O'.ns; ⟨o, e'⟩
  refine I.write (x := a) (e := dx) (by rw [e]; exact True.intro) (.inr ho) (fun b q hb z => (sb.2 b hb).trans z) hd ?_
  refine ⟨by rw [upd_ne O.ne]; exact ho, ?_, O.ne, O'.obj, _, O'.ns, fun g => ?_, fun g hg => ?_⟩
  · have := length_putF f y fs; omega
  · show RelO ((putF f y fs).lookup g) (if g = f then some u else mA g)
    rw [lookup_putF]
    by_cases q : g = f
    · rw [if_pos q, if_pos q]; exact ry
    · rw [if_neg q, if_neg q]; exact r g
  · by_cases q : g = f
    · rw [q]; exact (keys_putF f y fs).1
    · refine (keys_putF f y fs).2 g (wi g fun z => hg ?_)
      show (if g = f then some u else mA g) = none
      rw [if_neg q]; exact z
theorem Inv.made (I : Inv X pins σ H s) : Inv X pins σ (upd (upd H s.heap.objs.size (.own (s.heap.objs.size + 1))) (s.heap.objs.size + 1) (.ins C s.heap.objs.size []))
    { s with heap := (s.heap.push PySem.W.emptyDict).push (PySem.W.instObj C s.heap.objs.size) } := by
  have e1 : (s.heap.push PySem.W.emptyDict).get? s.heap.objs.size = some PySem.W.emptyDict := Heap.get?_push_size s.heap rfl
  have e2 : ((s.heap.push PySem.W.emptyDict).push (PySem.W.instObj C s.heap.objs.size)).get? (s.heap.objs.size + 1) = some (PySem.W.instObj C s.heap.objs.size) := by
    have := Heap.get?_push_size (s.heap.push PySem.W.emptyDict) (o := PySem.W.instObj C s.heap.objs.size) rfl
    rwa [Heap.size_push] at this
  have e3 : (s.heap.push PySem.W.emptyDict).Ns s.heap.objs.size (fun _ => none) := ⟨PySem.W.emptyDict, #[], _, e1, rfl, (fun e he => absurd he (by simp)), fun _ => rfl⟩
  have I1 := I.laid (a := s.heap.objs.size) (o := .own (s.heap.objs.size + 1)) (h' := s.heap.push PySem.W.emptyDict) (t' := s.toks) (fun b u q => Heap.get?_push_of_some _ q) (Nat.le_refl _) ⟨_, e1⟩
  refine I1.laid (a := s.heap.objs.size + 1) (o := .ins C s.heap.objs.size []) (t' := s.toks) (fun b u q => Heap.get?_push_of_some _ q) (Nat.le_of_eq (Heap.size_push _ _)) ?_
  have ne : s.heap.objs.size ≠ s.heap.objs.size + 1 := Nat.ne_of_lt (Nat.lt_succ_self _)
  refine ⟨by rw [upd_ne ne, upd_same], Nat.zero_le _, ne, e2, fun _ => none, (Heap.Ns1.of_empty e3).at fun o q => Heap.get?_push_of_some _ q, fun _ => True.intro, fun y hy => absurd rfl hy⟩
theorem attr_of {prog : Program} {w : World} {env : Env} {e : Expr} {f : Str} {pos : Pos} {s : Shared} {Q : Value → Shared → Prop} (hb : attributeBase e f env (eval e env) = eval e env)
    (h : wpAny (model prog w) A (eval e env) (fun o s₁ => wpAny (model prog w) A (getAttr o f true) Q E s₁) E s) : wpAny (model prog w) A (eval (.Attribute e f pos) env) Q E s :=
  Attribute_any_ h (by rw [arm_eval_Attribute, hb])
end
def tFld (K : PySem.W.Frag) (ta : TE) (f : Str) : TE := fun σ H Q => ta σ H fun x H1 => ∃ a C dx fs v, x = .ref a ∧ H1 a = some (.ins C dx fs) ∧ Cls K C ∧ NoAttr K C f ∧ fs.lookup f = some v ∧ Q v H1
def sFld (K : PySem.W.Frag) (ta tv : TE) (f : Str) : TS := fun D σ H => tv σ H fun y H1 => ta σ H1 fun x H2 => ∃ a C dx fs, x = .ref a ∧ H2 a = some (.ins C dx fs) ∧ Cls K C ∧ NoAttr K C f ∧ fs.length < 1000 ∧
  D.nx σ (upd H2 a (.ins C dx (putF f y fs)))
section
variable {X : Cx} {o e value : Expr} {f : Str} {pos pos' tpos : Pos} {ta tv : TE}
theorem pe_fld (he : PE X e ta) (hb : attributeBase e f X.env (eval e X.env) = eval e X.env) : PE X (.Attribute e f pos) (tFld X.K ta f) := by
  intro pins s σ H Q I h
  refine attr_of hb (thn (he pins s σ H _ I h) fun u s1 ⟨x, H1, I1, rx, a, C, dx, fs, v, ex, ea, c, n, l, q⟩ => ?_)
  subst ex
  obtain rfl : u = Value.ref a := rx
  exact getattr_ok I1 ea c n l fun u' s2 I2 ru => ⟨v, H1, I2, ru, q⟩
theorem ps_fld (ha : PE X o ta) (hv : PE X value tv) (hs : swapsWith value (some (.Attribute o f pos')) pos.line X.env = pure false) : PS X (.Assign [.Attribute o f pos'] value pos) (sFld X.K ta tv f) := by
  intro pins s σ H D I h
  refine plainObj_wpAny_Assign_Attribute (thn (hv pins s σ H _ I h) fun u s1 ⟨y, H1, I1, ry, q⟩ => thn (ha pins s1 σ H1 _ I1 q) fun ov s2 ⟨x, H2, I2, rx, a, C, dx, fs, ex, ea, c, n, l, q2⟩ => ?_) hs
  subst ex
  obtain rfl : ov = Value.ref a := rx
  exact setattr_ok I2 ea c n l ry fun s3 I3 => ⟨σ, _, I3, q2⟩
theorem methcall_of {pl : Sem Bool} {m : Str} {apos : Pos} {args : List Expr} {pins : List (Addr × Obj)} {s : Shared} {σ : St} {H : Hp} {Q : Value → Shared → Prop} {te : TE} (he : PE X e te) (I : Inv X pins σ H s)
    (h : te σ H fun x H1 => ∃ a C dx fs g, x = .ref a ∧ H1 a = some (.ins C dx fs) ∧ Cls X.K C ∧ Meth X.K C m g ∧ fs.lookup m = none ∧
      ∀ s1, Inv X pins σ H1 s1 → wpAny (model X.prog X.w) X.A (callWith pos (.ref g) [.ref a] (backTo pos (starEach args X.env)) (backToKw pos (keywordEach [] X.env))) Q X.xe s1)
    (ht : eval (.Call (.Attribute e m apos) args [] pos) X.env = (do
      let ov ← eval e X.env
      standAt apos.atName
      let (f, first) ← holding [ov] (getMethod ov m pl)
      callWith pos f first (backTo pos (starEach args X.env)) (backToKw pos (keywordEach [] X.env)))) :
    wpAny (model X.prog X.w) X.A (eval (.Call (.Attribute e m apos) args [] pos) X.env) Q X.xe s := by
  refine PySem.W.methodCall_KW (pl := pl) (thn (he pins s σ H _ I h) fun u s1 ⟨x, H1, I1, rx, a, C, dx, fs, g, ex, ea, c, k, l, q⟩ => ?_) ht
  subst ex
  obtain rfl : u = Value.ref a := rx
  exact getmeth_ok I1 ea c k l (q s1 I1)
end
section
variable {X : Cx} {pins : List (Addr × Obj)} {σ : St} {H : Hp} {s : Shared} {A : Around} {E : Value → Shared → Prop} {Q : Value → Shared → Prop} {c : Value} {b : Bool}
inductive TyOf (K : PySem.W.Frag) (H : Hp) : V → Value → Prop where
  | non : TyOf K H .non (.type "NoneType")
  | bl (x : Bool) : TyOf K H (.bl x) (.type "bool")
  | int (i : Int) : TyOf K H (.int i) (.type "int")
  | str (x : Str) : TyOf K H (.str x) (.type "str")
  | flt (x : UInt64) : TyOf K H (.flt x) (.type "float")
  | lst {a : Addr} {xs : List V} (e : H a = some (.lst xs)) : TyOf K H (.ref a) (.type "list")
  | frz {a : Addr} {o : Obj} {xs : List V} (e : H a = some (.frz o (.lst xs))) : TyOf K H (.ref a) (.type "list")
  | tup {a : Addr} {xs : List V} (e : H a = some (.tup xs)) : TyOf K H (.ref a) (.type "tuple")
  | dK {a : Addr} {kvs : List (Key × V)} (e : H a = some (.dK kvs)) : TyOf K H (.ref a) (.type "dict")
  | dT {a : Addr} {kvs : List (List Key × V)} (e : H a = some (.dT kvs)) : TyOf K H (.ref a) (.type "dict")
  | ins {a C dx : Addr} {fs : List (Str × V)} (e : H a = some (.ins C dx fs)) (cl : Cls K C) (ha : PySem.W.findIn K (.ref C) "__class__" = some (some (.builtin "object.__class__")))
      (hn : PySem.W.specialIn K (.builtin "object.__class__") "__get__" = some (some (.builtin "getset_descriptor.__get__"))) (htk : PySem.W.takesIn K (.builtin "object.__class__") = some true)
      (hm : PySem.W.mroIn K C (.type "object") = some true) : TyOf K H (.ref a) (.ref C)
end
end L2
namespace L2
open PySem PySem.Spec PyProof.Rows
structure Room (k : Nat) (A : Around) : Prop where
  hd : A.handled = none
  dp : A.depth + 3 * k + 5 < recursionLimit
  un : A.units + 16 * k + 200 < cLine
theorem Room.mono {j k : Nat} {A : Around} (r : Room k A) (h : j ≤ k) : Room j A := ⟨r.hd, by have := r.dp; omega, by have := r.un; omega⟩
theorem Room.deeper {k : Nat} {A : Around} (r : Room (k + 1) A) (env : Env) : Room k (A.deeper env) :=
  ⟨r.hd, by have := r.dp; show A.depth + 1 + 3 * k + 5 < _; omega, by have := r.un; show A.units + 3 + 16 * k + 200 < _; omega⟩
theorem Room.in1 {k : Nat} {A : Around} (r : Room (k + 1) A) : Room k A.in1 :=
  ⟨r.hd, by have := r.dp; show A.depth + 3 * k + 5 < _; omega, by have := r.un; show A.units + 1 + 16 * k + 200 < _; omega⟩
theorem make_depth {A : Around} {C : Addr} {us : List Value} {kw : List (Str × Value)} : (A.under (.builtin "type.__call__" ⟨.ref C :: us, kw⟩)).depth = A.depth + 1 := by
  first | rfl | simp [Around.under, Code.weight, Code.isCreation, Code.isGuard, Code.isCaller, Code.frames, Code.isFrame, guardIds]
theorem make_units {A : Around} {C : Addr} {us : List Value} {kw : List (Str × Value)} : (A.under (.builtin "type.__call__" ⟨.ref C :: us, kw⟩)).units = A.units + 1 := by
  first | rfl | simp [Around.under, Code.cUnits, Code.frames, Code.isFrame]
theorem Room.make {k : Nat} {A : Around} (r : Room (k + 1) A) (C : Addr) (us : List Value) (kw : List (Str × Value)) : Room k (A.under (.builtin "type.__call__" ⟨.ref C :: us, kw⟩)) :=
  ⟨r.hd, by have := r.dp; rw [make_depth]; omega, by have := r.un; rw [make_units]; omega⟩
theorem Room.depth {k : Nat} {A : Around} (r : Room k A) : A.depth < recursionLimit := by have := r.dp; omega
theorem Room.units {k : Nat} {A : Around} (r : Room k A) : A.units + 64 < cLine := by have := r.un; omega
def tNil : TA := fun _ H Q => Q [] H
def tCons (ta : TE) (tr : TA) : TA := fun σ H Q => ta σ H fun x H1 => tr σ H1 fun xs H2 => Q (x :: xs) H2
section
variable {X : Cx} {e : Expr} {es : List Expr} {te : TE} {t : TA} {pos : Pos}
theorem pa_nil : PA X [] tNil := fun _ _ _ _ H Q I h => Calls.spliced_nil ⟨[], H, I, .nil, h⟩
theorem pa_cons (ha : PE X e te) (hr : PA X es t) (hs : starEach (e :: es) X.env = (false, eval e X.env) :: starEach es X.env := by rfl) : PA X (e :: es) (tCons te t) := by
  intro pos pins s σ H Q I h
  rw [hs]
  show wpAny _ _ (spliced ((false, eval e X.env) :: backTo pos (starEach es X.env))) _ _ s
  refine Calls.spliced_cons (thn (ha pins s σ H _ I h) fun u s1 ⟨x, H1, I1, r1, q1⟩ => ?_)
  exact thn (hr pos pins s1 σ H1 _ I1 q1) fun us s2 ⟨xs, H2, I2, r2, q2⟩ => ⟨x :: xs, H2, I2, .cons r1 r2, q2⟩
def tTup (t : TA) : TE := fun σ H Q => t σ H fun xs H1 => xs.length ≤ sizeLine ∧ ∀ p, H1 p = none → Q (.ref p) (upd H1 p (.tup xs))
def tLst (t : TA) : TE := fun σ H Q => t σ H fun xs H1 => xs.length ≤ sizeLine ∧ ∀ p, H1 p = none → Q (.ref p) (upd H1 p (.lst xs))
theorem pe_tup {x1} (h : PA X es t) : PE X (.Tuple es x1 pos) (tTup t) := by
  intro pins s σ H Q I hq
  refine wpAny_Tuple_spliced (thn (h pos pins s σ H _ I hq) fun us s1 ⟨xs, H1, I1, r, z, q⟩ => ⟨by rw [← r.length]; exact z, ?_⟩)
  have hf : H1 s1.heap.objs.size = none := I1.hok.fresh (Nat.le_refl _)
  refine ⟨.ref s1.heap.objs.size, upd H1 s1.heap.objs.size (.tup xs), I1.laid (t' := s1.toks) (fun b u e => Heap.get?_push_of_some _ e) (Nat.le_refl _) ?_, rfl, q _ hf⟩
  exact ⟨z, us, r, ⟨_, Heap.get?_push_size _ rfl, rfl, _, rfl⟩⟩
theorem pe_lst (h : PA X es t) : PE X (.List es pos) (tLst t) := by
  intro pins s σ H Q I hq
  refine wpAny_List_spliced (thn (h pos pins s σ H _ I hq) fun us s1 ⟨xs, H1, I1, r, z, q⟩ => ⟨by rw [← r.length]; exact z, ?_⟩)
  have hf : H1 s1.heap.objs.size = none := I1.hok.fresh (Nat.le_refl _)
  refine ⟨.ref s1.heap.objs.size, upd H1 s1.heap.objs.size (.lst xs), I1.laid (t' := s1.toks) (fun b u e => Heap.get?_push_of_some _ e) (Nat.le_refl _) ?_, rfl, q _ hf⟩
  exact ⟨z, us, 0, r, Heap.get?_push_size _ rfl⟩
end
abbrev Sp := List V → Hp → VK → XK → Prop
abbrev CXT := List Env → Hp → Shared → XK → Value → Shared → Prop
structure Env0 (P : Program) (w : World) (K : PySem.W.Frag) (mg : Str → Option Value) (base : Heap) (A : Around) (outer : List Env) (s : Shared) (H : Hp) : Prop where
  frames : A.frames = some outer
  mod : Mod K mg base
  bs : ∀ b o, base.get? b = some o → s.heap.get? b = some o ∧ H b = none
  bsz : base.objs.size ≤ s.heap.objs.size
  funs : s.heap.FunFrames base outer
  frf : ∀ b ∈ frs outer, H b = none
  hok : HOk P w H s.heap
  bare : AllBare s.gens
def CE (outer : List Env) (P : Program) (w : World) (H : Hp) (s : Shared) (Q : VK) (u : Value) (s' : Shared) : Prop :=
  ∃ v H', s'.os = s.os ∧ AllBare s'.gens ∧ Un (frs outer) [] H H' s.heap s'.heap ∧ HOk P w H' s'.heap ∧ RelV v u ∧ Q v H'
def CR (CX : CXT) (outer : List Env) (P : Program) (w : World) (H : Hp) (s : Shared) (Q : VK) (E : XK) (r : Result) (s' : Shared) : Prop :=
  match r with
  | .ok (.ret u) => CE outer P w H s Q u s'
  | .ok _ => False
  | .error e => CX outer H s E e s'
structure FnOk (P : Program) (w : World) (K : PySem.W.Frag) (mg : Str → Option Value) (base : Heap) (CX : CXT) (k : Nat) (f : Addr) (fd : FuncData) (ps : List Str) (sp : Sp) : Prop where
  len : ∀ vs H Q E, sp vs H Q E → vs.length = ps.length
  run : ∀ (A : Around) (outer : List Env) (s : Shared) (H : Hp) (args : Args) (us : List Value) (vs : List V) (Q : VK) (E : XK), Room k A → Env0 P w K mg base A outer s H → BindsTo s fd args (ps.zip us) → Vals vs us → sp vs H Q E →
    codeAny (model P w) A (.call (.ref f) args) (CR CX outer P w H s Q E) s
theorem Env0.make {P : Program} {w : World} {K : PySem.W.Frag} {mg : Str → Option Value} {base : Heap} {A : Around} {outer : List Env} {s : Shared} {H : Hp} (e : Env0 P w K mg base A outer s H) (C : Addr) (us : List Value) (kw : List (Str × Value)) :
    Env0 P w K mg base (A.under (.builtin "type.__call__" ⟨.ref C :: us, kw⟩)) outer s H := ⟨by first | exact e.frames | (simpa [Around.under, Code.envs, Code.isFrame, pushEnvs] using e.frames), e.mod, e.bs, e.bsz, e.funs, e.frf, e.hok, e.bare⟩
section
variable {X : Cx} {pins : List (Addr × Obj)} {σ : St} {H : Hp} {s s' : Shared}
theorem Inv.env0 (I : Inv X pins σ H s) : Env0 X.prog X.w X.K X.mg X.base X.A X.stack s H :=
  ⟨I.ok.frames, I.ok.mod, I.bs, Nat.le_trans I.ok.bsz I.sz, I.stack, I.stkFree, I.hok, I.bare⟩
theorem Inv.after {Q : VK} {u : Value} (I : Inv X pins σ H s) (h : CE X.stack X.prog X.w H s Q u s') : EP X pins σ Q u s' := by
  obtain ⟨v, H', os, bare, un, hok, r, q⟩ := h
  obtain ⟨hh, g, d, t, os'⟩ := s'
  obtain rfl : os' = s.os := os
  exact ⟨v, H', I.call (h' := hh) (g' := g) (d' := d) (t' := t) (ch := []) un hok bare (fun b z => absurd z (by simp)), r, q⟩
end
def tCall (sp : Sp) (dvs : List V) (E : XK) (t : TA) : TE := fun σ H Q => t σ H fun vs H1 => sp (vs ++ dvs) H1 Q E
def tMeth (C : Addr) (m : Str) (sp : Sp) (dvs : List V) (E : XK) (ta : TE) (t : TA) : TE := fun σ H Q => ta σ H fun x H1 => ∃ a dx fs, x = .ref a ∧ H1 a = some (.ins C dx fs) ∧ fs.lookup m = none ∧
  t σ H1 fun vs H2 => sp (x :: (vs ++ dvs)) H2 Q E
def tMake (C : Addr) (sp : Sp) (dvs : List V) (E : XK) (t : TA) : TE := fun σ H Q => t σ H fun vs H1 => ∀ x dx, H1 x = none → H1 dx = none → dx ≠ x →
  sp (.ref x :: (vs ++ dvs)) (upd (upd H1 dx (.own x)) x (.ins C dx [])) (fun v H2 => v = .non ∧ Q (.ref x) H2) E
def Binds (K : PySem.W.Frag) (fd : FuncData) (ps : List Str) (ds : List Value) : Prop :=
  ∀ (s : Shared) (us : List Value), K.In s.heap → (us ++ ds).length = ps.length → BindsTo s fd ⟨us, []⟩ (ps.zip (us ++ ds))
theorem Binds.all {K : PySem.W.Frag} {fd : FuncData} {ps : List Str} (h : ∀ us : List Value, us.length = ps.length → bindArgs fd ⟨us, []⟩ = pure (ps.zip us)) : Binds K fd ps [] := fun s us _ hl => by
  rw [List.append_nil] at hl ⊢
  exact .of_eq (h us hl)
def Passes (CX : CXT) (X : Cx) (E : XK) : Prop := ∀ (pins : List (Addr × Obj)) (σ : St) (H : Hp) (s : Shared) (e : Value) (s' : Shared), Inv X pins σ H s → CX X.stack H s E e s' → X.xe e s'
section
variable {X : Cx} {CX : CXT} {k : Nat} {f C : Addr} {fd : FuncData} {ps : List Str} {sp : Sp} {dvs : List V} {ds : List Value} {E : XK} {x m : Str} {p pos apos : Pos} {e o : Expr} {es : List Expr} {ta : TE} {t : TA}
theorem run_fn {pins : List (Addr × Obj)} {σ : St} {H : Hp} {s : Shared} {Q : VK} {us : List Value} {vs : List V} (F : FnOk X.prog X.w X.K X.mg X.base CX k f fd ps sp) (hr : Room k X.A) (hb : Binds X.K fd ps ds) (hd : Vals dvs ds) (hx : Passes CX X E)
    (I : Inv X pins σ H s) (r : Vals vs us) (h : sp (vs ++ dvs) H Q E) : wpAny (model X.prog X.w) X.A (call (.ref f) us) (EP X pins σ Q) X.xe s := by
  have r2 : Vals (vs ++ dvs) (us ++ ds) := r.append hd
  have hl : (us ++ ds).length = ps.length := by rw [← r2.length]; exact F.len _ _ _ _ h
  refine wpAny_call (codeAny_mono (F.run X.A X.stack s H ⟨us, []⟩ (us ++ ds) (vs ++ dvs) Q E hr I.env0 (hb s us I.kIn hl) r2 h) fun r s' hq => ?_)
  cases r with
  | error e => exact hx pins σ H s e s' I hq
  | ok fl =>
    cases fl with
    | ret u => exact I.after hq
    | next => exact False.elim hq
    | brk => exact False.elim hq
    | cont => exact False.elim hq
theorem pe_call (F : FnOk X.prog X.w X.K X.mg X.base CX k f fd ps sp) (hr : Room k X.A) (hg : Gl X x) (hm : X.mg x = some (.ref f)) (hk : PySem.W.keepIn X.K (.ref f) = true) (hb : Binds X.K fd ps ds) (hd : Vals dvs ds) (hx : Passes CX X E)
    (ha : PA X (e :: es) t) (hdb : (x == ("__debug__" : Str)) = false := by decide) (he : starEach (e :: es) X.env = (false, eval e X.env) :: starEach es X.env := by rfl) (hpl : (backTo pos (starEach es X.env)).any (·.1) = false := by rfl) :
    PE X (.Call (.Name x p) (e :: es) [] pos) (tCall sp dvs E t) := by
  intro pins s σ H Q I h
  refine wpAny_Call_Name_kw (ld_glob I hg hm ?_ hdb)
  refine PySem.W.callWith_K (h₀ := X.base) I.ok.mod.kin hk (thn (ha pos pins s σ H _ I h) fun us s1 ⟨vs, H1, I1, r, q⟩ => ⟨I1.kIn, ?_⟩) he hpl
  exact run_fn F hr hb hd hx I1 r q
theorem pe_meth {pl : Sem Bool} (he : PE X o ta) (c : Cls X.K C) (hm : Meth X.K C m f) (F : FnOk X.prog X.w X.K X.mg X.base CX k f fd ps sp) (hr : Room k X.A) (hb : Binds X.K fd ps ds) (hd : Vals dvs ds) (hx : Passes CX X E) (ha : PA X (e :: es) t)
    (hst : starEach (e :: es) X.env = (false, eval e X.env) :: starEach es X.env := by rfl) (hpl : (backTo pos (starEach es X.env)).any (·.1) = false := by rfl)
    (ht : eval (.Call (.Attribute o m apos) (e :: es) [] pos) X.env = (do
      let ov ← eval o X.env
      standAt apos.atName
      let (f, first) ← holding [ov] (getMethod ov m pl)
      callWith pos f first (backTo pos (starEach (e :: es) X.env)) (backToKw pos (keywordEach [] X.env))) := by rfl) :
    PE X (.Call (.Attribute o m apos) (e :: es) [] pos) (tMeth C m sp dvs E ta t) := by
  intro pins s σ H Q I h
  refine PySem.W.methodCall_KW (pl := pl) (thn (he pins s σ H _ I h) fun u s1 ⟨x, H1, I1, rx, a, dx, fs, ex, ea, l, q⟩ => ?_) ht
  subst ex
  obtain rfl : u = Value.ref a := rx
  refine getmeth_ok I1 ea c hm l ?_
  refine PySem.W.callWith_K (first := [.ref a]) (h₀ := X.base) I.ok.mod.kin hm.kp (thn (ha pos pins s1 σ H1 _ I1 q) fun us s2 ⟨vs, H2, I2, r, q2⟩ => ⟨I2.kIn, ?_⟩) hst hpl
  exact run_fn (us := .ref a :: us) (vs := .ref a :: vs) F hr hb hd hx I2 (.cons rfl r) q2
theorem pe_meth0 {pl : Sem Bool} (he : PE X o ta) (c : Cls X.K C) (hm : Meth X.K C m f) (F : FnOk X.prog X.w X.K X.mg X.base CX k f fd ps sp) (hr : Room k X.A) (hb : Binds X.K fd ps ds) (hd : Vals dvs ds) (hx : Passes CX X E)
    (ht : eval (.Call (.Attribute o m apos) [] [] pos) X.env = (do
      let ov ← eval o X.env
      standAt apos.atName
      let (f, first) ← holding [ov] (getMethod ov m pl)
      callWith pos f first (backTo pos (starEach [] X.env)) (backToKw pos (keywordEach [] X.env))) := by rfl) :
    PE X (.Call (.Attribute o m apos) [] [] pos) (tMeth C m sp dvs E ta tNil) := by
  intro pins s σ H Q I h
  refine PySem.W.methodCall_KW (pl := pl) (thn (he pins s σ H _ I h) fun u s1 ⟨x, H1, I1, rx, a, dx, fs, ex, ea, l, q⟩ => ?_) ht
  subst ex
  obtain rfl : u = Value.ref a := rx
  refine getmeth_ok I1 ea c hm l ?_
  exact PySem.W.callWith_K0 (first := [.ref a]) I1.kIn hm.kp (run_fn (us := [.ref a]) (vs := [.ref a]) F hr hb hd hx I1 (.cons rfl .nil) q)
structure Mk (K : PySem.W.Frag) (C f : Addr) : Prop where
  makes : PySem.W.makesIn K C = true
  init : PySem.W.findIn K (.ref C) "__init__" = some (some (.ref f))
  fn : PySem.W.isFn K (.ref f) = true
  kp : PySem.W.keepIn K (.ref C) = true
theorem run_make {pins : List (Addr × Obj)} {σ : St} {H : Hp} {s : Shared} {Q : VK} {us : List Value} {vs : List V} (M : Mk X.K C f) (F : FnOk X.prog X.w X.K X.mg X.base CX k f fd ps sp) (hr : Room (k + 1) X.A) (hb : Binds X.K fd ps ds) (hd : Vals dvs ds)
    (hx : Passes CX X E) (I : Inv X pins σ H s) (r : Vals vs us)
    (h : ∀ x dx, H x = none → H dx = none → dx ≠ x → sp (.ref x :: (vs ++ dvs)) (upd (upd H dx (.own x)) x (.ins C dx [])) (fun v H2 => v = .non ∧ Q (.ref x) H2) E) :
    wpAny (model X.prog X.w) X.A (call (.ref C) us) (EP X pins σ Q) X.xe s := by
  have hq := h (s.heap.objs.size + 1) s.heap.objs.size (I.hok.fresh (Nat.le_succ _)) (I.hok.fresh (Nat.le_refl _)) (Nat.ne_of_lt (Nat.lt_succ_self _))
  have I2 := Inv.made (C := C) I
  have r2 : Vals (V.ref (s.heap.objs.size + 1) :: (vs ++ dvs)) (Value.ref (s.heap.objs.size + 1) :: (us ++ ds)) := .cons rfl (r.append hd)
  have hl : (Value.ref (s.heap.objs.size + 1) :: us ++ ds).length = ps.length := by
    have e := r2.length
    rw [F.len _ _ _ _ hq] at e
    exact e.symm
  refine wpAny_call (make_map (f := f) I.kIn M.makes M.init (beq_iff_eq.mp M.fn) (codeAny_mono (F.run _ X.stack _ _ ⟨Value.ref (s.heap.objs.size + 1) :: us, []⟩ (Value.ref (s.heap.objs.size + 1) :: (us ++ ds)) _ _ E (hr.make C us [])
    (I2.env0.make C us []) (hb _ (Value.ref (s.heap.objs.size + 1) :: us) I2.kIn hl) r2 hq) fun r s' hq' => ?_))
  cases r with
  | error e => exact hx pins σ _ _ e s' I2 hq'
  | ok fl =>
    cases fl with
    | ret u =>
      obtain ⟨v, H', I3, rv, ev, q3⟩ := I2.after hq'
      subst ev
      exact ⟨rv, ⟨V.ref (s.heap.objs.size + 1), H', I3, rfl, q3⟩⟩
    | next => exact False.elim hq'
    | brk => exact False.elim hq'
    | cont => exact False.elim hq'
theorem pe_make (M : Mk X.K C f) (F : FnOk X.prog X.w X.K X.mg X.base CX k f fd ps sp) (hr : Room (k + 1) X.A) (hg : Gl X x) (hm : X.mg x = some (.ref C)) (hb : Binds X.K fd ps ds) (hd : Vals dvs ds) (hx : Passes CX X E)
    (ha : PA X (e :: es) t) (hdb : (x == ("__debug__" : Str)) = false := by decide) (he : starEach (e :: es) X.env = (false, eval e X.env) :: starEach es X.env := by rfl) (hpl : (backTo pos (starEach es X.env)).any (·.1) = false := by rfl) :
    PE X (.Call (.Name x p) (e :: es) [] pos) (tMake C sp dvs E t) := by
  intro pins s σ H Q I h
  refine wpAny_Call_Name_kw (ld_glob I hg hm ?_ hdb)
  refine PySem.W.callWith_K (h₀ := X.base) I.ok.mod.kin M.kp (thn (ha pos pins s σ H _ I h) fun us s1 ⟨vs, H1, I1, r, q⟩ => ⟨I1.kIn, ?_⟩) he hpl
  exact run_make M F hr hb hd hx I1 r q
end
section
variable {X : Cx} {CX : CXT} {k : Nat} {f C : Addr} {fd : FuncData} {ps ks : List Str} {sp : Sp} {E : XK} {x m : Str} {p pos apos kpos : Pos} {e o : Expr} {es : List Expr} {kws : List Keyword} {te ta : TE} {t tk : TA} {nm : Option Str}
structure KBinds (K : PySem.W.Frag) (fd : FuncData) (ps ks : List Str) (g : List Value → List Value → List Value) (gV : List V → List V → List V) : Prop where
  to : ∀ (s : Shared) (us ws : List Value), K.In s.heap → (g us ws).length = ps.length → BindsTo s fd ⟨us, ks.zip ws⟩ (ps.zip (g us ws))
  rel : ∀ {vs : List V} {us : List Value} {zs : List V} {ws : List Value}, Vals vs us → Vals zs ws → Vals (gV vs zs) (g us ws)
variable {g : List Value → List Value → List Value} {gV : List V → List V → List V}
end
structure FnScope (N P : List Str) (sc : Scope) : Prop where
  kind : sc.kind = .function
  co : sc.isCoroutine = false
  gen : sc.isGenerator = false
  nd : N.Nodup
  pre : N.take P.length = P
  par : ∀ x ∈ P, sc.names.lookup x = some .local ∨ sc.names.lookup x = some .cell
  nofree : ∀ y ∈ sc.names, y.2 ≠ .free
theorem bindL_out {kindOf : Str → Option NameKind} {x : Str} : ∀ {binds : List (Str × Value)} {m : Str → Option Value}, (∀ v, (x, v) ∉ binds) → bindL kindOf binds m x = m x
  | [], _, _ => rfl
  | (n, v) :: r, m, h => by
    unfold bindL
    rw [bindL_out fun w hw => h w (List.mem_cons_of_mem _ hw)]
    split
    · have : x ≠ n := by rintro rfl; exact h v List.mem_cons_self
      simp [this]
    · rfl
theorem bindC_out {kindOf : Str → Option NameKind} {x : Str} : ∀ {binds : List (Str × Value)} {m : Str → Option Value}, (∀ v, (x, v) ∉ binds) → bindC kindOf binds m x = m x
  | [], _, _ => rfl
  | (n, v) :: r, m, h => by
    unfold bindC
    rw [bindC_out fun w hw => h w (List.mem_cons_of_mem _ hw)]
    split
    · rfl
    · have : x ≠ n := by rintro rfl; exact h v List.mem_cons_self
      simp [this]
theorem bindL_get {kindOf : Str → Option NameKind} {x : Str} {v : Value} : ∀ {P : List Str} {vs : List Value} {i : Nat} {m : Str → Option Value}, P.Nodup → P[i]? = some x → vs[i]? = some v → kindOf x = some .local →
    bindL kindOf (P.zip vs) m x = some v
  | [], _, _, _, _, h, _, _ => by simp at h
  | _ :: _, [], _, _, _, _, h, _ => by simp at h
  | p :: P, w :: vs, 0, m, nd, h1, h2, hk => by
    simp at h1 h2; subst h1; subst h2
    show bindL kindOf ((p, w) :: P.zip vs) m p = _
    unfold bindL
    rw [bindL_out fun v hv => (List.nodup_cons.mp nd).1 (List.of_mem_zip hv).1, if_pos hk]
    simp
  | p :: P, w :: vs, i + 1, m, nd, h1, h2, hk => by
    show bindL kindOf ((p, w) :: P.zip vs) m x = _
    unfold bindL
    exact bindL_get (i := i) (List.nodup_cons.mp nd).2 (by simpa using h1) (by simpa using h2) hk
theorem bindC_get {kindOf : Str → Option NameKind} {x : Str} {v : Value} : ∀ {P : List Str} {vs : List Value} {i : Nat} {m : Str → Option Value}, P.Nodup → P[i]? = some x → vs[i]? = some v → kindOf x ≠ some .local →
    bindC kindOf (P.zip vs) m x = some v
  | [], _, _, _, _, h, _, _ => by simp at h
  | _ :: _, [], _, _, _, _, h, _ => by simp at h
  | p :: P, w :: vs, 0, m, nd, h1, h2, hk => by
    simp at h1 h2; subst h1; subst h2
    show bindC kindOf ((p, w) :: P.zip vs) m p = _
    unfold bindC
    rw [bindC_out fun v hv => (List.nodup_cons.mp nd).1 (List.of_mem_zip hv).1, if_neg hk]
    simp
  | p :: P, w :: vs, i + 1, m, nd, h1, h2, hk => by
    show bindC kindOf ((p, w) :: P.zip vs) m x = _
    unfold bindC
    exact bindC_get (i := i) (List.nodup_cons.mp nd).2 (by simpa using h1) (by simpa using h2) hk
def start (N : List Str) (vs : List V) : St := vs.map some ++ List.replicate (N.length - vs.length) none
def cxOf (CX : CXT) (P : Program) (w : World) (K : PySem.W.Frag) (mg : Str → Option Value) (base : Heap) (N : List Str) (qual : Str) (scope : Scope) (f : Addr) (cd : Value) (A : Around) (outer : List Env) (s : Shared) (H : Hp) (E : XK) : Cx where
  prog := P
  w := w
  K := K
  mg := mg
  base := base
  A := A.deeper (envOfC qual scope s.heap.objs.size f cd)
  N := N
  s₀ := s
  H₀ := H
  env := envOfC qual scope s.heap.objs.size f cd
  outer := outer
  stack := envOfC qual scope s.heap.objs.size f cd :: outer
  ex := []
  calm := true
  fn := fun _ => true
  pn := []
  xe := fun e s' => wpAny (model P w) (A.deeper (envOfC qual scope s.heap.objs.size f cd)) (leaving (envOfC qual scope s.heap.objs.size f cd) e) (fun _ s'' => CX outer H s E e s'') (fun e' s'' => CX outer H s E e' s'') s'
theorem cell_has {sc : Scope} {n : Nat} {x : Str} (h : sc.names.lookup x = some .cell) : ∃ c, (cellsFrom n sc.names []).lookup x = some c := by
  have q := PySem.W.cellsFrom_some sc.names n [] (.inl h)
  exact Option.isSome_iff_exists.mp q
theorem inv_start {CX : CXT} {P : Program} {w : World} {K : PySem.W.Frag} {mg : Str → Option Value} {base : Heap} {N ps : List Str} {qual : Str} {scope : Scope} {f : Addr} {cd : Value} {A : Around} {outer : List Env} {s s1 : Shared} {H : Hp} {E : XK} {us : List Value} {vs : List V}
    (S : FnScope N ps scope) (hd : A.handled = none) (e0 : Env0 P w K mg base A outer s H) (hl : vs.length = ps.length) (r : Vals vs us)
    (x : InCallC s s.heap.objs.size (bindL (envOfC qual scope s.heap.objs.size f cd).kindOf (ps.zip us) fun _ => none) (cellsFrom (s.heap.objs.size + 1) scope.names []) (bindC (envOfC qual scope s.heap.objs.size f cd).kindOf (ps.zip us) fun _ => none) s1) :
    Inv (cxOf CX P w K mg base N qual scope f cd A outer s H E) [] (start N vs) H s1 := by
  have hpl : ps.length ≤ N.length := by have := congrArg List.length S.pre; rw [List.length_take] at this; omega
  obtain ⟨h1, tk, rfl, hk⟩ := x.done
  have noA : ∀ b : Addr, b ∉ (cxOf CX P w K mg base N qual scope f cd A outer s H E).ex := fun b z => absurd (show b ∈ ([] : List Addr) from z) (by simp)
  refine ⟨⟨e0.mod, S.kind, rfl, rfl, Nat.le_refl _, fun y z c h1 h2 => ?_, fun y hy => ?_, fun y c _ h => ?_, fun _ => hd, Around.frames_deeper e0.frames, .inr ⟨rfl, rfl⟩, fun b z => absurd z (noA b), e0.bs, e0.bsz, fun b _ _ => noA b, fun b z => absurd z (noA b), e0.funs, e0.frf⟩,
    rfl, e0.bare, Un.kept hk, ⟨_, x.toInCall.ns, fun i y v h1 h2 h3 => ?_⟩, fun y c h => ⟨_, x.cell y c h⟩, e0.hok.fresh (Nat.le_refl _), fun y c h => ?_, fun p hp => absurd (show p ∈ ([] : List (Addr × Obj)) from hp) (by simp), e0.hok.kept hk, ?_⟩
  · exact name_of_addr x.apart (PySem.mem_of_lookup h1) (PySem.mem_of_lookup h2)
  · have hy : scope.names.lookup y = some .cell ∨ scope.names.lookup y = some .free := hy
    rcases hy with hy | hy
    · exact cell_has hy
    · exact absurd rfl (S.nofree _ (PySem.mem_of_lookup hy))
  · exact Nat.le_of_lt (x.above y c (PySem.mem_of_lookup h))
  · have hi : i < vs.length := by
      unfold start at h2
      by_cases hi : i < vs.length
      · exact hi
      · rw [List.getElem?_append_right (by simpa using hi)] at h2
        rw [List.getElem?_replicate] at h2
        split at h2 <;> cases h2
    have ha : vs[i]? = some v := by
      unfold start at h2
      rw [List.getElem?_append_left (by simpa using hi), List.getElem?_map] at h2
      cases e : vs[i]? with
      | none => rw [e] at h2; cases h2
      | some a => rw [e] at h2; cases h2; rfl
    obtain ⟨u, hu, rv⟩ := r.get ha
    have hp : ps[i]? = some y := by
      rw [← S.pre, List.getElem?_take_of_lt (by omega)]; exact h1
    have ndP : ps.Nodup := by rw [← S.pre]; exact S.nd.sublist (List.take_sublist _ _)
    refine ⟨u, rv, ?_⟩
    rcases S.par y (List.mem_of_getElem? hp) with k | k
    · exact .inl ⟨k, bindL_get ndP hp hu k⟩
    · obtain ⟨c, e⟩ := cell_has (n := s.heap.objs.size + 1) k
      refine .inr ⟨.inl k, c, e, ?_⟩
      have q := x.cell y c e
      rw [bindC_get ndP hp hu (by show scope.names.lookup y ≠ _; rw [k]; decide)] at q
      exact q
  · exact e0.hok.fresh (Nat.le_of_lt (x.above y c (PySem.mem_of_lookup h)))
  · unfold start
    show _ = N.length
    rw [List.length_append, List.length_map, List.length_replicate]
    omega
theorem fn_of {CX : CXT} {P : Program} {w : World} {K : PySem.W.Frag} {mg : Str → Option Value} {base : Heap} {k : Nat} {f : Addr} {name qual : Str} {params : Arguments} {body : List Stmt} {scope : Scope} {dV kV doc pm cdv ct oc : Value} {an od : Option Addr}
    {osl : Array (Option Value)} {N ps : List Str} {sp : Sp} (lk : K.lookup f = some ⟨oc, od, .func (PySem.W.fnOf name qual params body scope dV kV doc pm an cdv ct), osl⟩) (hcd : PySem.W.codeIn K cdv qual = true) (S : FnScope N ps scope)
    (len : ∀ vs H Q E, sp vs H Q E → vs.length = ps.length)
    (hbody : ∀ (A : Around) (outer : List Env) (s : Shared) (H : Hp) (vs : List V) (Q : VK) (E : XK), Room k (A.deeper (envOfC qual scope s.heap.objs.size f cdv)) → sp vs H Q E →
      ∃ t, PSs (cxOf CX P w K mg base N qual scope f cdv A outer s H E) body t ∧ t { nx := fun _ H' => Q .non H', rt := Q } (start N vs) H) :
    FnOk P w K mg base CX (k + 1) f (PySem.W.fnOf name qual params body scope dV kV doc pm an cdv ct) ps sp := by
  refine ⟨len, fun A outer s H args us vs Q E hr e0 hb r hsp => ?_⟩
  have hl := len _ _ _ _ hsp
  have KX : K.In s.heap := e0.mod.kin.keeps fun b o e => (e0.bs b o e).1
  have lim : s.heap.NoLimit := e0.mod.nolimit.keeps fun b o e => (e0.bs b o e).1
  have hkind : ∀ y ∈ ps.zip us, scope.names.lookup y.1 = some .local ∨ (scope.names.lookup y.1 = some .cell ∧ ((cellsFrom (s.heap.objs.size + 1) scope.names []).lookup y.1).isSome = true) := fun ⟨n, v⟩ hy => by
    rcases S.par n (List.of_mem_zip hy).1 with q | q
    · exact .inl q
    · exact .inr ⟨q, PySem.W.cellsFrom_some _ _ _ (.inl q)⟩
  refine codeAny_call_function hr.depth (KX _ _ lk) rfl S.co S.gen rfl (PySem.W.codeRec_of KX hcd) (hb _ _ _ _ ?_)
  refine wpAny_newFunctionEnv_cells S.kind hkind fun env he s1 x => ?_
  subst he
  refine ⟨lim.keeps x.toInCall.keep, codeAny_func ?_⟩
  obtain ⟨t, ht, hq⟩ := hbody A outer s H vs Q E (hr.deeper _) hsp
  have I : Inv (cxOf CX P w K mg base N qual scope f cdv A outer s H E) [] (start N vs) H s1 := inv_start S hr.hd e0 hl r x
  refine wpAny_mono (ht [] s1 (start N vs) H _ I hq) (fun fl s' hs => ?_) fun e s' hs => hs
  have fin : ∀ {σ' : St} {H' : Hp} {v : V} {u : Value}, Inv (cxOf CX P w K mg base N qual scope f cdv A outer s H E) [] σ' H' s' → RelV v u → Q v H' → CE outer P w H s Q u s' :=
    fun {σ' H' v u} J rv q => ⟨v, H', J.os, J.bare, J.base, J.hok, rv, q⟩
  cases fl with
  | ret u =>
    obtain ⟨v, σ', H', J, rv, q⟩ := hs
    exact fin J rv q
  | next =>
    obtain ⟨σ', H', J, q⟩ := hs
    exact fin (v := V.non) (u := Value.none) J rfl q
  | brk =>
    obtain ⟨_, _, _, q⟩ := hs
    exact False.elim q
  | cont =>
    obtain ⟨_, _, _, q⟩ := hs
    exact False.elim q
end L2
namespace L2
open PySem PySem.Spec PyProof.Rows
section
variable {X : Cx} {x : Str} {p pos : Pos} {e : Expr} {es : List Expr} {t : TA} {id T : String} {r : List V → Hp → VK → Prop}
def tCB (r : List V → Hp → VK → Prop) (t : TA) : TE := fun σ H Q => t σ H fun vs H1 => r vs H1 Q
theorem pe_callB (hc : CallR X (.builtin id) r) (hg : Gl X x) (hm : X.mg x = none) (hv : bootBuiltins x = some (.builtin id)) (ha : PA X (e :: es) t) (hn : x ≠ "__name__" := by decide) (hdb : (x == ("__debug__" : Str)) = false := by decide)
    (he : starEach (e :: es) X.env = (false, eval e X.env) :: starEach es X.env := by rfl) (hpl : (backTo pos (starEach es X.env)).any (·.1) = false := by rfl) : PE X (.Call (.Name x p) (e :: es) [] pos) (tCB r t) := by
  intro pins s σ H Q I h
  refine wpAny_Call_Name_kw (ld_blt I hg hm hv ?_ hn hdb)
  exact PyProof.Rows.callWith_builtin1 (thn (ha pos pins s σ H _ I h) fun us s1 ⟨vs, H1, I1, r1, q1⟩ => hc pins s1 σ H1 vs us Q I1 r1 q1) he hpl
theorem pe_callTy (hc : CallR X (.type T) r) (hg : Gl X x) (hm : X.mg x = none) (hv : bootBuiltins x = some (.type T)) (ha : PA X (e :: es) t) (hn : x ≠ "__name__" := by decide) (hdb : (x == ("__debug__" : Str)) = false := by decide)
    (he : starEach (e :: es) X.env = (false, eval e X.env) :: starEach es X.env := by rfl) (hpl : (backTo pos (starEach es X.env)).any (·.1) = false := by rfl) : PE X (.Call (.Name x p) (e :: es) [] pos) (tCB r t) := by
  intro pins s σ H Q I h
  refine wpAny_Call_Name_kw (ld_blt I hg hm hv ?_ hn hdb)
  exact PyProof.Rows.callWith_type1 (thn (ha pos pins s σ H _ I h) fun us s1 ⟨vs, H1, I1, r1, q1⟩ => hc pins s1 σ H1 vs us Q I1 r1 q1) he hpl
end
end L2
namespace HT
open PySem PyProof.Rows
section
open PySem.SeqAt
open PySem.AutoSeq1 (wpAny_loadPart')
open PySem.MeetsSeq PySem.MeetsSeq2 PySem.MeetsSeq3
end
section
variable {prog : Program} {w : World} {A : Around} {E : Value → Shared → Prop} {s : Shared}
def sIx (n d : Nat) : Option Int → Nat
  | none => d
  | some v => if v < 0 then (v + (n : Int)).toNat else min v.toNat n
theorem sIx_nat (n d k : Nat) : sIx n d (some (k : Int)) = min k n := by
  show (if (k : Int) < 0 then ((k : Int) + (n : Int)).toNat else min (k : Int).toNat n) = min k n
  rw [if_neg (by omega), Int.toNat_natCast]
end
end HT
namespace L2
open PySem PySem.Spec PyProof.Rows
abbrev TO := St → Hp → (Option Int → Hp → Prop) → Prop
def PO (X : Cx) (e : Option Expr) (t : TO) : Prop :=
  ∀ (pins : List (Addr × Obj)) (s : Shared) (σ : St) (H : Hp) (Q : Option Int → Hp → Prop), Inv X pins σ H s → t σ H Q →
    wpAny (model X.prog X.w) X.A (evalPart e X.env) (fun u s' => ∃ o H', Inv X pins σ H' s' ∧ IsPart u o ∧ Q o H') X.xe s
def tNoPart : TO := fun _ H Q => Q none H
def tPart (t : TE) : TO := fun σ H Q => t σ H fun x H1 => ∃ i, x = .int i ∧ Q (some i) H1
theorem intsAre_of {ns : List Int} : ∀ {us : List Value}, Vals (ns.map V.int) us → IntsAre us ns := by
  induction ns with
  | nil => intro us r; rw [List.map_nil] at r; cases r; exact .nil
  | cons n ns ih =>
    intro us r
    rw [List.map_cons] at r
    cases r with
    | cons r1 r2 =>
      obtain ⟨t, e⟩ := r1
      subst e
      exact .cons n t (ih r2)
section
variable {X : Cx} {e : Expr} {te : TE} {lo hi : Option Expr} {tl th : TO} {pos p2 : Pos}
theorem po_none : PO X none tNoPart := by
  intro pins s σ H Q I h
  rw [evalPart_none]
  exact wpAny_pure ⟨none, H, I, .none, h⟩
theorem po_some (h : PE X e te) : PO X (some e) (tPart te) := by
  intro pins s σ H Q I hw
  rw [evalPart_some]
  refine thn (h pins s σ H _ I hw) fun u s1 ⟨x, H1, I1, r1, q1⟩ => ?_
  obtain ⟨i, rfl, q⟩ := q1
  obtain ⟨t, rfl⟩ := r1
  exact ⟨some i, H1, I1, .int i t, q⟩
def SlR (X : Cx) (r : V → Option Int → Option Int → Hp → VK → Prop) : Prop :=
  ∀ (pins : List (Addr × Obj)) (s : Shared) (σ : St) (H : Hp) (x : V) (v vl vu : Value) (lo hi : Option Int) (sl : Addr) (Q : VK), Inv X pins σ H s → RelV x v → s.heap.IsSliceOf sl vl vu .none → IsPart vl lo → IsPart vu hi → r x lo hi H Q →
    ∃ T id, typeLookup (.type T) "__getitem__" = pure (some (.builtin id)) ∧ s.TypeIs v T ∧ wpAny (model X.prog X.w) X.A (getItem v (.ref sl)) (EP X pins σ Q) X.xe s
def tSl (r : V → Option Int → Option Int → Hp → VK → Prop) (te : TE) (tl th : TO) : TE := fun σ H Q => te σ H fun x H1 => tl σ H1 fun l H2 => th σ H2 fun u H3 => r x l u H3 Q
theorem pe_slice {r : V → Option Int → Option Int → Hp → VK → Prop} (hr : SlR X r) (he : PE X e te) (hl : PO X lo tl) (hu : PO X hi th) : PE X (.Subscript e (.Slice lo hi none p2) pos) (tSl r te tl th) := by
  intro pins s σ H Q I h
  refine Subscript_ (thn (he pins s σ H _ I h) fun v s1 ⟨x, H1, I1, r1, q1⟩ => ?_)
  refine wpAny_Slice (thn (hl pins s1 σ H1 _ I1 q1) fun vl s2 ⟨l, H2, I2, pl, q2⟩ => thn (hu pins s2 σ H2 _ I2 q2) fun vu s3 ⟨u, H3, I3, pu, q3⟩ => ?_)
  rw [evalPart_none]
  refine wpAny_pure ?_
  have I4 : Inv X pins σ H3 { s3 with heap := s3.heap.push { cls := .type "slice", data := .fields #[vl, vu, .none] } } := I3.kept (t' := s3.toks) fun b ob q => Heap.get?_push_of_some _ q
  obtain ⟨T, id, hT, ht, hg⟩ := hr pins { s3 with heap := s3.heap.push { cls := .type "slice", data := .fields #[vl, vu, .none] } } σ H3 x v vl vu l u s3.heap.objs.size Q I4 r1 (Heap.IsSliceOf.new ..) pl pu q3
  show wpAny (model X.prog X.w) X.A (subscriptTail e (.Slice lo hi none p2) v (.ref s3.heap.objs.size)) (EP X pins σ Q) X.xe { s3 with heap := s3.heap.push { cls := .type "slice", data := .fields #[vl, vu, .none] } }
  exact tail_any (ops := [.ref s3.heap.objs.size, v]) ht hT hg (by with_unfolding_all rfl)
def cutV (xs : List V) (lo hi : Option Int) : List V := (xs.drop (HT.sIx xs.length 0 lo)).take (HT.sIx xs.length xs.length hi - HT.sIx xs.length 0 lo)
theorem cutV_length (xs : List V) (lo hi : Option Int) : (cutV xs lo hi).length ≤ xs.length := by
  unfold cutV
  rw [List.length_take, List.length_drop]
  omega
end
end L2
namespace L2
open PySem PySem.Spec PyProof.Rows
def ixN (n : Nat) (i : Int) : Option Nat := if 0 ≤ i then (if i < n then some i.toNat else none) else if -(n : Int) ≤ i then some (i + n).toNat else none
def atI {α : Type} (xs : List α) (i : Int) : Option α := (ixN xs.length i).bind fun j => xs[j]?
theorem ixN_seq {n : Nat} {i : Int} {j : Nat} (h : ixN n i = some j) : seqIndex? i n = some j ∧ j < n ∧ -(n : Int) ≤ i ∧ i < n := by
  unfold ixN at h
  by_cases h0 : 0 ≤ i
  · rw [if_pos h0] at h
    by_cases h1 : i < n
    · rw [if_pos h1] at h
      have e : i.toNat = j := Option.some.inj h
      exact ⟨by rw [seqIndex_of h0 h1, e], by omega, by omega, h1⟩
    · rw [if_neg h1] at h; cases h
  · rw [if_neg h0] at h
    by_cases h1 : -(n : Int) ≤ i
    · rw [if_pos h1] at h
      have e : (i + n).toNat = j := Option.some.inj h
      exact ⟨by rw [seqIndex_neg (by omega) h1, e], by omega, h1, by omega⟩
    · rw [if_neg h1] at h; cases h
theorem atI_get {α : Type} {xs : List α} {i : Int} {v : α} (h : atI xs i = some v) : ∃ j, seqIndex? i xs.length = some j ∧ xs[j]? = some v ∧ j < xs.length ∧ -(xs.length : Int) ≤ i ∧ i < xs.length := by
  unfold atI at h
  cases e : ixN xs.length i with
  | none => rw [e] at h; cases h
  | some j =>
    rw [e] at h
    obtain ⟨h1, h2, h3, h4⟩ := ixN_seq e
    exact ⟨j, h1, h, h2, h3, h4⟩
theorem atI_nat {α : Type} {xs : List α} {j : Nat} {v : α} (h : xs[j]? = some v) : atI xs (j : Int) = some v := by
  have hj : j < xs.length := (List.getElem?_eq_some_iff.mp h).1
  have e : ixN xs.length (j : Int) = some j := by
    unfold ixN
    rw [if_pos (by omega), if_pos (by omega)]; simp
  unfold atI; rw [e]; exact h
def PlainIx (b : Expr) : Prop := ∀ o i, subscripted b false o i = operate [o, i] (getItem o i)
def IxR (X : Cx) (r : R2) : Prop :=
  ∀ (value slice : Expr) (pins : List (Addr × Obj)) (s : Shared) (σ : St) (H : Hp) (x y : V) (v u : Value) (Q : VK), Inv X pins σ H s → RelV x v → RelV y u → r x y H Q →
    subscripted slice false v u = operate [v, u] (getItem v u) → wpAny (model X.prog X.w) X.A (subscriptTail value slice v u) (EP X pins σ Q) X.xe s
def MtR (X : Cx) (id : String) (r : V → List V → Hp → VK → Prop) : Prop :=
  ∀ (pins : List (Addr × Obj)) (s : Shared) (σ : St) (H : Hp) (x : V) (xs : List V) (v : Value) (us : List Value) (Q : VK), Inv X pins σ H s → RelV x v → Vals xs us → r x xs H Q →
    wpAny (model X.prog X.w) X.A (call (.builtin id) (v :: us)) (EP X pins σ Q) X.xe s
section
variable {X : Cx} {a b : Expr} {ta tb : TE} {pos : Pos}
theorem pe_ix {r : R2} (hr : IxR X r) (ha : PE X a ta) (hb : PE X b tb) (hs : PlainIx b) : PE X (.Subscript a b pos) (tOp r ta tb) := by
  intro pins s σ H Q I h
  exact Subscript_ (binT ha hb I h fun v u s2 x y H2 I2 rx ry q => hr a b pins s2 σ H2 x y v u Q I2 rx ry q (hs _ _))
def rIxL (K : PySem.W.Frag) : R2 := fun x y H Q => ∃ p xs i v, x = .ref p ∧ y = .int i ∧ SqL K H p xs ∧ atI xs i = some v ∧ Q v H
def rIxT (K : PySem.W.Frag) : R2 := fun x y H Q => ∃ p xs i v, x = .ref p ∧ y = .int i ∧ SqT K H p xs ∧ atI xs i = some v ∧ Q v H
theorem ix_list : IxR X (rIxL X.K) := by
  intro value slice pins s σ H x y v u Q I rx ry h hs
  obtain ⟨p, xs, i, z, rfl, rfl, hq, he, q⟩ := h
  cases rx
  obtain ⟨t, rfl⟩ := ry
  obtain ⟨its, r, pl, hz⟩ := I.list hq
  obtain ⟨j, h1, h2, h3, h4, h5⟩ := atI_get he
  obtain ⟨w, ew, rw'⟩ := r.get h2
  have hl := r.length
  have hn := line63
  have fin : EP X pins σ Q w s := ⟨z, H, I, rw', q⟩
  by_cases h0 : 0 ≤ i
  · have hj : i.toNat = j := by
      rw [seqIndex_of h0 h5] at h1
      exact Option.some.inj h1
    exact item_listR pl.isList h0 (by omega) (by rw [hj]; simpa using ew) fin hs
  · have hj : (i + (its.toArray.size : Int)).toNat = j := by
      rw [seqIndex_neg (by omega) h4] at h1
      rw [List.size_toArray, ← hl]
      exact Option.some.inj h1
    exact subscriptTail_builtinR (x := w) pl.isList.typeIs slot_list_getitem.lookup
      (wpAny_getItem_list_neg (Q := fun r s' => r = w ∧ EP X pins σ Q r s') pl.isList (by omega) (by rw [List.size_toArray] <;> omega) (by omega) (by rw [hj]; simpa using ew) ⟨rfl, fin⟩) hs
theorem ix_tup : IxR X (rIxT X.K) := by
  intro value slice pins s σ H x y v u Q I rx ry h hs
  obtain ⟨p, xs, i, z, rfl, rfl, hq, he, q⟩ := h
  cases rx
  obtain ⟨t, rfl⟩ := ry
  obtain ⟨its, r, pl, hz⟩ := I.tuple hq
  obtain ⟨j, h1, h2, h3, h4, h5⟩ := atI_get he
  obtain ⟨w, ew, rw'⟩ := r.get h2
  have hl := r.length
  have hn := line63
  have fin : EP X pins σ Q w s := ⟨z, H, I, rw', q⟩
  exact subscriptTail_builtinR (x := w) pl.typeIs slot_tuple_getitem.lookup
    (getItem_tuple (j := j) (Q := fun r s' => r = w ∧ EP X pins σ Q r s') pl (by omega) (by omega) (by rw [List.size_toArray, ← hl]; exact h1) (by simpa using ew) ⟨rfl, fin⟩) hs
theorem mapSeq_set (its : List Value) (n j : Nat) (u : Value) : Obj.mapSeq (·.setIfInBounds j u) { cls := .type "list", data := .seq its.toArray n } = { cls := .type "list", data := .seq (its.set j u).toArray n } := by
  simp [Obj.mapSeq]
theorem Inv.lst {pins : List (Addr × Obj)} {σ : St} {H : Hp} {s : Shared} {p : Addr} {xs : List V} (I : Inv X pins σ H s) (h : H p = some (.lst xs)) :
    ∃ (its : List Value) (n : Nat), Vals xs its ∧ s.heap.get? p = some { cls := .type "list", data := .seq its.toArray n } ∧ xs.length ≤ sizeLine := by
  obtain ⟨z, its, n, r, e⟩ := I.hok p _ h
  exact ⟨its, n, r, e, z⟩
theorem Inv.lstUpd {pins : List (Addr × Obj)} {σ : St} {H : Hp} {s : Shared} {p : Addr} {xs ys : List V} {its its' : List Value} {n n' : Nat} {f : Obj → Obj} (I : Inv X pins σ H s) (h : H p = some (.lst xs))
    (ho : s.heap.get? p = some { cls := .type "list", data := .seq its.toArray n }) (hf : f { cls := .type "list", data := .seq its.toArray n } = { cls := .type "list", data := .seq its'.toArray n' }) (r : Vals ys its') (hz : ys.length ≤ sizeLine) (t : Nat) :
    Inv X pins σ (upd H p (.lst ys)) { s with heap := s.heap.update p f, toks := t } := by
  have e : (s.heap.update p f).get? p = some { cls := .type "list", data := .seq its'.toArray n' } := by
    rw [Heap.get?_update_self f ho (by rw [hf] <;> rfl), hf]
  refine I.write (x := p) (e := p) (by rw [h]; trivial) (.inl rfl) (fun b u hb q => (Heap.get?_update_other _ _ (Ne.symm hb)).trans q) ⟨_, e⟩ ?_
  exact ⟨hz, its', n', r, e⟩
def rSetL : V → V → V → Hp → (Hp → Prop) → Prop := fun o i v H Q => ∃ p xs k j, o = .ref p ∧ i = .int k ∧ H p = some (.lst xs) ∧ ixN xs.length k = some j ∧ Q (upd H p (.lst (xs.set j v)))
theorem set_list : PSet X rSetL := by
  intro pins s σ H o i v ov iv u Q I ro ri rv h
  obtain ⟨p, xs, k, j, rfl, rfl, hp, hj, q⟩ := h
  cases ro
  obtain ⟨t, rfl⟩ := ri
  obtain ⟨its, n, r, ho, hz⟩ := I.lst hp
  obtain ⟨h1, h2, h3, h4⟩ := ixN_seq hj
  have hl := r.length
  have hn := line63
  have I' : Inv X pins σ (upd H p (.lst (xs.set j v))) { s with heap := s.heap.update p (Obj.mapSeq (·.setIfInBounds j u)) } :=
    I.lstUpd hp ho (mapSeq_set its n j u) (r.set rv j) (by rw [List.length_set]; exact hz) s.toks
  by_cases h0 : 0 ≤ k
  · have hk : k.toNat = j := by
      rw [seqIndex_of h0 h4] at h1
      exact Option.some.inj h1
    exact PySem.W.ki_setAt ho h0 (by omega) (by rw [List.size_toArray, ← hl]; exact h4) (by rw [hk]; exact ⟨_, I', q⟩)
  · have hk : (k + (its.toArray.size : Int)).toNat = j := by
      rw [seqIndex_neg (by omega) h3] at h1
      rw [List.size_toArray, ← hl]
      exact Option.some.inj h1
    exact PySem.W.ki_setBack ho (by omega) (by rw [List.size_toArray, ← hl]; exact h3) (by omega) (by rw [hk]; exact ⟨_, I', q⟩)
theorem slice_bounds (lo hi : Option Int) (n : Nat) : (sliceBounds lo hi none n).1 = ((HT.sIx n 0 lo : Nat) : Int) ∧ (sliceBounds lo hi none n).2.1 = ((HT.sIx n n hi : Nat) : Int) ∧ (sliceBounds lo hi none n).2.2 = 1 := by
  refine ⟨?_, ?_, rfl⟩
  · cases lo with
    | none => simp [sliceBounds, HT.sIx]
    | some i =>
      simp only [sliceBounds, HT.sIx, Option.getD_none, show (1 : Int) > 0 by decide, if_true]
      by_cases h : i < 0
      · simp only [h, if_true] <;> omega
      · simp only [h, if_false] <;> omega
  · cases hi with
    | none => simp [sliceBounds, HT.sIx]
    | some i =>
      simp only [sliceBounds, HT.sIx, Option.getD_none, show (1 : Int) > 0 by decide, if_true]
      by_cases h : i < 0
      · simp only [h, if_true] <;> omega
      · simp only [h, if_false] <;> omega
theorem slicePick_cut (its : List Value) (lo hi : Option Int) : slicePick its.toArray lo hi none = ((its.drop (HT.sIx its.length 0 lo)).take (HT.sIx its.length its.length hi - HT.sIx its.length 0 lo)).toArray := by
  obtain ⟨h1, h2, h3⟩ := slice_bounds lo hi its.toArray.size
  unfold slicePick
  rw [h1, h2, h3]
  simp only [sliceRange_one, pick_run, List.size_toArray] <;> rfl
def rSlL (K : PySem.W.Frag) : V → Option Int → Option Int → Hp → VK → Prop := fun x lo hi H Q => ∃ a xs, x = .ref a ∧ SqL K H a xs ∧ ∀ p, H p = none → Q (.ref p) (upd H p (.lst (cutV xs lo hi)))
theorem sl_list : SlR X (rSlL X.K) := by
  intro pins s σ H x v vl vu lo hi sl Q I rx hs pl pu h
  obtain ⟨a, xs, rfl, hx, q⟩ := h
  cases rx
  obtain ⟨its, r, ht, hz⟩ := I.list hx
  have hlen := r.length
  refine ⟨"list", _, slot_list_getitem.lookup, ht.isList.typeIs, ?_⟩
  refine wpAny_getItem_list_slice ht.isList hs pl pu .none (by simp) ?_ (by rw [List.size_toArray] <;> omega)
  rw [slicePick_cut, ← hlen]
  refine ⟨.ref s.heap.objs.size, _, I.laid (t' := s.toks) (o := .lst (cutV xs lo hi)) (fun b ob q => Heap.get?_push_of_some _ q) (Nat.le_refl _) ?_, rfl, q _ (I.hok.fresh (Nat.le_refl _))⟩
  exact ⟨Nat.le_trans (cutV_length xs lo hi) hz, _, 0, (r.drop (HT.sIx xs.length 0 lo)).take (HT.sIx xs.length xs.length hi - HT.sIx xs.length 0 lo), Heap.get?_push_size _ rfl⟩
def flatV : V → Bool
  | .non => true
  | .bl _ => true
  | .int _ => true
  | .str _ => true
  | _ => false
def eqV : V → V → Bool
  | .non, .non => true
  | .bl a, .bl b => a == b
  | .bl a, .int b => (if a then 1 else 0) == b
  | .int a, .bl b => a == (if b then 1 else 0)
  | .int a, .int b => a == b
  | .str a, .str b => a == b
  | _, _ => false
theorem eqAt_V {A : Around} {s : Shared} {y x : V} {u v : Value} (ry : RelV y u) (rx : RelV x v) (fy : flatV y = true) (fx : flatV x = true) : SeqAt.EqAt A s u v (eqV y x) := by
  cases y with
  | non =>
    cases ry
    cases x with
    | non => cases rx; exact SeqAt.EqAt.same _
    | bl b => cases rx; exact SeqAt.EqAt.none_bool b
    | int b => obtain ⟨t, rfl⟩ := rx; exact SeqAt.EqAt.none_int b t
    | str b => obtain ⟨t, rfl⟩ := rx; exact SeqAt.EqAt.none_str b t
    | _ => exact absurd (show false = true from fx) Bool.false_ne_true
  | bl a =>
    cases ry
    cases x with
    | non => cases rx; exact SeqAt.EqAt.bool_none a
    | bl b => cases rx; exact SeqAt.EqAt.bool_bool a b
    | int b => obtain ⟨t, rfl⟩ := rx; exact SeqAt.EqAt.bool_int a b t
    | str b => obtain ⟨t, rfl⟩ := rx; exact SeqAt.EqAt.bool_str a b t
    | _ => exact absurd (show false = true from fx) Bool.false_ne_true
  | int a =>
    obtain ⟨t', rfl⟩ := ry
    cases x with
    | non => cases rx; exact SeqAt.EqAt.int_none a t'
    | bl b => cases rx; exact SeqAt.EqAt.int_bool a t' b
    | int b => obtain ⟨t, rfl⟩ := rx; exact SeqAt.EqAt.int_int a t' b t
    | str b => obtain ⟨t, rfl⟩ := rx; exact SeqAt.EqAt.int_str a t' b t
    | _ => exact absurd (show false = true from fx) Bool.false_ne_true
  | str a =>
    obtain ⟨t', rfl⟩ := ry
    cases x with
    | non => cases rx; exact SeqAt.EqAt.str_none a t'
    | bl b => cases rx; exact SeqAt.EqAt.str_bool a t' b
    | int b => obtain ⟨t, rfl⟩ := rx; exact SeqAt.EqAt.str_int a t' b t
    | str b => obtain ⟨t, rfl⟩ := rx; exact SeqAt.EqAt.str_str a t' b t
    | _ => exact absurd (show false = true from fx) Bool.false_ne_true
  | _ => exact absurd (show false = true from fy) Bool.false_ne_true
def eqU (x : V) (u : Value) : Bool := match u with
  | .none => eqV .non x
  | .bool b => eqV (.bl b) x
  | .int i _ => eqV (.int i) x
  | .str z _ => eqV (.str z) x
  | _ => false
theorem eqU_of {x y : V} {u : Value} (r : RelV y u) (f : flatV y = true) : eqU x u = eqV y x := by
  cases y with
  | non => cases r; rfl
  | bl b => cases r; rfl
  | int i => obtain ⟨t, rfl⟩ := r; rfl
  | str z => obtain ⟨t, rfl⟩ := r; rfl
  | _ => exact absurd (show false = true from f) Bool.false_ne_true
theorem any_eqU {x : V} : ∀ {xs : List V} {us : List Value}, Vals xs us → xs.all flatV = true → us.any (eqU x) = xs.any fun y => eqV y x
  | _, _, .nil, _ => rfl
  | y :: xs, u :: us, .cons r t, f => by
    rw [List.all_cons, Bool.and_eq_true] at f
    rw [List.any_cons, List.any_cons, eqU_of r f.1, any_eqU t f.2]
theorem mem_eqAt {A : Around} {s : Shared} {x : V} {v : Value} (rx : RelV x v) (fx : flatV x = true) : ∀ {xs : List V} {us : List Value}, Vals xs us → xs.all flatV = true → ∀ u ∈ us, SeqAt.EqAt A s u v (eqU x u)
  | _, _, .nil, _ => fun u hu => by cases hu
  | y :: xs, u :: us, .cons r t, f => fun u' hu => by
    rw [List.all_cons, Bool.and_eq_true] at f
    rcases List.mem_cons.mp hu with rfl | hu
    · rw [eqU_of r f.1]; exact eqAt_V r rx f.1 fx
    · exact mem_eqAt rx fx t f.2 u' hu
def inV (x : V) (xs : List V) : Bool := xs.any fun y => eqV y x
def rIn (K : PySem.W.Frag) (neg : Bool) : R2 := fun x y H Q => ∃ p xs, y = .ref p ∧ (SqL K H p xs ∨ SqT K H p xs) ∧ flatV x = true ∧ xs.all flatV = true ∧ Q (.bl (if neg then !inV x xs else inV x xs)) H
theorem op_in_seq : OpR X (compareOp .In) (rIn X.K false) := by
  intro pins s σ H x y v u Q I rx ry h
  obtain ⟨p, xs, rfl, hq, fx, fs, q⟩ := h
  cases ry
  rcases hq with hq | hq
  · obtain ⟨its, r, pl, hz⟩ := I.list hq
    refine SeqAt.in_listAt (eqU x) pl.isList (fun w hw => mem_eqAt rx fx r fs w (by simpa using hw)) ⟨.bl _, H, I, rfl, ?_⟩
    rw [show its.toArray.any (eqU x) = its.any (eqU x) by simp, any_eqU r fs]
    exact q
  · obtain ⟨its, r, pl, hz⟩ := I.tuple hq
    refine SeqAt.in_tupleAt (eqU x) pl (fun w hw => mem_eqAt rx fx r fs w (by simpa using hw)) ⟨.bl _, H, I, rfl, ?_⟩
    rw [show its.toArray.any (eqU x) = its.any (eqU x) by simp, any_eqU r fs]
    exact q
theorem op_notIn_seq : OpR X (compareOp .NotIn) (rIn X.K true) := by
  intro pins s σ H x y v u Q I rx ry h
  obtain ⟨p, xs, rfl, hq, fx, fs, q⟩ := h
  cases ry
  rcases hq with hq | hq
  · obtain ⟨its, r, pl, hz⟩ := I.list hq
    refine SeqAt.notIn_listAt (eqU x) pl.isList (fun w hw => mem_eqAt rx fx r fs w (by simpa using hw)) ⟨.bl _, H, I, rfl, ?_⟩
    rw [show its.toArray.any (eqU x) = its.any (eqU x) by simp, any_eqU r fs]
    exact q
  · obtain ⟨its, r, pl, hz⟩ := I.tuple hq
    refine SeqAt.notIn_tupleAt (eqU x) pl (fun w hw => mem_eqAt rx fx r fs w (by simpa using hw)) ⟨.bl _, H, I, rfl, ?_⟩
    rw [show its.toArray.any (eqU x) = its.any (eqU x) by simp, any_eqU r fs]
    exact q
theorem call_len_seq : CallR X (.builtin "len") (fun xs H Q => ∃ p ys, xs = [.ref p] ∧ (SqL X.K H p ys ∨ SqT X.K H p ys) ∧ Q (.int ys.length) H) := by
  intro pins s σ H xs us Q I r h
  obtain ⟨p, ys, rfl, hq, q⟩ := h
  obtain ⟨u, rfl, rx⟩ := vals1 r
  cases rx
  have hn := line63
  rcases hq with hq | hq
  · obtain ⟨its, r', pl, hz⟩ := I.list hq
    have hlen := r'.length
    exact Calls.call_len_list pl.isList (by simp only [List.size_toArray] <;> omega) ⟨.int ys.length, H, I.tok _, ⟨s.toks + 1, by rw [List.size_toArray, hlen]⟩, q⟩
  · obtain ⟨its, r', pl, hz⟩ := I.tuple hq
    have hlen := r'.length
    exact len_tuple pl (by simp only [List.size_toArray] <;> omega) ⟨.int ys.length, H, I.tok _, ⟨s.toks + 1, by rw [List.size_toArray, hlen]⟩, q⟩
theorem call_list_of : CallR X (.type "list") (fun xs H Q => ∃ p ys, xs = [.ref p] ∧ (SqL X.K H p ys ∨ SqT X.K H p ys) ∧ ∀ l, H l = none → Q (.ref l) (upd H l (.lst ys))) := by
  intro pins s σ H xs us Q I r h
  obtain ⟨p, ys, rfl, hq, q⟩ := h
  obtain ⟨u, rfl, rx⟩ := vals1 r
  cases rx
  have fin : ∀ (its : List Value), Vals ys its → ys.length ≤ sizeLine → ∀ (h' : Heap) (c' : Nat), (∀ b o', s.heap.get? b = some o' → h'.get? b = some o') →
      h'.get? s.heap.objs.size = some { cls := .type "list", dict := none, data := .seq its.toArray c', slots := #[] } → EP X pins σ Q (.ref s.heap.objs.size) { s with heap := h' } := fun its r' hz h' c' kp e =>
    ⟨.ref s.heap.objs.size, _, I.laid (t' := s.toks) kp (Nat.le_refl _) (show ObjOk X.prog X.w _ h' _ (.lst ys) from ⟨hz, its, c', r', e⟩), rfl, q _ (I.hok.fresh (Nat.le_refl _))⟩
  rcases hq with hq | hq
  · obtain ⟨its, r', pl, hz⟩ := I.list hq
    have hlen := r'.length
    obtain ⟨o, ho, hc, n, hd⟩ := pl.isList
    exact call_list_seq p (.inl rfl) ho hc hd (fun h' c' kp e => fin its r' hz h' c' kp e) (by simp only [List.size_toArray] <;> omega)
  · obtain ⟨its, r', pl, hz⟩ := I.tuple hq
    have hlen := r'.length
    obtain ⟨o, ho, hc, n, hd⟩ := pl
    exact call_list_seq p (.inr rfl) ho hc hd (fun h' c' kp e => fin its r' hz h' c' kp e) (by simp only [List.size_toArray] <;> omega)
def tyV (K : PySem.W.Frag) (T : String) (x : V) (H : Hp) : Prop := match x with
  | .str _ => T = "str"
  | .int _ => T = "int"
  | .ref p => (T = "list" ∧ ∃ xs, SqL K H p xs) ∨ (T = "tuple" ∧ ∃ o, K.lookup p = some o ∧ o.cls = .type "tuple" ∧ o.dict = none) ∨
      (T = "dict" ∧ ((∃ kvs, H p = some (.dK kvs)) ∨ ∃ kvs, H p = some (.dT kvs))) ∨ (T = "set" ∧ ∃ S n, H p = some (.set S n))
  | _ => False
theorem tyV_is {pins : List (Addr × Obj)} {σ : St} {H : Hp} {s : Shared} {T : String} {x : V} {v : Value} (I : Inv X pins σ H s) (r : RelV x v) (ty : tyV X.K T x H) :
    s.TypeIs v T ∧ ∀ a, v = .ref a → ∃ ob, s.heap.get? a = some ob ∧ ob.dict = none := by
  cases x with
  | str z =>
    obtain ⟨t, rfl⟩ := r
    cases (show T = "str" from ty)
    exact ⟨typeIs_str s z t, fun _ e => nomatch e⟩
  | int i =>
    obtain ⟨t, rfl⟩ := r
    cases (show T = "int" from ty)
    exact ⟨typeIs_int s i t, fun _ e => nomatch e⟩
  | ref p =>
    cases r
    rcases ty with ⟨rfl, xs, hq⟩ | ⟨rfl, o, hk, hc, hd⟩ | ⟨rfl, hk⟩ | ⟨rfl, S, n, hk⟩
    · obtain ⟨its, _, pl, _⟩ := I.list hq
      refine ⟨pl.isList.typeIs, fun a e => ?_⟩
      cases e
      obtain ⟨o, n, e, c, hd, _⟩ := pl
      exact ⟨o, e, hd⟩
    · refine ⟨⟨o, I.kIn p o hk, hc⟩, fun a e => ?_⟩
      cases e
      exact ⟨o, I.kIn _ o hk, hd⟩
    · have z : ∃ o, s.heap.get? p = some o ∧ o.ExactDict := by
        rcases hk with ⟨kvs, hk⟩ | ⟨kvs, hk⟩
        · obtain ⟨_, _, _, _, o, _, _, e, ex, _⟩ := I.hok p _ hk
          exact ⟨o, e, ex⟩
        · obtain ⟨_, _, _, _, o, _, _, e, ex, _⟩ := I.hok p _ hk
          exact ⟨o, e, ex⟩
      obtain ⟨o, e, ex⟩ := z
      refine ⟨⟨o, e, ex.1⟩, fun a e2 => ?_⟩
      cases e2
      exact ⟨o, e, ex.2.1⟩
    · obtain ⟨o, _, _, _, e, ex, _⟩ := I.hok p _ hk
      refine ⟨⟨o, e, ex.1⟩, fun a e2 => ?_⟩
      cases e2
      exact ⟨o, e, ex.2.1⟩
  | _ => exact False.elim ty
def tBM0 (K : PySem.W.Frag) (T : String) (r : V → List V → Hp → VK → Prop) (to : TE) : TE := fun σ H Q => to σ H fun x H1 => tyV K T x H1 ∧ r x [] H1 Q
def tBM (K : PySem.W.Frag) (T : String) (r : V → List V → Hp → VK → Prop) (to : TE) (t : TA) : TE := fun σ H Q => to σ H fun x H1 => tyV K T x H1 ∧ t σ H1 fun xs H2 => r x xs H2 Q
variable {o e : Expr} {es : List Expr} {to : TE} {t : TA} {name : Str} {apos cpos : Pos} {T id : String} {r : V → List V → Hp → VK → Prop}
theorem pe_bm (pa : PlainAttrs T) (slot : Slot T name id) (hty : typeOf (.builtin id) = pure (.type "method_descriptor")) (hm : MtR X id r) (ho : PE X o to) (ha : PA X (e :: es) t)
    (hbase : attributeBase o name X.env (eval o X.env) = eval o X.env := by rfl)
    (hfew : ((backTo cpos (starEach (e :: es) X.env)).all (fun x => !x.1) && (backToKw cpos (keywordEach [] X.env)).all (fun x => x.1.isSome)
      && decide ((e :: es).length + ([] : List Keyword).length + (if ([] : List Keyword).isEmpty then 0 else 1) < 30)) = true := by rfl)
    (hline : (apos.endLine == cpos.line) = true := by rfl) (hs : starEach (e :: es) X.env = (false, eval e X.env) :: starEach es X.env := by rfl) (hplain : (backTo cpos (starEach es X.env)).any (·.1) = false := by rfl) :
    PE X (.Call (.Attribute o name apos) (e :: es) [] cpos) (tBM X.K T r to t) := by
  intro pins s σ H Q I h
  refine wpAny_Call_method_late hbase hfew hline rfl (thn (ho pins s σ H _ I h) fun v s1 ⟨x, H1, I1, r1, ty, q1⟩ => ?_)
  obtain ⟨h1, h2⟩ := tyV_is I1 r1 ty
  refine ⟨T, id, pa, slot, hty, h1, h2, ?_⟩
  have hA := ha cpos pins s1 σ H1 _ I1 q1
  rw [hs] at hA ⊢
  refine Calls.callWith_builtin (by show (false || (backTo cpos (starEach es X.env)).any (·.1)) = false; rw [hplain] <;> rfl) (Calls.evalArgs_plain ?_)
  exact thn hA fun us s2 ⟨vs, H2, I2, r2, q2⟩ => hm pins s2 σ H2 x vs v us Q I2 r1 r2 q2
end
end L2
namespace L2
open PySem PySem.Spec PyProof.Rows
def MtM (X : Cx) (id : String) (r : V → List V → Hp → VK → Prop) : Prop :=
  ∀ (pins : List (Addr × Obj)) (s : Shared) (σ : St) (H : Hp) (x : V) (xs : List V) (v : Value) (us : List Value) (Q : VK), Inv X pins σ H s → RelV x v → Vals xs us → r x xs H Q →
    wpAny (model X.prog X.w) X.A (call (.builtin id) (v :: us)) (EP X pins σ Q) X.xe s
theorem Vals.one : ∀ {x : V} {us : List Value}, Vals [x] us → ∃ u, us = [u] ∧ RelV x u
  | _, _, .cons r .nil => ⟨_, rfl, r⟩
theorem Vals.rep {xs : List V} {us : List Value} (h : Vals xs us) : ∀ k : Nat, Vals (List.replicate k xs).flatten (List.replicate k us).flatten
  | 0 => .nil
  | k + 1 => by
    rw [List.replicate_succ, List.replicate_succ, List.flatten_cons, List.flatten_cons]
    exact Vals.append h (Vals.rep h k)
theorem foldl_rep (its : List Value) : ∀ (k : Nat) (acc : List Value),
    List.foldl (fun x1 x2 => x1 ++ x2) acc.toArray (List.replicate k its.toArray) = (acc ++ (List.replicate k its).flatten).toArray
  | 0, acc => by simp
  | k + 1, acc => by
    have e : acc.toArray ++ its.toArray = (acc ++ its).toArray := by simp
    have e2 : (acc ++ its) ++ (List.replicate k its).flatten = acc ++ (List.replicate (k + 1) its).flatten := by
      rw [List.replicate_succ, List.flatten_cons, List.append_assoc]
    rw [← e2, ← foldl_rep its k (acc ++ its), ← e, List.replicate_succ, List.foldl_cons]
section
variable {X : Cx} {pins : List (Addr × Obj)} {σ : St} {H : Hp} {s : Shared} {l b : Addr} {xs ys zs : List V}
theorem Inv.lset {its its' : List Value} {n : Nat} {f : Array Value → Array Value} {t' : Nat} (I : Inv X pins σ H s) (hH : H l = some (.lst xs))
    (e : s.heap.get? l = some { cls := .type "list", data := .seq its.toArray n }) (hf : f its.toArray = its'.toArray) (hv : Vals ys its') (hz : ys.length ≤ sizeLine) :
    Inv X pins σ (upd H l (.lst ys)) { s with heap := s.heap.update l (Obj.mapSeq f), toks := t' } := by
  have q := PySem.IsL.update e f
  rw [hf] at q
  refine I.write (x := l) (e := l) (by rw [hH]; exact trivial) (.inl rfl) (fun b' u hb hu => (Heap.get?_update_other s.heap (Obj.mapSeq f) (Ne.symm hb)).trans hu) ⟨_, q⟩ ?_
  exact ⟨hz, its', _, hv, q⟩
theorem Inv.lnew {its : List Value} {t' : Nat} (I : Inv X pins σ H s) (hv : Vals ys its) (hz : ys.length ≤ sizeLine) :
    Inv X pins σ (upd H s.heap.objs.size (.lst ys)) { s with heap := s.heap.push { cls := .type "list", data := .seq its.toArray }, toks := t' } :=
  I.laid (fun _ _ q => Heap.get?_push_of_some _ q) (Nat.le_refl _) ⟨hz, its, 0, hv, Heap.get?_push_size _ rfl⟩
theorem Inv.fresh (I : Inv X pins σ H s) : H s.heap.objs.size = none := I.hok.fresh (Nat.le_refl _)
theorem Inv.lstM (I : Inv X pins σ H s) (hH : H l = some (.lst xs)) : xs.length ≤ sizeLine ∧ ∃ (its : List Value) (n : Nat), Vals xs its ∧ xs.length = its.length ∧ s.heap.get? l = some { cls := .type "list", data := .seq its.toArray n } := by
  obtain ⟨z, its, n, r, e⟩ := I.hok l _ hH
  exact ⟨z, its, n, r, r.length, e⟩
theorem notLongL {n : Nat} (h : n ≤ sizeLine) : Builtin.List.listTooLong n = false := by
  unfold Builtin.List.listTooLong
  exact decide_eq_false (by omega)
end
section
variable {X : Cx}
def rAppend : V → List V → Hp → VK → Prop := fun x vs H Q => ∃ l xs y, x = .ref l ∧ vs = [y] ∧ H l = some (.lst xs) ∧ xs.length < sizeLine ∧ Q .non (upd H l (.lst (xs ++ [y])))
theorem mt_append : MtM X "list.append" rAppend := by
  intro pins s σ H x vs v us Q I rx rv h
  obtain ⟨l, xs, y, rfl, rfl, hH, hz, q⟩ := h
  cases rx
  obtain ⟨u, rfl, ru⟩ := rv.one
  obtain ⟨z, its, n, r, hl, e⟩ := I.lstM hH
  refine call_meets F.slot_list_append ⟨_, e, rfl⟩ F.entry_list_append (F.args_list_append_2 _ _) (PySem.list_append l its.toArray n u (by rw [List.size_toArray]; omega)) ⟨e, ?_⟩
  refine ⟨.non, _, I.lset (its' := its ++ [u]) hH e (by simp) (r.append (.cons ru .nil)) ?_, rfl, q⟩
  rw [List.length_append, List.length_singleton]
  omega
def rExtend : V → List V → Hp → VK → Prop := fun x vs H Q => ∃ l b xs zs, x = .ref l ∧ vs = [.ref b] ∧ H l = some (.lst xs) ∧ H b = some (.lst zs) ∧ xs.length + zs.length ≤ sizeLine ∧ Q .non (upd H l (.lst (xs ++ zs)))
theorem mt_extend : MtM X "list.extend" rExtend := by
  intro pins s σ H x vs v us Q I rx rv h
  obtain ⟨l, b, xs, zs, rfl, rfl, hH, hB, hz, q⟩ := h
  cases rx
  obtain ⟨u, rfl, ru⟩ := rv.one
  cases ru
  obtain ⟨z, its, n, r, hl, e⟩ := I.lstM hH
  obtain ⟨z2, its2, n2, r2, hl2, e2⟩ := I.lstM hB
  have hsz : its.toArray.size + its2.toArray.size ≤ sizeLine := by rw [List.size_toArray, List.size_toArray]; omega
  have hlong : ¬ (!its.toArray.isEmpty && Builtin.List.listTooLong (its.toArray.size + its2.toArray.size)) = true := by
    rw [notLongL hsz, Bool.and_false]
    exact Bool.false_ne_true
  refine call_meets F.slot_list_extend ⟨_, e, rfl⟩ F.entry_list_extend (F.args_list_extend_2 _ _)
    (AutoSeq1.list_extend_list_list_0 l its.toArray n b its2.toArray n2 hlong (by rw [List.size_toArray]; omega) (by omega)) ⟨e, e2, ?_⟩
  refine ⟨.non, _, I.lset (its' := its ++ its2) hH e (by simp) (r.append r2) ?_, rfl, q⟩
  rw [List.length_append]
  omega
def rRep : R2 := fun x y H Q => ∃ l k xs, x = .ref l ∧ y = .int k ∧ H l = some (.lst xs) ∧ -(2 ^ 63) ≤ k ∧ k < 2 ^ 63 ∧ xs.length * k.toNat ≤ sizeLine ∧
  ∀ p, H p = none → Q (.ref p) (upd H p (.lst (List.replicate k.toNat xs).flatten))
theorem len_rep {α : Type} (xs : List α) (k : Nat) : (List.replicate k xs).flatten.length = k * xs.length := by
  induction k with
  | zero => simp
  | succ k ih => rw [List.replicate_succ, List.flatten_cons, List.length_append, ih, Nat.succ_mul, Nat.add_comm]
theorem op_rep : OpR X (binaryOp .Mult) rRep := by
  intro pins s σ H x y v u Q I rx ry h
  obtain ⟨l, k, xs, rfl, rfl, hH, h1, h2, hz, q⟩ := h
  cases rx
  obtain ⟨t, rfl⟩ := ry
  obtain ⟨z, its, n, r, hl, e⟩ := I.lstM hH
  have hlen : its.toArray.size * k.toNat ≤ sizeLine := by rw [List.size_toArray, ← hl]; exact hz
  have hcap : ¬ its.toArray.size * k.toNat > (2 ^ 63 - 1) / 8 := by
    have : (sizeLine : Nat) ≤ (2 ^ 63 - 1) / 8 := by decide
    omega
  have hfit : ¬ (!Builtin.List.listFitsIndex k) = true := by
    rw [fitsIndex_both h1 h2]
    exact Bool.false_ne_true
  have hlong : ¬ Builtin.List.listTooLong (its.toArray.size * k.toNat) = true := by
    rw [notLongL hlen]
    exact Bool.false_ne_true
  have hnew : List.foldl (fun x1 x2 => x1 ++ x2) #[] (List.replicate (if its.toArray.isEmpty = true then 0 else k.toNat) its.toArray) = (List.replicate k.toNat its).flatten.toArray := by
    have f0 : ∀ m : Nat, List.foldl (fun x1 x2 => x1 ++ x2) #[] (List.replicate m its.toArray) = (List.replicate m its).flatten.toArray := fun m => by
      have := foldl_rep its m []
      rw [List.nil_append] at this
      exact this
    rw [f0]
    cases its with
    | nil => simp
    | cons a r' => rw [if_neg (by simp)]
  refine wpAny_binaryOp_repeat_ref (T := "list") (U := "int") (by decide) ⟨_, e, rfl⟩ (fun s' => typeIs_int s' k t) noFill_list_mul F.fills_int_mul F.slot_int_rmul repeat_list F.slot_int_index.lookup
    (call_meets F.slot_int_rmul (typeIs_int s k t) F.entry_int_rmul (F.args_int_rmul_2 _ _) (int___rmul___int_list k t l its.toArray n)
      ⟨e, rfl, ⟨_, e, rfl⟩, call_meets F.slot_list_mul ⟨_, e, rfl⟩ F.entry_list_mul (F.args_list_mul_2 _ _) (AutoListH.list___mul___list_int_3 l its.toArray n k t hfit hcap hlong) ⟨e, ?_⟩⟩)
  rw [hnew]
  exact ⟨.ref _, _, I.lnew (t' := s.toks) (r.rep k.toNat) (by rw [len_rep, Nat.mul_comm]; exact hz), rfl, q _ I.fresh⟩
end
section
variable {prog : Program} {w : World} {A : Around} {E : Value → Shared → Prop} {s : Shared}
set_option maxRecDepth 100000 in
end
section
variable {X : Cx}
end
end L2
namespace Att
open PySem PySem.W PySem.Calls PyProof.Rows
theorem ints_of_wellAll {P : Params} {h : Heap} : ∀ (ns : List Int) (vs : List Value), WellAll P h vs (ns.map WData.int) → IntsAre vs ns := by
  intro ns
  induction ns with
  | nil =>
    intro vs w
    rw [List.map_nil] at w
    cases w
    exact .nil
  | cons n ns ih =>
    intro vs w
    rw [List.map_cons] at w
    cases w with
    | cons a b =>
      cases a
      exact .cons _ _ (ih _ b)
theorem script_of {l : OpenLaw} {n : Nat} (hn : l.most = some n) {P : Params} {h : Heap} {args : List WData} {vals : List Value}
    (hpre : l.row.toRowW.claim.pre args = true) (hwl : WellAll P h vals args) :
    ∃ a vs ns, vals = [Value.ref a] ∧ args = [WData.list (ns.map WData.int)] ∧ h.get? a = some { cls := .type "list", data := .seq vs.toArray } ∧ IntsAre vs ns ∧ ns.length ≤ n := by
  have hsh : WShape.hasAll [] args [.list .int] = true := (pre_splitW hpre).1
  have hc : l.pre.holds [] { args := args } = true := (pre_splitW hpre).2
  obtain ⟨d, r, rfl, h1, h2⟩ := hasAllW_cons hsh
  obtain rfl := hasAllW_nil h2
  obtain ⟨xs, rfl, h3⟩ := hasW_list h1
  obtain ⟨ns, rfl⟩ := items_int h3
  have hlen : ns.length ≤ n := by
    unfold OpenLaw.pre at hc
    have h4 : (WTm.not (.lt (.lit (.int (n : Int))) (.len (.arg 0)))).holds [] { args := [.list (ns.map .int)] } = true := by
      have h4 := (holds_andW hc).1
      rw [hn] at h4
      exact h4
    have h5 := condW_of h4 (w_not (w_lt w_lit (w_len_list (w_arg rfl))))
    rw [List.length_map] at h5
    refine Nat.le_of_not_lt fun q => ?_
    have q' : (n : Int) < ((ns.length : Nat) : Int) := by omega
    first
      | (rw [decide_eq_true q'] at h5; exact absurd h5 (by decide))
      | (simp at h5; omega)
  cases hwl with
  | cons w1 w2 =>
    cases w2
    cases w1 with
    | list ho hall => exact ⟨_, _, ns, rfl, rfl, ho, ints_of_wellAll ns _ hall, hlen⟩
theorem post_true (l : OpenLaw) (args : List WData) : l.row.toRowW.claim.post args (.bool true) args = true :=
  postW_of (r := l.row.toRowW) (X := (true == true))
    (show WShape.has [] (.bool true) .bool = true by first | rfl | decide | simp [WShape.has, WShape.arms, WShape.armsAll])
    (show (WTm.eq .res (.lit (.bool true))).value [] { args := args, res := some (.bool true), after := args } = some (.bool (true == true)) from w_eq_bool (w_res rfl) w_lit) rfl
theorem attach_call {l : OpenLaw} {n : Nat} {q : Program} {loose : List Str} {XP : (Str → Option Value) → Heap → Prop} {YP : World → Heap → Prop} {d : DefRec}
    (hn : l.most = some n) (hdf : d.params.defaults = [])
    (call : ∀ (w : World) (s₀ s₁ : Shared) (mg mb : Str → Option Value) (fa : Addr) (o : Obj) (pm cd doc : Value) (a : Addr) (vs : List Value) (ns : List Int),
      Ground q loose [] XP w s₀ mg mb s₁.heap → YP w s₁.heap →
      s₁.heap.get? fa = some o → o.data = .func (docDef d.name d.params d.body d.scope pm cd doc) → s₁.heap.CodeRec cd d.name → mg d.name = some (.ref fa) →
      s₁.heap.get? a = some { cls := .type "list", data := .seq vs.toArray } → IntsAre vs ns → ns.length ≤ n → s₁.gens = #[] →
      codeAny (model l.prog w) callerA (.call (.ref fa) ⟨[.ref a], []⟩) (fun r s' => r = .ok (.ret (.bool true)) ∧ OldK s₁.heap s'.heap ∧ s'.os = s₁.os ∧ AllBare s'.gens) s₁) :
    WalkO q loose XP YP l.row.toRowW d [] (fun f vs => PySem.call f vs) := by
  intro w s₀ s₁ mg mb G Y fa o pm cd doc dV kV ho hd hcd hD hmg hg args vals as hpre hlay hrd hwl hlo
  obtain rfl : dV = .none := Dflts.none hD hdf
  obtain rfl : kV = .none := Dflts.noKw hD
  obtain ⟨a, vs, ns, rfl, rfl, hobj, hints, hlen⟩ := script_of hn hpre hwl
  refine enter_call (codeAny_mono (call w s₀ s₁ mg mb fa o pm cd doc a vs ns G Y ho (fd_plain hd) hcd hmg hobj hints hlen hg) fun r s' hq => ?_)
  obtain ⟨rfl, h2, h3, h4⟩ := hq
  exact ⟨.inl ⟨.bool true, .bool true, [], rfl, fun _ => rfl, .bool true, post_true l _, fun _ => ⟨List.Pairwise.nil, fun _ hm => (nomatch hm)⟩⟩, h2, h3, h4⟩
section
variable {prog : Program} {w : World} {A : Around} {E : Value → Shared → Prop} {s : Shared} {K : Frag}
def noObjs (h : Heap) : Heap := { h with objs := #[] }
theorem noObjs_get (h : Heap) (b : Addr) : (noObjs h).get? b = none := by
  cases e : (noObjs h).get? b with
  | none => rfl
  | some o => exact absurd (Heap.lt_size e) (Nat.not_lt_zero _)
def ledger (h : Heap) (L d : Addr) : List (Addr × Obj) := (List.range h.objs.size).filterMap fun a => if a = L ∨ a = d then none else (h.get? a).map fun o => (a, o)
theorem mem_ledger {h : Heap} {L d a : Addr} {o : Obj} : (a, o) ∈ ledger h L d ↔ a ≠ L ∧ a ≠ d ∧ h.get? a = some o := by
  unfold ledger
  rw [List.mem_filterMap]
  constructor
  · rintro ⟨b, _, e⟩
    split at e
    · cases e
    · rename_i hb
      obtain ⟨o', ho, e'⟩ := Option.map_eq_some_iff.mp e
      cases e'
      exact ⟨fun q => hb (.inl q), fun q => hb (.inr q), ho⟩
  · rintro ⟨n1, n2, ho⟩
    refine ⟨a, List.mem_range.mpr (Heap.lt_size ho), ?_⟩
    rw [if_neg (show ¬ (a = L ∨ a = d) from fun q => q.elim n1 n2), ho] <;> rfl
theorem news_ledger {h : Heap} {L d : Addr} {od : Obj} (hne : d ≠ L) (ho : h.get? d = some od) : News (noObjs h) L h ([] ++ (d, od) :: ledger h L d) := by
  rintro ⟨a, o⟩ hp
  rcases List.mem_cons.mp hp with e | hp
  · cases e
    exact ⟨ho, hne, noObjs_get _ _⟩
  · obtain ⟨n1, n2, e⟩ := mem_ledger.mp hp
    exact ⟨e, n1, noObjs_get _ _⟩
theorem fr_all {h : Heap} {L : Addr} {m : Str → Option Value} (n : h.Ns L m) : Fr (noObjs h) L h m :=
  ⟨n, fun b o e => (by rw [noObjs_get] at e; cases e), Nat.zero_le _⟩
theorem set_field {x C dx L : Addr} {ox : Obj} {m : Str → Option Value} {es es' : List DictEntry} {n n' : Nat} {name : Str} {v : Value} {Q : Unit → Shared → Prop}
    (X : K.In s.heap) (I : PySem.W.InstAt s.heap x ox C (some (dictOf es n))) (hd : ox.dict = some dx) (hL : s.heap.Ns L m) (hne : dx ≠ L)
    (hs : findIn K (.ref C) "__setattr__" = some (some (.builtin "object.__setattr__"))) (hp : plainOver K C = true) (ht : takerIn K C name = some none) (hh : hasDictIn K C = true) (hl : (getL name es).isSome = true)
    (e : (putL name (PyData.keyHash w.params name) (.str name (s.toks + 1)) v es, putN name es n) = (es', n')) (hz : es'.length ≤ 1000)
    (h : ∀ h' : Heap, h'.Ns L m → h'.get? dx = some (dictOf es' n') → (∀ b o, b ≠ dx → b ≠ L → s.heap.get? b = some o → h'.get? b = some o) → Q () { s with heap := h', toks := s.toks + 2 }) :
    wpAny (model prog w) A (setAttr (.ref x) name v) Q E s := by
  obtain ⟨e1, e2⟩ := Prod.mk.inj e
  have hdx : s.heap.get? dx = some (dictOf es n) := by
    have := I.dict
    rw [hd] at this
    exact this
  refine set_plain X I hs (osa_dict (s := { s with toks := s.toks + 1 }) (h₀ := noObjs s.heap) (L := L) (m := m) (od := dictOf es n) (od' := dictOf es' n') (es := es') (n := n') (pre := []) (post := ledger s.heap L dx)
    (fr_all hL) (news_ledger hne hdx) X I hd hp ht hh hl (fun _ q => nomatch q) (fun ⟨_, _⟩ q => (mem_ledger.mp q).2.1) (by rw [putName_dict, e1, e2]) rfl hz fun h' F' N' => ?_)
  exact h h' F'.ns (N'.get (List.Mem.head _)) fun b o n1 n2 ho => N'.get (List.Mem.tail _ (mem_ledger.mpr ⟨n2, n1, ho⟩))
end
end Att
namespace L2
open PySem PySem.Spec PyProof.Rows
theorem vals_ints : ∀ {vs : List Value} {ns : List Int}, IntsAre vs ns → Vals (ns.map V.int) vs
  | _, _, .nil => .nil
  | _, _, .cons n t h => .cons ⟨t, rfl⟩ (vals_ints h)
end L2
namespace L2
open PySem PySem.Spec PyProof.Rows
end L2
namespace L2
open PySem PySem.Spec PyProof.Rows
def inClass (s : Stmt) (j : Nat) : Stmt := match s with
  | .ClassDef _ _ _ body _ _ _ _ _ _ _ => body.getD j (.Pass ⟨0, 0, 0, 0⟩)
  | _ => .Pass ⟨0, 0, 0, 0⟩
def defArgs (s : Stmt) : Arguments := match s with
  | .FunctionDef _ a _ _ _ _ _ _ _ _ => a
  | _ => { posonlyargs := [], args := [], vararg := none, kwonlyargs := [], kw_defaults := [], kwarg := none, defaults := [] }
def defBody (s : Stmt) : List Stmt := match s with
  | .FunctionDef _ _ b _ _ _ _ _ _ _ => b
  | _ => []
def defScope (s : Stmt) : Scope := match s with
  | .FunctionDef _ _ _ _ _ _ sc _ _ _ => sc
  | _ => { kind := .function, names := [], isGenerator := false, isCoroutine := false }
abbrev CX0 : CXT := fun _ _ _ _ _ _ => False
abbrev E0 : XK := fun _ _ _ => False
theorem pass0 {X : Cx} : Passes CX0 X E0 := fun _ _ _ _ _ _ _ h => h.elim
structure Fun (K : PySem.W.Frag) (x qual : Str) (st : Stmt) (f : Addr) (fd : FuncData) : Prop where
  ex : ∃ (oc : Value) (od : Option Addr) (kV doc pm : Value) (an : Option Addr) (cdv ct : Value) (osl : Array (Option Value)),
    fd = PySem.W.fnOf x qual (defArgs st) (defBody st) (defScope st) .none kV doc pm an cdv ct ∧ K.lookup f = some ⟨oc, od, .func fd, osl⟩ ∧ PySem.W.codeIn K cdv qual = true
  kp : PySem.W.keepIn K (.ref f) = true
section
variable {P : Program} {w : World} {K : PySem.W.Frag} {mg : Str → Option Value} {base : Heap}
theorem Fun.ok {x qual : Str} {st : Stmt} {f : Addr} {fd : FuncData} {N ps : List Str} {k : Nat} {sp : Sp} (F : Fun K x qual st f fd) (S : FnScope N ps (defScope st)) (len : ∀ vs H Q E, sp vs H Q E → vs.length = ps.length)
    (hbody : ∀ (cdv : Value) (A : Around) (outer : List Env) (s : Shared) (H : Hp) (vs : List V) (Q : VK) (E : XK), Room k (A.deeper (envOfC qual (defScope st) s.heap.objs.size f cdv)) → sp vs H Q E →
      ∃ t, PSs (cxOf CX0 P w K mg base N qual (defScope st) f cdv A outer s H E).nox (defBody st) t ∧ t { nx := fun _ H' => Q .non H', rt := Q } (start N vs) H) : FnOk P w K mg base CX0 (k + 1) f fd ps sp := by
  obtain ⟨oc, od, kV, doc, pm, an, cdv, ct, osl, rfl, lk, hcd⟩ := F.ex
  refine fn_of lk hcd S len fun A outer s H vs Q E hr hsp => ?_
  obtain ⟨t, h, q⟩ := hbody cdv A outer s H vs Q E hr hsp
  exact ⟨t, h.nox, q⟩
theorem Fun.binds {x qual : Str} {st : Stmt} {f : Addr} {fd : FuncData} {ps : List Str} (F : Fun K x qual st f fd)
    (h : ∀ (kV doc pm : Value) (an : Option Addr) (cdv ct : Value) (us : List Value), us.length = ps.length → bindArgs (PySem.W.fnOf x qual (defArgs st) (defBody st) (defScope st) .none kV doc pm an cdv ct) ⟨us, []⟩ = pure (ps.zip us)) : Binds K fd ps [] := by
  obtain ⟨oc, od, kV, doc, pm, an, cdv, ct, osl, rfl, lk, hcd⟩ := F.ex
  exact .all (h kV doc pm an cdv ct)
theorem fun_mk {x qual : Str} {st : Stmt} {f : Addr} {oc : Value} {od an : Option Addr} {osl : Array (Option Value)} {kV doc pm cdv ct : Value} (l : K.lookup f = some ⟨oc, od, .func (PySem.W.fnOf x qual (defArgs st) (defBody st) (defScope st) .none kV doc pm an cdv ct), osl⟩)
    (c : PySem.W.codeIn K cdv qual = true) (k : PySem.W.keepIn K (.ref f) = true) : Fun K x qual st f (PySem.W.fnOf x qual (defArgs st) (defBody st) (defScope st) .none kV doc pm an cdv ct) := ⟨⟨oc, od, kV, doc, pm, an, cdv, ct, osl, rfl, l, c⟩, k⟩
end
theorem hu_of {A : Around} {k : Nat} (hr : Room k A) : A.units + 1 < cLine := Nat.lt_of_le_of_lt (Nat.add_le_add_left (by decide : 1 ≤ 64) _) hr.units
theorem small1000 {n : Nat} (h : n ≤ 1000) : n < sizeLine := Nat.lt_of_le_of_lt h (by decide)
section
variable {X : Cx}
theorem pv (i : Nat) {x : Str} {pos : Pos} (hN : X.N[i]? = some x := by rfl) (hv : Vis X.env.scope x := by first | exact Or.inl rfl | exact Or.inr (Or.inl rfl) | exact Or.inr (Or.inr rfl)) (hd : (x == ("__debug__" : Str)) = false := by decide)
    (hcd : (x == ("__classdict__" : Str)) = false := by decide) : PE X (.Name x pos) (tVar i) := pe_var hN hv hd hcd
end
theorem iteF {A B : Prop} (h : B) : if false = true then A else B := by
  rw [if_neg Bool.false_ne_true]
  exact h
theorem iteT {A B : Prop} (h : A) : if true = true then A else B := by
  rw [if_pos rfl]
  exact h
theorem ite2 {c A B : Prop} [Decidable c] (h1 : c → A) (h2 : ¬ c → B) : if c then A else B := by
  by_cases h : c
  · rw [if_pos h]
    exact h1 h
  · rw [if_neg h]
    exact h2 h
def Same (H H' : Hp) : Prop := ∀ b o, H b = some o → H' b = some o
theorem Same.refl (H : Hp) : Same H H := fun _ _ h => h
theorem Same.trans {H H1 H2 : Hp} (a : Same H H1) (b : Same H1 H2) : Same H H2 := fun c o h => b c o (a c o h)
theorem Same.free {H H' : Hp} (e : Same H H') {l : Addr} (h : H' l = Option.none) : H l = Option.none := by
  cases q : H l with
  | none => rfl
  | some o =>
    rw [e l o q] at h
    cases h
theorem Same.seq {K : PySem.W.Frag} {H H' : Hp} {a : Addr} {xs : List V} (e : Same H H') (h : SqL K H a xs) : SqL K H' a xs := by
  rcases h with (h | ⟨o, h⟩) | h
  · exact .inl (.inl (e _ _ h))
  · exact .inl (.inr ⟨o, e _ _ h⟩)
  · exact .inr h
end L2
set_option maxHeartbeats 4000000
namespace L2
open PySem PySem.Spec PyProof.Rows
theorem bt_len : bootBuiltins "len" = some (.builtin "len") := by decide +kernel
theorem bt_min : bootBuiltins "min" = some (.builtin "min") := by decide +kernel
theorem bt_list : bootBuiltins "list" = some (.type "list") := by decide +kernel
section
variable {X : Cx} {pos : Pos}
def DivOk (j : Int) : Prop := 0 < j ∧ (j < 1073741824 ∨ j.natAbs.log2 < 9000)
theorem DivOk.small {j : Int} (h : 0 < j) (h2 : j < 1073741824) : DivOk j := ⟨h, .inl h2⟩
theorem op_fdivL : OpR X (binaryOp .FloorDiv) (rI (fun _ j => DivOk j) fun i j => .int (i / j)) := opI fun i j _ _ _ _ _ hc q => by
  have h1 : (0 : Int) < j := hc.1
  refine floordiv_int (by omega) (by rw [Int.fdiv_eq_ediv_of_nonneg i (by omega)]; exact q) (.inl ?_)
  rcases hc.2 with h2 | h2
  · exact PyProof.noPylong_small (by omega)
  · exact PyProof.noPylong_of_log2 h2
def ShlOk (i j : Int) : Prop := 0 ≤ j ∧ j ≤ 1000 ∧ i.natAbs < 2 ^ 1000
theorem op_shlL : OpR X (binaryOp .LShift) (rI ShlOk fun i j => .int (i * 2 ^ j.toNat)) := opI fun i j _ _ _ _ _ hc q => by
  obtain ⟨h1, h2, h3⟩ := hc
  refine lshift_int h1 ?_ q
  have h4 : Builtin.Int.intBits i ≤ 1000 := intBits_le_iff.mpr h3
  have h5 : (2 : Int) ^ 27 = 134217728 := by decide
  omega
def rCatS (K : PySem.W.Frag) : R2 := fun x y H Q => ∃ l b xs zs, x = .ref l ∧ y = .ref b ∧ SqL K H l xs ∧ SqL K H b zs ∧ xs.length + zs.length ≤ sizeLine ∧ ∀ p, H p = none → Q (.ref p) (upd H p (.lst (xs ++ zs)))
theorem op_catS : OpR X (binaryOp .Add) (rCatS X.K) := by
  intro pins s σ H x y v u Q I rx ry h
  obtain ⟨l, b, xs, zs, rfl, rfl, hH, hB, hz, q⟩ := h
  cases rx
  cases ry
  obtain ⟨its, r, hl, z⟩ := I.list hH
  obtain ⟨its2, r2, hl2, z2⟩ := I.list hB
  obtain ⟨⟨cls, dd, data, sl⟩, n, ho, hc, hdd, hd⟩ := hl
  obtain ⟨⟨cls2, dd2, data2, sl2⟩, n2, ho2, hc2, hdd2, hd2⟩ := hl2
  simp only at hc hd hc2 hd2
  subst hc hd hc2 hd2
  have l1 := r.length
  have l2 := r2.length
  have ea : its.toArray ++ its2.toArray = (its ++ its2).toArray := by simp
  refine concat_meets ⟨_, ho, rfl⟩ ⟨_, ho2, rfl⟩ noFill_list_add seq_list_add PySem.F.slot_list_add PySem.F.entry_list_add (PySem.F.args_list_add_2 _ _) (list_addW l b its.toArray its2.toArray n n2 dd dd2 sl sl2 (by rw [List.size_toArray, List.size_toArray]; omega)) ⟨ho, ho2, ?_⟩
  rw [ea]
  exact ⟨.ref _, _, I.lnew (t' := s.toks) (r.append r2) (by rw [List.length_append]; omega), rfl, q _ I.fresh⟩
def gLst (K : PySem.W.Frag) (n : Nat) (t : TGs) : TG := fun v σ H Q => ∃ a xs, v = .ref a ∧ SqL K H a xs ∧ xs.length = n ∧ t xs σ H Q
theorem pg_lst {es : List Expr} {k : Nat} {t : TGs} {n : Nat} (hc : X.calm = true) (h : PGs X es t)
    (hn : (assignEach es X.env).length = n := by rfl) (hst : (assignEach es X.env).findIdx? (·.1) = none := by rfl) : PG X (.Tuple es k pos) (gLst X.K n t) := by
  intro pins s σ H v u Q I r hw
  obtain ⟨a, xs, e1, hq, hl, hw⟩ := hw
  subst e1
  cases r
  obtain ⟨its, rv, ht, hz⟩ := I.list hq
  have hlist : s.heap.IsList a its.toArray := by
    obtain ⟨o, m, e, h1, _, h2⟩ := ht
    exact ⟨o, e, h1, m, h2⟩
  rw [assign_Tuple]
  refine wpAny_bind (wpAny_standAt ?_)
  unfold unpack
  have e2 : (assignEach es X.env).length = its.toArray.size := by rw [hn, ← hl, rv.length]; simp
  rw [e2, hst]
  refine wpAny_bind (wpAny_holding (PySem.W.kun_itemsOf (I.ok.hd hc) hlist fun h' hx => ?_))
  have I1 : Inv X pins σ H { s with heap := h' } := I.kept (t' := s.toks) fun b o e => hx b o (Nat.ne_of_lt (Heap.lt_size e)) e
  exact h pins _ σ H xs _ Q I1 (by simpa using rv) hw
end
theorem and_bit2 (x : Int) : Builtin.bitAnd x 4 = x / 4 % 2 * 4 := PySem.W.kbt_bit x 2
theorem and_bit3 (x : Int) : Builtin.bitAnd x 8 = x / 8 % 2 * 8 := PySem.W.kbt_bit x 3
theorem and_two (x : Int) : Builtin.bitAnd x 3 = x % 4 := PySem.W.kbt_mask x 2
theorem or_bit2 (x : Int) : Builtin.bitOr x 4 = x + 4 - x / 4 % 2 * 4 := by rw [bitOr_and, and_bit2]
theorem or_bit3 (x : Int) : Builtin.bitOr x 8 = x + 8 - x / 8 % 2 * 8 := by rw [bitOr_and, and_bit3]
theorem and_low16 (a d : Nat) (h : d < 16) : d &&& (a * 16) = 0 := by
  have e1 : d &&& 15 = d % 16 := Nat.and_two_pow_sub_one_eq_mod d 4
  have e2 : (a * 16) &&& 15 = (a * 16) % 16 := Nat.and_two_pow_sub_one_eq_mod (a * 16) 4
  have e3 : d % 16 = d := Nat.mod_eq_of_lt h
  have e4 : (a * 16) % 16 = 0 := by omega
  have f1 : d &&& 15 = d := e1.trans e3
  have f2 : (d &&& 15) &&& (a * 16) = d &&& ((a * 16) &&& 15) := by rw [Nat.and_assoc, Nat.and_comm 15 (a * 16)]
  rw [f1, e2, e4, Nat.and_zero] at f2
  exact f2
theorem or_low16 {k s : Int} (h0 : 0 ≤ k) (h1 : k < 16) (hs : 0 ≤ s) : Builtin.bitOr k (s * 16) = k + s * 16 := by
  have e : k.toNat &&& (s * 16).toNat = 0 := by
    have q : (s * 16).toNat = s.toNat * 16 := by omega
    rw [q]
    exact and_low16 _ _ (by omega)
  rw [bitOr_and, bitAnd_pp h0 (by omega), e]
  exact Int.sub_zero _
end L2
namespace L2
open PySem PySem.Spec PyProof.Rows
section
variable {X : Cx}
end
end L2
namespace L2
open PySem PySem.Spec PyProof.Rows
end L2
namespace L2
open PySem PySem.Spec PyProof.Rows
theorem cxOf_K (CX : CXT) (P : Program) (w : World) (K : PySem.W.Frag) (mg : Str → Option Value) (base : Heap) (N : List Str) (qual : Str) (scope : Scope) (f : Addr) (cd : Value) (A : Around) (outer : List Env) (s : Shared) (H : Hp) (E : XK) :
    (cxOf CX P w K mg base N qual scope f cd A outer s H E).K = K := rfl
end L2
namespace L2
open PySem PySem.Spec PyProof.Rows
end L2
namespace L2
open PySem PySem.Spec PyProof.Rows
theorem Same.put {H : Hp} {b : Addr} {o : HO} (h : H b = none) : Same H (upd H b o) := fun c u e => by
  rw [upd_ne (ne_of_none e h)]
  exact e
end L2
namespace L2
theorem scal_ii (i j : Int) : scal (.int i) (.int j) = true := rfl
theorem scal_bb (i j : Bool) : scal (.bl i) (.bl j) = true := rfl
theorem scal_ss (i j : PySem.Str) : scal (.str i) (.str j) = true := rfl
theorem scal_in (i : Int) : scal (.int i) .non = true := rfl
theorem scal_ni (i : Int) : scal .non (.int i) = true := rfl
end L2
namespace L2
open PySem PySem.Spec PyProof.Rows
def cxLc (X : Cx) (N : List Str) (scope : Scope) (cl : List (Str × Addr)) (C : Addr) (s : Shared) (H : Hp) (fp : List Addr) : Cx :=
  { X with N := N, s₀ := s, H₀ := H, env := compEnvC scope cl C X.env, outer := X.stack, stack := X.stack, ex := fp, fn := fun _ => false, pn := [], xe := fun _ _ => False }
def lcSlots (fr : List Nat) (σ : St) (v : Option V) : St := v :: fr.map fun j => (σ[j]?).join
structure LcOk (X : Cx) (x : Str) (ns : List Str) (fr : List Nat) (scope : Scope) (cl : List (Str × Addr)) : Prop where
  clos : closureFor scope X.env = pure cl
  nocell : ∀ y ∈ scope.names, y.2 ≠ .cell
  kind : scope.kind = .function
  own : ∀ y ∈ scope.names, y.2 = .local → scope.names.lookup y.1 = some .local
  var : scope.names.lookup x = some .local
  sub : ∀ z c, cl.lookup z = some c → X.env.cells.lookup z = some c
  has : ∀ z, ((relabel scope X.env).names.lookup z = some .cell ∨ (relabel scope X.env).names.lookup z = some .free) → ∃ c, cl.lookup z = some c
  len : ns.length = fr.length
  from_ : ∀ (k : Nat) z j, ns[k]? = some z → fr[k]? = some j → X.N[j]? = some z ∧ X.env.scope.names.lookup z = some .cell ∧ ((relabel scope X.env).names.lookup z = some .cell ∨ (relabel scope X.env).names.lookup z = some .free)
  nd : (x :: ns).Nodup
inductive LcIf (P : Expr → TT → Prop) : List Expr → TT → Prop where
  | nil : LcIf P [] fun _ H Q => Q true H
  | one {c : Expr} {t : TT} (h : P c t) : LcIf P [c] t
def lcLoop (J : It) (fr : List Nat) (tt : TT) (te : TE) (σ : St) (D : Addr) (Q : Hp → Prop) (H : Hp) : Prop :=
  ∃ W : Nat → Nat → Hp → Prop, (∃ m, W 0 m H) ∧ ∀ i m H2, W i m H2 → (J.stop i H2 ∧ Q H2) ∨ (J.go i H2 ∧ ∀ v H', J.yld i H2 v H' → tt (lcSlots fr σ (some v)) H' fun b H3 =>
    if b = true then te (lcSlots fr σ (some v)) H3 fun y H4 => ∃ ys, H4 D = some (.lst ys) ∧ ys.length < sizeLine ∧ ∃ m', m' < m ∧ W (i + 1) m' (upd H4 D (.lst (ys ++ [y]))) else ∃ m', m' < m ∧ W (i + 1) m' H3)
theorem iteT_inv {A B : Prop} (h : if true = true then A else B) : A := by
  rw [if_pos rfl] at h
  exact h
section
variable {X : Cx} {pins : List (Addr × Obj)} {σ : St} {H : Hp} {s : Shared} {x : Str} {ns : List Str} {fr : List Nat} {scope : Scope} {cl : List (Str × Addr)} {fp : List Addr}
theorem lc_ok (I : Inv X pins σ H s) (L : LcOk X x ns fr scope cl) (hf : ∀ b ∈ fp, FpOk X pins H b) (ho : ∀ b ∈ fp, b < s.heap.objs.size) : (cxLc X (x :: ns) scope cl s.heap.objs.size s H fp).Ok where
  mod := I.ok.mod
  kind := L.kind
  glob := I.ok.glob
  blt := I.ok.blt
  above := Nat.le_refl _
  inj := fun a b c h1 h2 => I.ok.inj a b c (L.sub a c h1) (L.sub b c h2)
  has := fun z h => L.has z h
  cab := fun _ _ h => nomatch h
  hd := I.ok.hd
  frames := I.ok.frames
  stk := .inl rfl
  exf := fun b hb => ⟨Nat.ne_of_lt (ho b hb), fun z c h => (hf b hb).2.2.2.2.1 z c (L.sub z c h)⟩
  bs := I.bs
  bsz := Nat.le_trans I.ok.bsz I.sz
  noex := fun b o e hb => by
    rcases (hf b hb).2.2.2.1 with h | h
    · exact I.ok.noex b o e h
    · exact absurd (Nat.lt_of_lt_of_le (Heap.lt_size e) (Nat.le_trans I.ok.bsz h)) (Nat.lt_irrefl _)
  exfs := fun b hb hs => by
    rcases List.mem_cons.mp (I.stkSub b hs) with h | h
    · exact (hf b hb).2.1 h
    · exact (hf b hb).2.2.1 h
  funs := I.stack
  frf := I.stkFree
theorem lc_slot {fr : List Nat} {σ : St} {v : Option V} {k : Nat} {u : V} (h : (lcSlots fr σ v)[k + 1]? = some (some u)) : ∃ j, fr[k]? = some j ∧ σ[j]? = some (some u) := by
  unfold lcSlots at h
  rw [List.getElem?_cons_succ, List.getElem?_map] at h
  cases e : fr[k]? with
  | none => rw [e] at h; cases h
  | some j =>
    rw [e] at h
    refine ⟨j, rfl, ?_⟩
    cases e2 : σ[j]? with
    | none => simp [e2] at h
    | some o => simp [e2] at h; rw [h]
theorem lc_start {h' : Heap} {t' : Nat} (I : Inv X pins σ H s) (L : LcOk X x ns fr scope cl) (hf : ∀ b ∈ fp, FpOk X pins H b) (ho : ∀ b ∈ fp, b < s.heap.objs.size)
    (hn : h'.Ns s.heap.objs.size fun _ => none) (hk : ∀ b o, s.heap.get? b = some o → h'.get? b = some o) :
    Inv (cxLc X (x :: ns) scope cl s.heap.objs.size s H fp) [] (lcSlots fr σ none) H { s with heap := h', toks := t' } where
  ok := lc_ok I L hf ho
  os := rfl
  bare := I.bare
  base := Un.kept hk
  loc := by
    refine ⟨_, hn, fun i z v e1 e2 e3 => ?_⟩
    cases i with
    | zero => cases e2
    | succ k =>
      have e1' : ns[k]? = some z := e1
      obtain ⟨j, ej, ev⟩ := lc_slot e2
      obtain ⟨hN, hc, hy⟩ := L.from_ k z j e1' ej
      obtain ⟨m, hm, hl⟩ := I.loc
      obtain ⟨u, r, l⟩ := hl j z v hN ev (.inr (.inl hc))
      refine ⟨u, r, .inr ⟨hy, ?_⟩⟩
      rcases l with ⟨l, _⟩ | ⟨_, c, hcl, ⟨o, ho2, hd⟩⟩
      · have : X.env.scope.names.lookup z = some .local := l
        rw [hc] at this
        cases this
      · obtain ⟨c', hc'⟩ := L.has z hy
        have e := L.sub z c' hc'
        rw [hcl] at e
        cases e
        exact ⟨c, hc', o, hk c o ho2, hd⟩
  cell := fun z c e => by
    obtain ⟨v, o, ho2, hd⟩ := I.cell z c (L.sub z c e)
    exact ⟨v, o, hk c o ho2, hd⟩
  free := I.fresh
  freeC := fun z c e => I.freeC z c (L.sub z c e)
  pin := fun p hp => nomatch hp
  hok := I.hok.kept hk
  len := by
    show (lcSlots fr σ none).length = (x :: ns).length
    unfold lcSlots
    rw [List.length_cons, List.length_map, List.length_cons, L.len]
theorem lc_block {elt iter : Expr} {px : Pos} {ifs : List Expr} {pos : Pos} {J : It} {it D : Addr} {tn : Nat → Heap → Prop} {tt : TT} {te : TE} {Qe : Hp → Prop} {R : Result → Shared → Prop} {s4 : Shared}
    (hc : X.calm = true) (L : LcOk X x ns fr scope cl) (T : Turn X.prog X.w X.K (.Name x px) J fp it tn) (hf : ∀ b ∈ fp, FpOk X pins H b) (ho : ∀ b ∈ fp, b < s.heap.objs.size) (I : Inv X pins σ H s)
    (hE : PE (cxLc X (x :: ns) scope cl s.heap.objs.size s H fp) elt te) (hT : LcIf (PT (cxLc X (x :: ns) scope cl s.heap.objs.size s H fp)) ifs tt) (hw : lcLoop J fr tt te σ D Qe H)
    (I4 : Inv (cxLc X (x :: ns) scope cl s.heap.objs.size s H fp) [] (lcSlots fr σ none) H s4) (st4 : tn 0 s4.heap)
    (hR : ∀ (s' : Shared) (H' : Hp) (v : Option V), Inv (cxLc X (x :: ns) scope cl s.heap.objs.size s H fp) [] (lcSlots fr σ v) H' s' → Qe H' → R (.ok .next) s') :
    codeAny (model X.prog X.w) X.A (.compStart (.ListComp elt [⟨.Name x px, iter, ifs, 0⟩] scope pos) 0 (.ref it) (.ref D) (compEnvC scope cl s.heap.objs.size X.env)) R s4 := by
  obtain ⟨W, ⟨m0, w0⟩, turn⟩ := hw
  have okY := lc_ok I L hf ho
  have hxl : Loc (cxLc X (x :: ns) scope cl s.heap.objs.size s H fp).env.scope x := .inl (lookup_relabel_local L.var)
  have stat : ∀ {H' : Hp}, (∀ b ∈ fp, H' b = none) → ∀ b ∈ fp, FpOk (cxLc X (x :: ns) scope cl s.heap.objs.size s H fp) [] H' b := fun hn b hb =>
    ⟨hn b hb, (okY.exf b hb).1, okY.exfs b hb, .inl hb, (okY.exf b hb).2, fun p hp => nomatch hp⟩
  have fr0 : ∀ b ∈ fp, H b = none := fun b hb => (hf b hb).1
  have loop : codeAny (model X.prog X.w) X.A (.compLoop (.ListComp elt [⟨.Name x px, iter, ifs, 0⟩] scope pos) 0 (.ref it) (.ref D) (compEnvC scope cl s.heap.objs.size X.env)) R s4 := by
    refine codeAny_loop rfl (fun n s' => ∃ i v H', Inv (cxLc X (x :: ns) scope cl s.heap.objs.size s H fp) [] (lcSlots fr σ v) H' s' ∧ tn i s'.heap ∧ (∀ b ∈ fp, H' b = none) ∧ W i n H') (fun n s3 hI => ?_) m0 ⟨0, none, H, I4, st4, fr0, w0⟩
    obtain ⟨i, v0, H3, I3, st3, fr3, w3⟩ := hI
    show wpAny _ X.A ((compTurn (.ListComp elt [⟨.Name x px, iter, ifs, 0⟩] scope pos) 0 (.ref it) (.ref D) (compEnvC scope cl s.heap.objs.size X.env)).onRaise (fun y => do noteFrame y (compEnvC scope cl s.heap.objs.size X.env); theTreesLotGoes y)) _ _ s3
    refine wpAny_noted ?_
    rw [compTurn_list]
    have low : ∀ {α : Type} {t : Sem α} {Q Q' : α → Shared → Prop} {E : Value → Shared → Prop} {s5 : Shared}, wpAny (model X.prog X.w) X.A t Q (fun _ _ => False) s5 → (∀ a s6, Q a s6 → Q' a s6) → wpAny (model X.prog X.w) X.A t Q' E s5 :=
      fun h hq => wpAny_mono h hq fun _ _ z => z.elim
    rcases turn i n H3 w3 with ⟨stop, q⟩ | ⟨go, step⟩
    · refine wpAny_bind (wpAny_standAt (wpAny_bind (low (T.done (cxLc X (x :: ns) scope cl s.heap.objs.size s H fp) rfl rfl rfl hc i [] s3 _ H3 (fun _ _ => False) I3 (stat fr3) st3 stop) fun r s5 hr => ?_)))
      obtain ⟨hr, I5⟩ := hr
      subst hr
      exact wpAny_pure (hR s5 H3 v0 I5 q)
    · refine wpAny_bind (wpAny_standAt (wpAny_bind (low (T.item (cxLc X (x :: ns) scope cl s.heap.objs.size s H fp) rfl rfl rfl hc i [] s3 _ H3 (fun _ _ => False) I3 (stat fr3) st3 go) fun r s5 hr => ?_)))
      obtain ⟨u, hr, h5⟩ := hr
      subst hr
      refine wpAny_bind (low h5 fun _ s6 h6 => ?_)
      obtain ⟨y, H6, I6, r6, y6, st6, fr6⟩ := h6
      have I6' := I6.pinned (stat fr6) (T.obj _ _ st6)
      have hg : PG (cxLc X (x :: ns) scope cl s.heap.objs.size s H fp) (.Name x px) (gName 0) := pg_name (i := 0) L.nd rfl hxl (.inr (lookup_relabel_local L.var))
      refine wpAny_bind (low (hg _ s6 _ H6 y u (fun σ' H' => σ' = lcSlots fr σ (some y) ∧ H' = H6) I6' r6 ⟨rfl, rfl⟩) fun _ s7 h7 => ?_)
      obtain ⟨σ7, H7, I7, e7, e7'⟩ := h7
      subst e7 e7'
      have back : ∀ {H8 : Hp} {s8 : Shared}, Inv (cxLc X (x :: ns) scope cl s.heap.objs.size s H fp) ([] ++ pinsAt fp s6.heap) (lcSlots fr σ (some y)) H8 s8 → (∃ m', m' < n ∧ W (i + 1) m' H8) →
          ∃ m, m < n ∧ ∃ i v H', Inv (cxLc X (x :: ns) scope cl s.heap.objs.size s H fp) [] (lcSlots fr σ v) H' s8 ∧ tn i s8.heap ∧ (∀ b ∈ fp, H' b = none) ∧ W i m H' := fun {H8 s8} I8 hm => by
        obtain ⟨m', hm, w8⟩ := hm
        refine ⟨m', hm, i + 1, some y, H8, I8.unpinned, T.keep _ _ _ st6 fun b hb o e => (I8.pin (b, o) (List.mem_append_right _ (List.mem_append_right _ (mem_pinsAt hb e)))).1, fun b hb => ?_, w8⟩
        obtain ⟨o, e, d⟩ := T.obj _ _ st6 b hb
        exact (I8.pin (b, o) (List.mem_append_right _ (List.mem_append_right _ (mem_pinsAt hb e)))).2.1
      have hstep := step y _ y6
      have emit : ∀ {H8 : Hp} {s8 : Shared}, Inv (cxLc X (x :: ns) scope cl s.heap.objs.size s H fp) ([] ++ pinsAt fp s6.heap) (lcSlots fr σ (some y)) H8 s8 →
          te (lcSlots fr σ (some y)) H8 (fun y H4 => ∃ ys, H4 D = some (.lst ys) ∧ ys.length < sizeLine ∧ ∃ m', m' < n ∧ W (i + 1) m' (upd H4 D (.lst (ys ++ [y])))) →
          wpAny (model X.prog X.w) X.A (do let _ ← call (.builtin "list.append") [.ref D, ← eval elt (compEnvC scope cl s.heap.objs.size X.env)]) (fun _ s9 => ∃ m, m < n ∧ ∃ i v H', Inv (cxLc X (x :: ns) scope cl s.heap.objs.size s H fp) [] (lcSlots fr σ v) H' s9 ∧ tn i s9.heap ∧ (∀ b ∈ fp, H' b = none) ∧ W i m H') (fun _ _ => False) s8 := fun {H8 s8} I8 h8 => by
        refine wpAny_bind (thn (hE _ s8 _ H8 _ I8 h8) fun v9 s9 h9 => ?_)
        obtain ⟨z, H9, I9, r9, ys, hD, hlen, hm⟩ := h9
        refine wpAny_bind (thn (mt_append (X := cxLc X (x :: ns) scope cl s.heap.objs.size s H fp) _ s9 _ H9 (.ref D) [z] (.ref D) [v9] (fun _ H' => ∃ m', m' < n ∧ W (i + 1) m' H') I9 rfl (.cons r9 .nil) ⟨D, ys, z, rfl, rfl, hD, hlen, hm⟩) fun v10 s10 h10 => ?_)
        obtain ⟨_, H10, I10, _, hm10⟩ := h10
        exact wpAny_pure (back I10 hm10)
      cases hT with
      | nil =>
        refine wpAny_bind (wpAny_tests_nil ?_)
        refine wpAny_bind (low (emit I7 (iteT_inv hstep)) fun _ s9 h9 => wpAny_pure ⟨rfl, h9⟩)
      | one hP =>
        refine wpAny_bind (wpAny_tests_one (low (hP _ s7 _ _ _ I7 hstep) fun b s8 h8 => ?_))
        obtain ⟨H8, I8, q8⟩ := h8
        cases b with
        | false =>
          have q9 : ∃ m', m' < n ∧ W (i + 1) m' H8 := q8
          exact wpAny_pure ⟨rfl, back I8 q9⟩
        | true =>
          exact wpAny_bind (low (emit I8 q8) fun _ s9 h9 => wpAny_pure ⟨rfl, h9⟩)
  exact codeAny_compStart_list loop (T.self X.A 0 _ _ _ st4 loop)
theorem lc_after {s' : Shared} {H' : Hp} {σ' : St} (I : Inv X pins σ H s) (hf : ∀ b ∈ fp, FpOk X pins H b) (I' : Inv (cxLc X (x :: ns) scope cl s.heap.objs.size s H fp) [] σ' H' s') : Inv X pins σ H' s' :=
  I.call' (ch := fp) I'.os I'.base I'.hok I'.bare fun b hb => ⟨(hf b hb).2.2.2.1, (hf b hb).2.1, (hf b hb).2.2.2.2.1, (hf b hb).2.2.2.2.2⟩
theorem lc_run {elt iter : Expr} {px : Pos} {ifs : List Expr} {pos : Pos} {J : It} {it : Addr} {tn : Nat → Heap → Prop} {tt : TT} {te : TE} {Qe : Addr → Hp → Prop} {R : Value → Addr → Result → Shared → Prop} {E : Value → Shared → Prop}
    (hc : X.calm = true) (L : LcOk X x ns fr scope cl) (T : Turn X.prog X.w X.K (.Name x px) J fp it tn) (hf : ∀ b ∈ fp, FpOk X pins H b) (I : Inv X pins σ H s) (st : tn 0 s.heap)
    (hE : ∀ C s H, PE (cxLc X (x :: ns) scope cl C s H fp) elt te) (hT : ∀ C s H, LcIf (PT (cxLc X (x :: ns) scope cl C s H fp)) ifs tt) (hw : ∀ D, H D = none → lcLoop J fr tt te σ D (Qe D) (upd H D (.lst [])))
    (hR : ∀ (D C : Addr) (s' : Shared) (H' : Hp), Inv X pins σ H' s' → Qe D H' → (∃ m o, s'.heap.get? C = some o ∧ (∀ v, o.data ≠ .cell v) ∧ ∀ h' : Heap, h'.get? C = some o → h'.Ns C m) → H' C = none → C ≠ X.env.locals → C ∉ X.fs → X.s₀.heap.objs.size ≤ C →
      (∀ z c, X.env.cells.lookup z = some c → c ≠ C) → (∀ p ∈ X.pn ++ pins, p.1 ≠ C) → R (.ref D) C (.ok .next) s') :
    wpAny (model X.prog X.w) X.A (newList []) (fun acc s₃ => wpAny (model X.prog X.w) X.A (newFunctionEnv scope X.env.globals cl [] X.env.qual none .none (some X.env)) (fun cenv s₄ =>
      codeAny (model X.prog X.w) X.A (.compStart (.ListComp elt [⟨.Name x px, iter, ifs, 0⟩] scope pos) 0 (.ref it) acc { cenv with scope := relabel scope X.env }) (R acc cenv.locals) s₄) E s₃) E s := by
  have ho : ∀ b ∈ fp, b < s.heap.objs.size := fun b hb => by
    obtain ⟨o, e, _⟩ := T.obj _ _ st b hb
    exact Heap.lt_size e
  have I3 : Inv X pins σ (upd H s.heap.objs.size (.lst [])) { s with heap := s.heap.push { cls := .type "list", dict := none, data := .seq ([] : List Value).toArray } } := I.lnew (t' := s.toks) (.nil) (Nat.zero_le _)
  refine wpAny_newObj_type (wpAny_newFunctionEnv L.nocell (by intro y hy; simp at hy) (fun h1 hns hsb => ?_) L.kind)
  dsimp only at hns hsb ⊢
  generalize hs3 : ({ s with heap := s.heap.push { cls := .type "list", dict := none, data := .seq ([] : List Value).toArray } } : Shared) = s3 at I3
  have eh : s.heap.push { cls := .type "list", dict := none, data := .seq ([] : List Value).toArray } = s3.heap := by rw [← hs3]
  rw [eh] at hns hsb ⊢
  have hz : s3.heap.objs.size = s.heap.objs.size + 1 := by rw [← eh, Heap.size_push]
  have hk : ∀ b o, s3.heap.get? b = some o → h1.get? b = some o := fun b o e => hsb.extBut b o (Nat.ne_of_lt (Heap.lt_size e)) (Heap.get?_push_of_some _ e)
  have hf3 : ∀ b ∈ fp, FpOk X pins (upd H s.heap.objs.size (.lst [])) b := fun b hb => ⟨by rw [upd_ne (Nat.ne_of_lt (ho b hb))]; exact (hf b hb).1, (hf b hb).2⟩
  have ho3 : ∀ b ∈ fp, b < s3.heap.objs.size := fun b hb => by rw [hz]; exact Nat.lt_succ_of_lt (ho b hb)
  have es : ∀ tk, ({ s with heap := h1, toks := tk } : Shared) = { s3 with heap := h1, toks := tk } := fun tk => by rw [← hs3]
  rw [es]
  have I4 := lc_start (t' := s.toks + ([] : List (Str × Value)).length) I3 L hf3 ho3 hns hk
  refine lc_block hc L T hf3 ho3 I3 (hE _ _ _) (hT _ _ _) (hw _ I.fresh) I4 ?_ fun s' H' v I' q => ?_
  · refine T.keep _ _ _ st fun b hb o e => hk b o ?_
    rw [← eh]
    exact Heap.get?_push_of_some _ e
  · have IX := lc_after I3 hf3 I'
    obtain ⟨m, ⟨o, es', ep, ho', hd', hr'⟩, _⟩ := I'.loc
    refine hR _ _ s' H' IX q ⟨m, o, ho', fun v z => ?_, fun h' e => ⟨o, es', ep, e, hd', hr'⟩⟩ I'.free (Nat.ne_of_gt I3.lt) (I3.nofs (Nat.le_refl _)) I3.sz (fun z c e => ?_) fun p hp => ?_
    · rw [hd'] at z
      cases z
    · obtain ⟨v, o2, e2, _⟩ := I3.cell z c e
      exact Nat.ne_of_lt (Heap.lt_size e2)
    · exact Nat.ne_of_lt (Heap.lt_size (I3.pin p hp).1)
def tLc (wi : TI) (fr : List Nat) (tt : TT) (te : TE) : TE := fun σ H Q => wi σ H fun J H1 => ∀ D, H1 D = none → lcLoop J fr tt te σ D (fun H2 => Q (.ref D) H2) (upd H1 D (.lst []))
theorem pe_lc {elt iter : Expr} {px pos : Pos} {ifs : List Expr} {wi : TI} {tt : TT} {te : TE} (hc : X.calm = true) (L : LcOk X x ns fr scope cl) (hi : PI X (.Name x px) iter wi)
    (hE : ∀ C s H fp, PE (cxLc X (x :: ns) scope cl C s H fp) elt te) (hT : ∀ C s H fp, LcIf (PT (cxLc X (x :: ns) scope cl C s H fp)) ifs tt)
    (hs : ∀ v, foldedSetIterable iter X.env v = pure v := by intro _; rfl) : PE X (.ListComp elt [⟨.Name x px, iter, ifs, 0⟩] scope pos) (tLc wi fr tt te) := by
  intro pins s σ H Q I h
  rw [eval_ListComp]
  refine wpAny_comprehension_free (use := none) rfl hs L.clos L.kind L.own (thn (hi pins s σ H _ I h) fun v s1 h1 => thn h1 fun itv s2 h2 => ?_)
  obtain ⟨it, fp, tn, J, H2, e, I2, T, st2, f2, q⟩ := h2
  subst e
  refine lc_run (R := fun acc C => compPost (model X.prog X.w) X.A X.xe none (EP X pins σ Q) acc C) hc L T f2 I2 st2 (fun C s H => hE C s H fp) (fun C s H => hT C s H fp) q ?_
  intro D C s' H' I' q' hns hn hl hfs hz hcell hpin
  obtain ⟨m, o, e, hd, hk⟩ := hns
  refine ⟨m, hk _ e, fun h' hsb => ?_⟩
  exact ⟨.ref D, H', I'.turned (t' := s'.toks) (fun b o hb e => hsb.extBut b o hb e) hn hl (.inr hz) hcell hpin, rfl, q'⟩
theorem ps_lc {elt iter : Expr} {y : Str} {j : Nat} {px py pos spos : Pos} {ifs : List Expr} {wi : TI} {tt : TT} {te : TE} (hc : X.calm = true) (hN : X.N.Nodup) (hj : X.N[j]? = some y) (hy : X.env.scope.names.lookup y = some .local) (L : LcOk X x ns fr scope cl) (hi : PI X (.Name x px) iter wi)
    (hE : ∀ C s H fp, PE (cxLc X (x :: ns) scope cl C s H fp) elt te) (hT : ∀ C s H fp, LcIf (PT (cxLc X (x :: ns) scope cl C s H fp)) ifs tt)
    (hsw : swapsWith (.ListComp elt [⟨.Name x px, iter, ifs, 0⟩] scope pos) (some (.Name y py)) spos.line X.env = pure true := by rfl)
    (hs : ∀ v, foldedSetIterable iter X.env v = pure v := by intro _; rfl) : PS X (.Assign [.Name y py] (.ListComp elt [⟨.Name x px, iter, ifs, 0⟩] scope pos) spos) (tAsg (tLc wi fr tt te) (gName j)) := by
  intro pins s σ H Dn I h
  rw [exec_Assign_Name_used _ _ _ _ hsw]
  refine wpAny_bind (wpAny_standAt (wpAny_bind ?_))
  show wpAny _ X.A (do let _ ← comprehension (.ListComp elt [⟨.Name x px, iter, ifs, 0⟩] scope pos) scope X.env _ (newList []) false (eval iter X.env) (some (assign (.Name y py) X.env))) _ _ s
  refine wpAny_bind (thn (wpAny_comprehension_free (use := some (assign (.Name y py) X.env)) (Q := fun _ s' => SP X pins Dn .next s') rfl hs L.clos L.kind L.own (thn (hi pins s σ H _ I h) fun v s1 h1 => thn h1 fun itv s2 h2 => ?_)) fun _ s' q => wpAny_pure (wpAny_pure q))
  obtain ⟨it, fp, tn, J, H2, e, I2, T, st2, f2, q⟩ := h2
  subst e
  refine lc_run (R := fun acc C => compPost (model X.prog X.w) X.A X.xe (some (assign (.Name y py) X.env)) (fun _ s' => SP X pins Dn .next s') acc C) hc L T f2 I2 st2 (fun C s H => hE C s H fp) (fun C s H => hT C s H fp) q ?_
  intro D C s' H' I' q' hns hn hl hfs hz hcell hpin
  obtain ⟨m, o, e, hd, hk⟩ := hns
  have I'' : Inv X (pins ++ [(C, o)]) σ H' s' := I'.pins_of fun p hp => by
    rcases List.mem_append.mp hp with h | h
    · exact I'.pin p (List.mem_append_right _ h)
    · have ep : p = (C, o) := by simpa using h
      subst ep
      exact ⟨e, hn, hl, hfs, hd⟩
  refine wpAny_assign_Name (store_ok I'' hN hj (.inl hy) (show RelV (.ref D) (.ref D) from rfl) (fun s2 I2 => ?_) (.inr hy))
  obtain ⟨e2, n2, _⟩ := I2.pin (C, o) (List.mem_append_right _ (List.mem_append_right _ (List.mem_singleton.mpr rfl)))
  refine ⟨m, hk _ e2, fun h' hsb => ?_⟩
  exact ⟨σ.set j (some (.ref D)), H', I2.unpinned.turned (t' := s2.toks) (fun b o hb e => hsb.extBut b o hb e) hn hl (.inr hz) hcell hpin, q'⟩
end
section
variable {X : Cx} {x : Str} {ns : List Str} {fr : List Nat} {scope : Scope} {cl : List (Str × Addr)}
theorem lk_mem {α : Type} {z : Str} {c : α} : ∀ {l : List (Str × α)}, l.lookup z = some c → (z, c) ∈ l
  | [], h => by simp at h
  | (y, d) :: l, h => by
    rw [List.lookup_cons] at h
    cases e : z == y with
    | true =>
      rw [e] at h
      have e2 : z = y := by simpa using e
      cases h
      rw [e2]
      exact List.mem_cons_self
    | false =>
      rw [e] at h
      exact List.mem_cons_of_mem _ (lk_mem h)
theorem lcok (clos : closureFor scope X.env = pure cl) (nocell : scope.names.all (fun y => y.2 != .cell) = true) (kind : scope.kind = .function)
    (own : scope.names.all (fun y => y.2 != .local || scope.names.lookup y.1 == some .local) = true) (var : scope.names.lookup x = some .local) (sub : ∀ p ∈ cl, X.env.cells.lookup p.1 = some p.2)
    (has : (relabel scope X.env).names.all (fun y => !(y.2 == .cell || y.2 == .free) || (cl.lookup y.1).isSome) = true) (len : ns.length = fr.length)
    (fr_ : ∀ p ∈ ns.zip fr, X.N[p.2]? = some p.1 ∧ X.env.scope.names.lookup p.1 = some .cell ∧ ((relabel scope X.env).names.lookup p.1 = some .cell ∨ (relabel scope X.env).names.lookup p.1 = some .free)) (nd : (x :: ns).Nodup) : LcOk X x ns fr scope cl where
  clos := clos
  nocell := fun y hy => by simpa using List.all_eq_true.mp nocell y hy
  kind := kind
  own := fun y hy h => by
    have := List.all_eq_true.mp own y hy
    rw [h] at this
    simpa using this
  var := var
  sub := fun z c h => sub _ (lk_mem h)
  has := fun z h => by
    have k : ∀ t, (relabel scope X.env).names.lookup z = some t → (t = .cell ∨ t = .free) → ∃ c, cl.lookup z = some c := fun t ht hk => by
      have := List.all_eq_true.mp has _ (lk_mem ht)
      rcases hk with rfl | rfl <;> simpa [Option.isSome_iff_exists] using this
    rcases h with h | h
    · exact k _ h (.inl rfl)
    · exact k _ h (.inr rfl)
  len := len
  from_ := fun k z j h1 h2 => fr_ (z, j) (List.mem_of_getElem? (i := k) (by rw [List.getElem?_zip_eq_some]; exact ⟨h1, h2⟩))
  nd := nd
end
end L2
namespace L2
end L2
namespace L2
open PySem PySem.Spec PyProof.Rows
theorem ix_listC {X : Cx} {K : PySem.W.Frag} (h : X.K = K) : IxR X (rIxL K) := by
  subst h
  exact ix_list
theorem ix_tupC {X : Cx} {K : PySem.W.Frag} (h : X.K = K) : IxR X (rIxT K) := by
  subst h
  exact ix_tup
theorem pe_fldC {X : Cx} {K : PySem.W.Frag} {e : Expr} {f : Str} {pos : Pos} {ta : TE} (h : X.K = K) (he : PE X e ta) (hb : attributeBase e f X.env (eval e X.env) = eval e X.env) : PE X (.Attribute e f pos) (tFld K ta f) := by
  subst h
  exact pe_fld he hb
end L2
namespace L2
open PySem PySem.Spec PyProof.Rows
open AutoSeq1 (wpAny_loadPart')
section
variable {prog : Program} {w : World} {A : Around} {E : Value → Shared → Prop} {s : Shared}
abbrev enKw (p : Int) (t : Tok) : List (Str × Value) := [("start", .int p t)]
theorem en_type (l : Value) (p : Int) (t : Tok) : checkTypeCall "enumerate" ⟨[l], enKw p t⟩ = pure () := by kernel_rfl
theorem en_newc (l : Value) (p : Int) (t : Tok) : checkBuiltinCall "enumerate.__new__" ⟨[.type "enumerate", l], enKw p t⟩ = pure () := by kernel_rfl
theorem en_init (o l : Value) (p : Int) (t : Tok) : argsOk "object.__init__" ⟨[o, l], enKw p t⟩ := by
  first | exact ⟨rfl⟩ | decide | (unfold argsOk; kernel_rfl) | trivial
theorem en_new (l : Addr) (xs : Array Value) (n : Nat) (dct : Option Addr) (sl : Array (Option Value)) (p : Int) (t : Tok) (hp : (!Builtin.SmallTypes.fitsIndex p) = false) :
    Meets (Builtin.«enumerate.__new__» ⟨[.type "enumerate", .ref l], enKw p t⟩) (fun _ R s => s.heap.get? l = some { cls := .type "list", dict := dct, data := .seq xs n, slots := sl } ∧
      R (.ok (.ret (.ref (s.heap.push { cls := .type "list_iterator", data := .fields #[.ref l, .int 0 0] }).objs.size)))
        { s with heap := (s.heap.push { cls := .type "list_iterator", data := .fields #[.ref l, .int 0 0] }).push { cls := .type "enumerate", data := .fields #[.none, .bool false, .ref s.heap.objs.size, rawInt p, .none, .none] } }) :=
  .of_wp fun prog w A R s h => by
    obtain ⟨hp0, g, d, tk, os⟩ := s
    obtain ⟨hl, h⟩ := h
    have sub := sub_enumerate
    have isl : Heap.IsList (Shared.heap ⟨hp0, g, d, tk, os⟩) l xs := ⟨_, hl, rfl, n, rfl⟩
    wp_walk using wpAny_loadPart' hl
    refine wpAny_stack_any fun st => wpAny_pure ?_
    split
    · rename_i c _ _ _ _ _
      cases (c == Value.type "enumerate") <;> (wp_walk using wpAny_loadPart' hl, wpAny_pyIter_list isl; exact ⟨_, rfl, h⟩)
    · wp_walk using wpAny_loadPart' hl, wpAny_pyIter_list isl
      exact ⟨_, rfl, h⟩
theorem en_made {T ni ii : String} {Bn Bi : Builtin} {as : List Value} {kw : List (Str × Value)} {S : PySem.Spec} {Q Q1 : Value → Shared → Prop} (ft : TypeCalled T ni ii) (c1 : checkTypeCall T ⟨as, kw⟩ = pure ())
    (c2 : checkBuiltinCall ni ⟨.type T :: as, kw⟩ = pure ()) (en : entryFor table ni = some Bn) (ei : entryFor table ii = some Bi) (g : Meets (Bn ⟨.type T :: as, kw⟩) S) (h : S A.in1 (wants Q1 E) s)
    (nx : ∀ o s1, Q1 o s1 → s1.TypeIs o T ∧ argsOk ii ⟨o :: as, kw⟩ ∧ ∃ Si, Meets (Bi ⟨o :: as, kw⟩) Si ∧ Si A.in1 (wants (fun r s2 => r = .none ∧ Q o s2) E) s1) : wpAny (model prog w) A (call (.type T) as kw) Q E s := by
  obtain ⟨c, tl, mr⟩ := ft.mro
  have made := ft.made; have sub := ft.sub; have nt := ft.notType; have cc := ft.canCreate
  refine wpAny_call (codeAny_of_tree ?_); show wpAny _ _ (callAny (.type T) _) _ _ _
  refine wpAny_pure ⟨Code.quiet_builtin _ (by decide +kernel), codeAny_builtin F.entry_type_call ?_⟩; rw [Around.under_plain (weight_type_call_type T as kw) (units_type_call_type T as kw)]
  repeat (any_goals (first | assumption | wp_step))
  refine codeAny_mono (codeAny_call_builtin ft.plain en (wpAny_of_eq c2 (g prog w A.in1 _ s h))) fun r s1 hr => ?_
  cases r with
  | error e => exact hr
  | ok fl =>
    cases fl with
    | ret o =>
      obtain ⟨hT, ok, Si, gi, hs⟩ := nx _ _ hr
      have li := ft.init.lookup; have bi := ft.init.bind o
      repeat (any_goals (first | assumption | wp_step))
      refine codeAny_mono (codeAny_call_builtin ft.init.plain ei (ft.init.check _ _ _ _ _ _ _ _ hT ok (gi prog w A.in1 _ s1 hs))) fun r2 s2 hr2 => ?_
      cases r2 with
      | error e => exact hr2
      | ok fl2 =>
        cases fl2 with
        | ret r =>
          obtain ⟨rfl, hq⟩ := hr2
          repeat (any_goals (first | assumption | wp_step))
        | _ => exact hr2.elim
    | _ => exact hr.elim
theorem en_obj {T ni : String} {o a : Value} {as : List Value} {kw : List (Str × Value)} (hl : typeLookup (.type T) "__init__" = pure (some (.builtin "object.__init__"))) (hm : Bind.madeBy (.type T) = pure (some ni)) (hne : (some ni != some "object.__new__") = true) :
    Meets (Builtin.«object.__init__» ⟨o :: a :: as, kw⟩) (fun _ R s => s.TypeIs o T ∧ R (.ok (.ret .none)) s) := by
  refine Meets.of_wp fun prog w A R s hs => ?_
  obtain ⟨hT, hq⟩ := hs
  repeat (any_goals (first | assumption | wp_step))
  exact ⟨_, rfl, hq⟩
theorem en_call {l : Addr} {xs : Array Value} {p : Int} {t : Tok} {Q : Value → Shared → Prop} (hL : s.heap.IsList l xs) (hp : (!Builtin.SmallTypes.fitsIndex p) = false)
    (h : ∀ h', IsEnum h' (s.heap.objs.size + 1) s.heap.objs.size p .none → h'.IsListIter s.heap.objs.size l 0 → h'.objs.size = s.heap.objs.size + 2 → (∀ b o, s.heap.get? b = some o → h'.get? b = some o) → Q (.ref (s.heap.objs.size + 1)) { s with heap := h' }) :
    wpAny (model prog w) A (call (.type "enumerate") [.ref l] (enKw p t)) Q E s := by
  obtain ⟨⟨c, dct, dt, sl⟩, hl, hc, n, hd⟩ := hL
  replace hc : c = .type "list" := hc
  replace hd : dt = .seq xs n := hd
  subst hc hd
  refine en_made (Q1 := fun o s1 => s1.TypeIs o "enumerate" ∧ Q o s1) F.called_enumerate (en_type _ _ _) (en_newc _ _ _) F.entry_enumerate_new F.entry_object_init (en_new l xs n dct sl p t hp) ⟨hl, ?_⟩ fun o s1 hq =>
    ⟨hq.1, en_init _ _ _ _, _, en_obj F.called_enumerate.init.lookup F.called_enumerate.made (by decide), hq.1, rfl, hq.2⟩
  have hz : (s.heap.push { cls := .type "list_iterator", data := .fields #[.ref l, .int 0 0] }).objs.size = s.heap.objs.size + 1 := Heap.size_push ..
  show _ ∧ _; rw [hz]
  have he := Heap.get?_push_size (s.heap.push { cls := .type "list_iterator", data := .fields #[.ref l, .int 0 0] }) (o := { cls := .type "enumerate", data := .fields #[.none, .bool false, .ref s.heap.objs.size, rawInt p, .none, .none] }) rfl
  rw [hz] at he
  exact ⟨⟨_, he, rfl⟩, h _ he ⟨_, Heap.get?_push_of_some _ (Heap.get?_push_size _ rfl), rfl, rfl⟩ (by rw [Heap.size_push, hz]) fun b o x => Heap.get?_push_of_some _ (Heap.get?_push_of_some _ x)⟩
theorem en_shift {it : Addr} {fp : List Addr} {n : Nat} {P : Nat → Value → Prop} {St : Nat → Heap → Prop} (p : Nat) (D : Draws prog w A it fp n P St) :
    Draws prog w A it fp (p + n) (fun j v => ∃ i, j = p + i ∧ P i v) (fun j h => ∃ i, j = p + i ∧ St i h) where
  live := fun j h ⟨i, _, st⟩ => D.live i h st
  frame := fun j h h' ⟨i, e, st⟩ k => ⟨i, e, D.frame i h h' st k⟩
  item := fun j s Q E hj ⟨i, e, st⟩ hQ => D.item i s Q E (by omega) st fun x h' tk hP st' hs => hQ x h' tk ⟨i, e, hP⟩ ⟨i + 1, by omega, st'⟩ hs
  done := fun s Q E ⟨i, e, st⟩ hE => by
    have ei : i = n := by omega
    subst ei
    exact D.done s Q E st hE
end
def Ite (K : PySem.W.Frag) (l : Addr) (p : Nat) : It :=
  ⟨fun i H => ∃ xs x, SqL K H l xs ∧ xs[i]? = some x, fun i H x H' => ∃ t v, H t = none ∧ x = .ref t ∧ (∀ xs, SqL K H l xs → xs[i]? = some v) ∧ H' = upd H t (.tup [.int ((p + i : Nat) : Int), v]), fun i H => ∃ xs, SqL K H l xs ∧ xs.length = i⟩
theorem turn_enum {P : Program} {w : World} {K : PySem.W.Frag} {es : List Expr} {k : Nat} {tp : Pos} (l e it : Addr) (p : Nat) (hei : e ≠ it) (hle : l ≠ e) (hli : l ≠ it) :
    Turn P w K (.Tuple es k tp) (Ite K l p) [e, it] e (fun i h => (∃ old, IsEnum h e it ((p + i : Nat) : Int) old) ∧ h.IsListIter it l i) where
  mem := by simp
  obj := fun i h st b hb => by
    obtain ⟨⟨old, he⟩, o, ho, hc, hd⟩ := st
    rcases List.mem_cons.mp hb with rfl | hb
    · exact ⟨_, he, fun v z => by cases z⟩
    · have eb : b = it := by simpa using hb
      subst eb
      exact ⟨o, ho, fun v z => by rw [hd] at z; cases z⟩
  keep := fun i h h' st kk => by
    obtain ⟨⟨old, he⟩, hit⟩ := st
    exact ⟨⟨old, kk e (by simp) _ he⟩, hit.at fun o z => kk it (by simp) o z⟩
  item := by
    intro X hP hw hK hc i pins s σ H E I hf st hg
    subst hP hw hK
    obtain ⟨xs, x, hq, hx⟩ := hg
    obtain ⟨its, rv, pl, hz⟩ := I.list hq
    obtain ⟨u, hu, ru⟩ := rv.get hx
    obtain ⟨⟨old, he⟩, hit⟩ := st
    have hlen := rv.length
    have hi : i < its.toArray.size := by
      have := (List.getElem?_eq_some_iff.mp hu).1
      simpa using this
    refine wpAny_pyNext_enum_itemD (en_shift p (Draws.list (prog := X.prog) (w := X.w) (A := X.A.in1) (I.ok.hd hc) it l hli its.toArray)) he ⟨i, rfl, hit, pl.isList⟩ (by omega) hei
      (by simp only [List.mem_cons, List.not_mem_nil, or_false]; rintro (z | z); exact hei z; exact hle z.symm) fun y h' tk hy ho hst hT hsz hk => ?_
    obtain ⟨i', ei, hy⟩ := hy
    have ei' : i' = i := by omega
    subst ei'
    have eu : y = u := by
      have h1 : its.toArray[i']? = some y := hy
      rw [List.getElem?_toArray, hu] at h1
      exact (Option.some.inj h1).symm
    subst eu
    refine ⟨_, rfl, wpAny_letOwnedTupleGo_enum (s := { s with heap := h', toks := tk + 1 }) ho fun h2 he2 hs2 => ?_⟩
    have hel : e < s.heap.objs.size := Heap.lt_size he
    have hn : H s.heap.objs.size = none := I.fresh
    have kp : ∀ b o, b ≠ e → b ≠ it → s.heap.get? b = some o → h2.get? b = some o := fun b o h1 h3 z => (hs2.2 b h1).trans (hk b o h1 h3 z)
    have hT2 : h2.get? s.heap.objs.size = some { cls := .type "tuple", data := .seq #[.int ((p + i' : Nat) : Int) tk, y] } := (hs2.2 _ (Nat.ne_of_gt hel)).trans hT
    have fe := hf e (by simp)
    have fi := hf it (by simp)
    have ne : ∀ b o, H b = some o → b ≠ e ∧ b ≠ it := fun b o z => ⟨fun z2 => (by subst z2; rw [fe.1] at z; cases z), fun z2 => (by subst z2; rw [fi.1] at z; cases z)⟩
    have lt : ∀ b o, H b = some o → b ≠ s.heap.objs.size := fun b o z => Nat.ne_of_lt (I.hok.lt z)
    have hok : HOk X.prog X.w (upd H s.heap.objs.size (.tup [.int ((p + i' : Nat) : Int), x])) h2 := fun b o z => by
      by_cases hb : b = s.heap.objs.size
      · subst hb
        rw [upd_same] at z
        cases z
        exact ⟨by show 2 ≤ _; decide, [.int ((p + i' : Nat) : Int) tk, y], .cons ⟨tk, rfl⟩ (.cons ru .nil), ⟨_, hT2, rfl, _, rfl⟩⟩
      · rw [upd_ne hb] at z
        refine (I.hok b o z).stay (fun c v hc q => ?_) (fun c q => by rw [upd_ne (lt c _ q)]; exact q) fun c ys q => by rw [upd_ne (lt c _ q)]; exact q
        rcases hc with rfl | hc
        · exact kp _ v (ne _ o z).1 (ne _ o z).2 q
        · exact kp c v (ne c _ hc).1 (ne c _ hc).2 q
    have old2 : ∀ b o, s.heap.get? b = some o → b ≠ s.heap.objs.size := fun b o z => Nat.ne_of_lt (Heap.lt_size z)
    have U : Un (frs X.stack) [e, it] H (upd H s.heap.objs.size (.tup [.int ((p + i' : Nat) : Int), x])) s.heap h2 := by
      have nch : ∀ b, b ∉ [e, it] → b ≠ e ∧ b ≠ it := fun b hb => ⟨fun z => hb (by simp [z]), fun z => hb (by simp [z])⟩
      refine ⟨fun b o z _ _ hb => kp b o (nch b hb).1 (nch b hb).2 z, fun b o z _ _ hb => ⟨o.slots, kp b o (nch b hb).1 (nch b hb).2 z⟩, fun b o z n hb => by rw [upd_ne (old2 b o z)]; exact n, fun b o z hb => ?_, fun b ys z => by rw [upd_ne (lt b _ z)]; exact z, fun b o u z => by rw [upd_ne (lt b _ z)]; exact z, fun b ps z => ⟨#[], by rw [upd_ne (lt b _ z), z]; simp⟩⟩
      exact ⟨o, kp b o (nch b hb).1 (nch b hb).2 z⟩
    have I2 : Inv X pins σ (upd H s.heap.objs.size (.tup [.int ((p + i' : Nat) : Int), x])) { s with heap := h2, toks := tk + 1 } := I.call (g' := s.gens) (t' := tk + 1) (d' := s.drawn) (ch := [e, it]) U hok I.bare fun b hb => by
      have f := hf b hb
      exact ⟨f.2.2.2.1, f.2.1, f.2.2.2.2.1, f.2.2.2.2.2⟩
    obtain ⟨i2, ei2, hit2, _⟩ := hst
    have ei3 : i2 = i' + 1 := by omega
    subst ei3
    refine ⟨.ref s.heap.objs.size, _, I2, rfl, ⟨s.heap.objs.size, x, hn, rfl, fun ys hy => by rw [I.list_inj hy hq]; exact hx, rfl⟩, ⟨⟨y, ?_⟩, hit2.at fun o z => (hs2.2 it hei.symm).trans z⟩, fun b hb => ?_⟩
    · have ec : (((p + i' : Nat) : Int) + 1) = ((p + (i' + 1) : Nat) : Int) := by omega
      rw [← ec]
      exact he2
    · have f := (hf b hb).1
      obtain ⟨ob, zb, _⟩ : ∃ o, s.heap.get? b = some o ∧ True := by
        rcases List.mem_cons.mp hb with rfl | hb
        · exact ⟨_, he, trivial⟩
        · have eb : b = it := by simpa using hb
          subst eb
          obtain ⟨o, ho2, _⟩ := hit
          exact ⟨o, ho2, trivial⟩
      rw [upd_ne (old2 b ob zb)]
      exact f
  done := by
    intro X hP hw hK hc i pins s σ H E I hf st hg
    subst hP hw hK
    obtain ⟨xs, hq, hx⟩ := hg
    obtain ⟨its, rv, pl, hz⟩ := I.list hq
    obtain ⟨⟨old, he⟩, hit⟩ := st
    have hlen := rv.length
    have fi := hf it (by simp)
    have ei : i = its.toArray.size := by simp; omega
    subst ei
    exact wpAny_pyNext_enum_endD (en_shift p (Draws.list (prog := X.prog) (w := X.w) (A := X.A.in1) (I.ok.hd hc) it l hli its.toArray)) he ⟨its.toArray.size, rfl, hit, pl.isList⟩
      fun h' eb => ⟨rfl, I.turned (t' := s.toks) (fun b o hb z => eb b o hb z) fi.1 fi.2.1 fi.2.2.2.1 fi.2.2.2.2.1 fi.2.2.2.2.2⟩
  self := fun _ _ _ _ _ st h => by
    obtain ⟨⟨old, he⟩, _⟩ := st
    exact wpAny_pyIter_enum he h
theorem bt_enumerate : bootBuiltins "enumerate" = some (.type "enumerate") := by decide +kernel
section
variable {M : Model} {A : Around} {E : Value → Shared → Prop} {s : Shared} {env : Env}
theorem en_with {pos : Pos} {T : String} {e : Expr} {kws : List Keyword} {Q : Value → Shared → Prop}
    (h : wpAny M A (spliced (backTo pos (starEach [e] env))) (fun vs s1 => wpAny M A (evalAll ((backToKw pos (keywordEach kws env)).map (·.2)))
      (fun kvs s2 => wpAny M A (call (.type T) vs (((backToKw pos (keywordEach kws env)).filterMap (·.1)).zip kvs)) Q E s2) E s1) E s)
    (he : starEach [e] env = [(false, eval e env)]) (hall : (backToKw pos (keywordEach kws env)).all (·.1.isSome) = true := by rfl)
    (hkw : (backToKw pos (keywordEach kws env)).any (·.1.isNone) = false := by rfl) :
    wpAny M A (callWith pos (.type T) [] (backTo pos (starEach [e] env)) (backToKw pos (keywordEach kws env))) Q E s := by
  rw [he] at h ⊢
  have hp : (backTo pos [(false, eval e env)]).any (·.1) = false := rfl
  unfold callWith
  have h2 : wpAny M A (evalArgs (.type T) true (backTo pos [(false, eval e env)]) (backToKw pos (keywordEach kws env))) (fun a s1 => wpAny M A (call (.type T) ([] ++ a.pos) a.kw) Q E s1) E s := evalArgs_kwB hall h
  refine wpAny_bind (wpAny_holding (thn h2 fun a s3 h3 => wpAny_bind (wpAny_standAt ?_)))
  simp only [hp, hkw, Bool.or_false]
  refine wpAny_bind (wpAny_pure ?_)
  exact wpAny_bind (thn h3 fun r s4 hr => wpAny_bind (wpAny_holding (wpAny_point (wpAny_pure hr))))
end
section
variable {X : Cx}
def iEnum (K : PySem.W.Frag) (tl tp : TE) : TI := fun σ H R => tl σ H fun x H1 => tp σ H1 fun y H2 => ∃ (a : Addr) (p : Nat), x = .ref a ∧ y = .int p ∧ (∃ xs, SqL K H2 a xs) ∧ p < 2 ^ 62 ∧ R (Ite K a p) H2
theorem fits_en {p : Nat} (h : p < 2 ^ 62) : (!Builtin.SmallTypes.fitsIndex (p : Int)) = false := by
  have h1 : (p : Int) < 2 ^ 62 := by exact_mod_cast h
  unfold Builtin.SmallTypes.fitsIndex
  simp
  omega
theorem pi_enum {l st : Expr} {tl tp : TE} {es : List Expr} {k : Nat} {tpos p kp pos : Pos} (hg : Gl X "enumerate") (hm : X.mg "enumerate" = none) (hl : PE X l tl) (hst : PE X st tp)
    (he : starEach [l] X.env = [(false, eval l X.env)] := by rfl) : PI X (.Tuple es k tpos) (.Call (.Name "enumerate" p) [l] [⟨some "start", st, kp⟩] pos) (iEnum X.K tl tp) := by
  intro pins s σ H R I h
  refine wpAny_Call_Name_kw (ld_blt I hg hm bt_enumerate (en_with ?_ he))
  have hA : PA X [l] (tCons tl tNil) := pa_cons hl pa_nil he
  refine thn (hA pos pins s σ H (fun vs H1 => match vs with
    | [x] => tp σ H1 fun y H2 => ∃ (a : Addr) (p : Nat), x = .ref a ∧ y = .int p ∧ (∃ xs, SqL X.K H2 a xs) ∧ p < 2 ^ 62 ∧ R (Ite X.K a p) H2
    | _ => False) I h) fun us s1 ⟨vs, H1, I1, r1, q1⟩ => ?_
  match vs, r1, q1 with
  | [x], .cons (b := u) ra .nil, q1 =>
    refine kws_cons (thn (hst pins s1 σ H1 _ I1 q1) fun v s2 ⟨y, H2, I2, r2, q2⟩ => kws_nil ?_)
    obtain ⟨a, p, e1, e2, ⟨xs, hq⟩, hp, qq⟩ := q2
    subst e1 e2
    cases ra
    obtain ⟨t, rfl⟩ := r2
    obtain ⟨its, rv, pl, hz⟩ := I2.list hq
    have hlt : a < s2.heap.objs.size := by
      obtain ⟨o, e, _⟩ := pl.isList
      exact Heap.lt_size e
    refine en_call pl.isList (fits_en hp) fun h' hen hit hsz hk => wpAny_pyIter_enum hen ?_
    refine ⟨s2.heap.objs.size + 1, [s2.heap.objs.size + 1, s2.heap.objs.size], _, _, H2, rfl, I2.kept (t' := s2.toks) hk, turn_enum a _ _ p (Nat.succ_ne_self _) (Nat.ne_of_lt (Nat.lt_succ_of_lt hlt)) (Nat.ne_of_lt hlt), ⟨⟨.none, hen⟩, hit⟩, fun b hb => ?_, qq⟩
    rcases List.mem_cons.mp hb with rfl | hb
    · exact I2.fpOk (Nat.le_succ _) (I2.hok.fresh (Nat.le_succ _))
    · have eb : b = s2.heap.objs.size := by simpa using hb
      subst eb
      exact I2.fpOk (Nat.le_refl _) (I2.hok.fresh (Nat.le_refl _))
theorem for_enum {K : PySem.W.Frag} {a : Addr} {p : Nat} {xs : List V} {g : TG} {tb : TS} {D : Ends} {σ : St} {H : Hp} (Pv : Nat → St → Hp → Prop) (h0 : Pv 0 σ H) (hl : ∀ i σ H, i ≤ xs.length → Pv i σ H → SqL K H a xs)
    (hs : ∀ i x t σ H, xs[i]? = some x → Pv i σ H → H t = none → g (.ref t) σ (upd H t (.tup [.int ((p + i : Nat) : Int), x])) fun σ2 H2 => tb { D with nx := Pv (i + 1), ct := Pv (i + 1), bk := D.nx } σ2 H2) (hd : ∀ σ H, Pv xs.length σ H → D.nx σ H) :
    ∃ W : Nat → Nat → St → Hp → Prop, (∃ m, W 0 m σ H) ∧ ∀ i m σ H, W i m σ H →
      ((Ite K a p).stop i H ∧ D.nx σ H) ∨ ((Ite K a p).go i H ∧ ∃ N : St → Hp → Prop, (∀ σ' H', N σ' H' → ∃ m', m' < m ∧ W (i + 1) m' σ' H') ∧ ∀ x H', (Ite K a p).yld i H x H' → g x σ H' fun σ2 H2 => tb { D with nx := N, ct := N, bk := D.nx } σ2 H2) := by
  refine ⟨fun i m σ H => m + i = xs.length ∧ Pv i σ H, ⟨xs.length, rfl, h0⟩, ?_⟩
  rintro i m σ H ⟨hm, pv⟩
  have q := hl i σ H (by omega) pv
  cases m with
  | zero =>
    have ei : i = xs.length := by omega
    subst ei
    exact .inl ⟨⟨xs, q, rfl⟩, hd σ H pv⟩
  | succ m =>
    have hlt : i < xs.length := by omega
    refine .inr ⟨⟨xs, xs[i], q, by simp [hlt]⟩, Pv (i + 1), fun σ' H' p' => ⟨m, by omega, by omega, p'⟩, fun x H' y => ?_⟩
    obtain ⟨t, v, hn, rfl, hv, rfl⟩ := y
    exact hs i v t σ H (hv xs q) pv hn
end
end L2
namespace L2
open PySem PySem.Spec PyProof.Rows
inductive D where
  | non | bl (b : Bool) | int (i : Int) | str (x : Str) | lst (ds : List D) | tup (ds : List D)
mutual
def deq : D → D → Bool
  | .non, .non => true
  | .bl a, .bl b => a == b
  | .bl a, .int b => (if a then 1 else 0) == b
  | .int a, .bl b => a == (if b then 1 else 0)
  | .int a, .int b => a == b
  | .str a, .str b => a == b
  | .lst a, .lst b => deqs a b
  | .tup a, .tup b => deqs a b
  | _, _ => false
def deqs : List D → List D → Bool
  | [], [] => true
  | a :: x, b :: y => deq a b && deqs x y
  | _, _ => false
end
mutual
def D.dep : D → Nat
  | .lst a => deps a + 1
  | .tup a => deps a + 1
  | _ => 0
def deps : List D → Nat
  | [] => 0
  | a :: x => max a.dep (deps x)
end
mutual
theorem deq_refl : ∀ d : D, deq d d = true
  | .non => by simp [deq]
  | .bl b => by simp [deq]
  | .int i => by simp [deq]
  | .str x => by simp [deq]
  | .lst ds => by rw [deq]; exact deqs_refl ds
  | .tup ds => by rw [deq]; exact deqs_refl ds
theorem deqs_refl : ∀ ds : List D, deqs ds ds = true
  | [] => by simp [deqs]
  | d :: ds => by rw [deqs, deq_refl d, deqs_refl ds]; rfl
end
theorem deps_le : ∀ {ds : List D} {i : Nat} {d : D}, ds[i]? = some d → d.dep ≤ deps ds
  | [], _, _, h => by simp at h
  | e :: ds, 0, d, h => by
    simp at h
    subst h
    rw [deps]
    exact Nat.le_max_left _ _
  | e :: ds, i + 1, d, h => by
    rw [deps]
    exact Nat.le_trans (deps_le (i := i) (by simpa using h)) (Nat.le_max_right _ _)
theorem deqs_len : ∀ {ds es : List D}, ds.length ≠ es.length → deqs ds es = false
  | [], [], h => absurd rfl h
  | [], _ :: _, _ => by simp [deqs]
  | _ :: _, [], _ => by simp [deqs]
  | d :: ds, e :: es, h => by rw [deqs, deqs_len (by simpa using h), Bool.and_false]
theorem deqs_all : ∀ {ds es : List D}, ds.length = es.length → deqs ds es = (List.range ds.length).all fun j => deq (ds.getD j .non) (es.getD j .non)
  | [], [], _ => by simp [deqs]
  | [], _ :: _, h => by simp at h
  | _ :: _, [], h => by simp at h
  | d :: ds, e :: es, h => by
    rw [deqs, deqs_all (by simpa using h), List.length_cons, List.range_succ_eq_map, List.all_cons, List.all_map]
    rfl
inductive IsD (K : PySem.W.Frag) (H : Hp) : V → D → Prop where
  | non : IsD K H .non .non
  | bl (b : Bool) : IsD K H (.bl b) (.bl b)
  | int (i : Int) : IsD K H (.int i) (.int i)
  | str (x : Str) : IsD K H (.str x) (.str x)
  | lst {a : Addr} {xs : List V} {ds : List D} (h : SqL K H a xs) (hl : xs.length = ds.length) (hi : ∀ (i : Nat) (x : V) (d : D), xs[i]? = some x → ds[i]? = some d → IsD K H x d) : IsD K H (.ref a) (.lst ds)
  | tup {a : Addr} {xs : List V} {ds : List D} (h : SqT K H a xs) (hl : xs.length = ds.length) (hi : ∀ (i : Nat) (x : V) (d : D), xs[i]? = some x → ds[i]? = some d → IsD K H x d) : IsD K H (.ref a) (.tup ds)
section
variable {X : Cx} {pins : List (Addr × Obj)} {s : Shared} {σ : St} {H : Hp}
theorem Inv.not_both (I : Inv X pins σ H s) {a : Addr} {xs ys : List V} (h : SqL X.K H a xs) (h' : SqT X.K H a ys) : False := by
  obtain ⟨its, _, p, _⟩ := I.list h
  obtain ⟨its2, _, q, _⟩ := I.tuple h'
  obtain ⟨o, e, c, _⟩ := p.isList
  obtain ⟨o2, e2, c2, _⟩ := q
  rw [e] at e2
  cases e2
  rw [c] at c2
  injection c2 with h3
  exact absurd h3 (by decide)
theorem ext_D {xs : List V} {ds es : List D} (hl : xs.length = ds.length) (hl2 : xs.length = es.length) (h : ∀ (i : Nat) x d e, xs[i]? = some x → ds[i]? = some d → es[i]? = some e → d = e) : ds = es := by
  refine List.ext_getElem (by omega) fun i h1 h2 => ?_
  exact h i _ _ _ (List.getElem?_eq_getElem (by omega)) (List.getElem?_eq_getElem h1) (List.getElem?_eq_getElem h2)
theorem IsD.one (I : Inv X pins σ H s) {x : V} {d : D} (h : IsD X.K H x d) : ∀ {e : D}, IsD X.K H x e → d = e := by
  induction h with
  | non => intro e h; cases h; rfl
  | bl b => intro e h; cases h; rfl
  | int b => intro e h; cases h; rfl
  | str b => intro e h; cases h; rfl
  | lst q hl hi ih =>
    intro e h
    cases h with
    | lst q2 hl2 hi2 =>
      cases I.list_inj q q2
      rw [ext_D hl hl2 fun i x d e h1 h2 h3 => ih i x d h1 h2 (hi2 i x e h1 h3)]
    | tup q2 hl2 hi2 => exact (I.not_both q q2).elim
  | tup q hl hi ih =>
    intro e h
    cases h with
    | tup q2 hl2 hi2 =>
      cases I.tuple_inj q q2
      rw [ext_D hl hl2 fun i x d e h1 h2 h3 => ih i x d h1 h2 (hi2 i x e h1 h3)]
    | lst q2 hl2 hi2 => exact (I.not_both q2 q).elim
theorem getD_of {ds : List D} {i : Nat} (h : i < ds.length) : ds[i]? = some (ds.getD i .non) := by simp [List.getD, h]
theorem items_D {xs ys : List V} {ds es : List D} {its its2 : List Value} {A : Around} (r1 : Vals xs its) (r2 : Vals ys its2) (hl : xs.length = ds.length) (hl2 : ys.length = es.length)
    (ih : ∀ (i : Nat) x d, xs[i]? = some x → ds[i]? = some d → ∀ {y : V} {e : D} {u v : Value}, IsD X.K H y e → RelV x u → RelV y v → SeqAt.EqAt A s u v (deq d e)) (hi2 : ∀ (i : Nat) y e, ys[i]? = some y → es[i]? = some e → IsD X.K H y e) :
    ∀ j (h1 : j < its.toArray.size) (h2 : j < its2.toArray.size), SeqAt.EqAt A s its.toArray[j] its2.toArray[j] (deq (ds.getD j .non) (es.getD j .non)) := by
  intro j h1 h2
  have l1 := r1.length
  have l2 := r2.length
  have j1 : j < xs.length := by simp at h1; omega
  have j2 : j < ys.length := by simp at h2; omega
  obtain ⟨u1, e1, q1⟩ := r1.get (List.getElem?_eq_getElem j1)
  obtain ⟨u2, e2, q2⟩ := r2.get (List.getElem?_eq_getElem j2)
  have i1 : its.toArray[j] = u1 := by
    obtain ⟨_, e⟩ := List.getElem?_eq_some_iff.mp e1
    simpa using e
  have i2 : its2.toArray[j] = u2 := by
    obtain ⟨_, e⟩ := List.getElem?_eq_some_iff.mp e2
    simpa using e
  rw [i1, i2]
  exact ih j _ _ (List.getElem?_eq_getElem j1) (getD_of (by omega)) (hi2 j _ _ (List.getElem?_eq_getElem j2) (getD_of (by omega))) q1 q2
theorem tup_D {ds es : List D} : (((List.range (min ds.length es.length)).all fun j => deq (ds.getD j .non) (es.getD j .non)) && (ds.length == es.length)) = deqs ds es := by
  by_cases h : ds.length = es.length
  · rw [deqs_all h, h]
    simp
  · rw [deqs_len h]
    have : (ds.length == es.length) = false := by simpa using h
    rw [this, Bool.and_false]
theorem eqAt_D (I : Inv X pins σ H s) {x : V} {d : D} (h : IsD X.K H x d) : ∀ {A : Around}, A.units + d.dep < cLine → ∀ {y : V} {e : D} {u v : Value}, IsD X.K H y e → RelV x u → RelV y v → SeqAt.EqAt A s u v (deq d e) := by
  induction h with
  | non =>
    intro A hu y e u v h2 r1 r2
    cases r1
    have hu0 : A.units < cLine := Nat.lt_of_le_of_lt (Nat.le_add_right _ _) hu
    cases h2 with
    | non =>
      cases r2
      first | exact SeqAt.EqAt.same _ | (rw [deq] <;> first | exact SeqAt.EqAt.same _ | nofun)
    | bl b2 =>
      cases r2
      first | exact SeqAt.EqAt.none_bool b2 | (rw [deq] <;> first | exact SeqAt.EqAt.none_bool b2 | nofun)
    | int b2 =>
      obtain ⟨t2, rfl⟩ := r2
      first | exact SeqAt.EqAt.none_int b2 t2 | (rw [deq] <;> first | exact SeqAt.EqAt.none_int b2 t2 | nofun)
    | str b2 =>
      obtain ⟨t2, rfl⟩ := r2
      first | exact SeqAt.EqAt.none_str b2 t2 | (rw [deq] <;> first | exact SeqAt.EqAt.none_str b2 t2 | nofun)
    | @lst a2 xs2 ds2 q2 l2 i2 =>
      cases r2
      obtain ⟨its2, v2, p2, z2⟩ := I.list q2
      first | exact SeqAt.EqAt.none_list p2.isList hu0 | (rw [deq] <;> first | exact SeqAt.EqAt.none_list p2.isList hu0 | nofun)
    | @tup a2 xs2 ds2 q2 l2 i2 =>
      cases r2
      obtain ⟨its2, v2, p2, z2⟩ := I.tuple q2
      first | exact SeqAt.EqAt.none_tuple p2 hu0 | (rw [deq] <;> first | exact SeqAt.EqAt.none_tuple p2 hu0 | nofun)
  | bl b1 =>
    intro A hu y e u v h2 r1 r2
    cases r1
    have hu0 : A.units < cLine := Nat.lt_of_le_of_lt (Nat.le_add_right _ _) hu
    cases h2 with
    | non =>
      cases r2
      first | exact SeqAt.EqAt.bool_none b1 | (rw [deq] <;> first | exact SeqAt.EqAt.bool_none b1 | nofun)
    | bl b2 =>
      cases r2
      first | exact SeqAt.EqAt.bool_bool b1 b2 | (rw [deq] <;> first | exact SeqAt.EqAt.bool_bool b1 b2 | nofun)
    | int b2 =>
      obtain ⟨t2, rfl⟩ := r2
      first | exact SeqAt.EqAt.bool_int b1 b2 t2 | (rw [deq] <;> first | exact SeqAt.EqAt.bool_int b1 b2 t2 | nofun)
    | str b2 =>
      obtain ⟨t2, rfl⟩ := r2
      first | exact SeqAt.EqAt.bool_str b1 b2 t2 | (rw [deq] <;> first | exact SeqAt.EqAt.bool_str b1 b2 t2 | nofun)
    | @lst a2 xs2 ds2 q2 l2 i2 =>
      cases r2
      obtain ⟨its2, v2, p2, z2⟩ := I.list q2
      first | exact SeqAt.EqAt.bool_list b1 p2.isList hu0 | (rw [deq] <;> first | exact SeqAt.EqAt.bool_list b1 p2.isList hu0 | nofun)
    | @tup a2 xs2 ds2 q2 l2 i2 =>
      cases r2
      obtain ⟨its2, v2, p2, z2⟩ := I.tuple q2
      first | exact SeqAt.EqAt.bool_tuple b1 p2 hu0 | (rw [deq] <;> first | exact SeqAt.EqAt.bool_tuple b1 p2 hu0 | nofun)
  | int b1 =>
    intro A hu y e u v h2 r1 r2
    obtain ⟨t1, rfl⟩ := r1
    have hu0 : A.units < cLine := Nat.lt_of_le_of_lt (Nat.le_add_right _ _) hu
    cases h2 with
    | non =>
      cases r2
      first | exact SeqAt.EqAt.int_none b1 t1 | (rw [deq] <;> first | exact SeqAt.EqAt.int_none b1 t1 | nofun)
    | bl b2 =>
      cases r2
      first | exact SeqAt.EqAt.int_bool b1 t1 b2 | (rw [deq] <;> first | exact SeqAt.EqAt.int_bool b1 t1 b2 | nofun)
    | int b2 =>
      obtain ⟨t2, rfl⟩ := r2
      first | exact SeqAt.EqAt.int_int b1 t1 b2 t2 | (rw [deq] <;> first | exact SeqAt.EqAt.int_int b1 t1 b2 t2 | nofun)
    | str b2 =>
      obtain ⟨t2, rfl⟩ := r2
      first | exact SeqAt.EqAt.int_str b1 t1 b2 t2 | (rw [deq] <;> first | exact SeqAt.EqAt.int_str b1 t1 b2 t2 | nofun)
    | @lst a2 xs2 ds2 q2 l2 i2 =>
      cases r2
      obtain ⟨its2, v2, p2, z2⟩ := I.list q2
      first | exact SeqAt.EqAt.int_list b1 t1 p2.isList hu0 | (rw [deq] <;> first | exact SeqAt.EqAt.int_list b1 t1 p2.isList hu0 | nofun)
    | @tup a2 xs2 ds2 q2 l2 i2 =>
      cases r2
      obtain ⟨its2, v2, p2, z2⟩ := I.tuple q2
      first | exact SeqAt.EqAt.int_tuple b1 t1 p2 hu0 | (rw [deq] <;> first | exact SeqAt.EqAt.int_tuple b1 t1 p2 hu0 | nofun)
  | str b1 =>
    intro A hu y e u v h2 r1 r2
    obtain ⟨t1, rfl⟩ := r1
    have hu0 : A.units < cLine := Nat.lt_of_le_of_lt (Nat.le_add_right _ _) hu
    cases h2 with
    | non =>
      cases r2
      first | exact SeqAt.EqAt.str_none b1 t1 | (rw [deq] <;> first | exact SeqAt.EqAt.str_none b1 t1 | nofun)
    | bl b2 =>
      cases r2
      first | exact SeqAt.EqAt.str_bool b1 t1 b2 | (rw [deq] <;> first | exact SeqAt.EqAt.str_bool b1 t1 b2 | nofun)
    | int b2 =>
      obtain ⟨t2, rfl⟩ := r2
      first | exact SeqAt.EqAt.str_int b1 t1 b2 t2 | (rw [deq] <;> first | exact SeqAt.EqAt.str_int b1 t1 b2 t2 | nofun)
    | str b2 =>
      obtain ⟨t2, rfl⟩ := r2
      first | exact SeqAt.EqAt.str_str b1 t1 b2 t2 | (rw [deq] <;> first | exact SeqAt.EqAt.str_str b1 t1 b2 t2 | nofun)
    | @lst a2 xs2 ds2 q2 l2 i2 =>
      cases r2
      obtain ⟨its2, v2, p2, z2⟩ := I.list q2
      first | exact SeqAt.EqAt.str_list b1 t1 p2.isList hu0 | (rw [deq] <;> first | exact SeqAt.EqAt.str_list b1 t1 p2.isList hu0 | nofun)
    | @tup a2 xs2 ds2 q2 l2 i2 =>
      cases r2
      obtain ⟨its2, v2, p2, z2⟩ := I.tuple q2
      first | exact SeqAt.EqAt.str_tuple b1 t1 p2 hu0 | (rw [deq] <;> first | exact SeqAt.EqAt.str_tuple b1 t1 p2 hu0 | nofun)
  | @lst a1 xs1 ds1 q1 l1 i1 ih =>
    intro A hu y e u v h2 r1 r2
    cases r1
    have hu0 : A.units < cLine := Nat.lt_of_le_of_lt (Nat.le_add_right _ _) hu
    obtain ⟨its1, v1, p1, z1⟩ := I.list q1
    have n1 : its1.toArray.size = ds1.length := by rw [List.size_toArray, ← v1.length, l1]
    have hu1 : ∀ (i : Nat) (d : D), ds1[i]? = some d → A.in1.units + d.dep < cLine := fun i d h => by
      have e1 := deps_le h
      have e2 : A.units + (deps ds1 + 1) < cLine := by simpa only [D.dep] using hu
      show A.units + 1 + d.dep < cLine
      omega
    cases h2 with
    | non =>
      cases r2
      first | exact SeqAt.EqAt.list_none p1.isList hu0 | (rw [deq] <;> first | exact SeqAt.EqAt.list_none p1.isList hu0 | nofun)
    | bl b2 =>
      cases r2
      first | exact SeqAt.EqAt.list_bool b2 p1.isList hu0 | (rw [deq] <;> first | exact SeqAt.EqAt.list_bool b2 p1.isList hu0 | nofun)
    | int b2 =>
      obtain ⟨t2, rfl⟩ := r2
      first | exact SeqAt.EqAt.list_int b2 t2 p1.isList hu0 | (rw [deq] <;> first | exact SeqAt.EqAt.list_int b2 t2 p1.isList hu0 | nofun)
    | str b2 =>
      obtain ⟨t2, rfl⟩ := r2
      first | exact SeqAt.EqAt.list_str b2 t2 p1.isList hu0 | (rw [deq] <;> first | exact SeqAt.EqAt.list_str b2 t2 p1.isList hu0 | nofun)
    | @lst a2 xs2 ds2 q2 l2 i2 =>
      cases r2
      obtain ⟨its2, v2, p2, z2⟩ := I.list q2
      have n2 : its2.toArray.size = ds2.length := by rw [List.size_toArray, ← v2.length, l2]
      have it := items_D (X := X) (A := A.in1) v1 v2 l1 l2 (fun i x d ha hb => ih i x d ha hb (hu1 i d hb)) i2
      by_cases hne : a1 = a2
      · subst hne
        cases (IsD.lst q1 l1 i1).one I (IsD.lst q2 l2 i2)
        rw [deq_refl]
        exact SeqAt.EqAt.same _
      refine SeqAt.EqAt.of_refs hne ?_
      rw [deq]
      by_cases hlen : its1.toArray.size = its2.toArray.size
      · rw [deqs_all (by omega), ← n1]
        exact SeqAt.RcAt.lists p1.isList p2.isList hlen hu0 it
      · rw [deqs_len (by omega)]
        exact SeqAt.RcAt.lists_lengths p1.isList p2.isList (by simpa using hlen) hu0
    | @tup a2 xs2 ds2 q2 l2 i2 =>
      cases r2
      obtain ⟨its2, v2, p2, z2⟩ := I.tuple q2
      first | exact SeqAt.EqAt.list_tuple p1.isList p2 hu0 | (rw [deq] <;> first | exact SeqAt.EqAt.list_tuple p1.isList p2 hu0 | nofun)
  | @tup a1 xs1 ds1 q1 l1 i1 ih =>
    intro A hu y e u v h2 r1 r2
    cases r1
    have hu0 : A.units < cLine := Nat.lt_of_le_of_lt (Nat.le_add_right _ _) hu
    obtain ⟨its1, v1, p1, z1⟩ := I.tuple q1
    have n1 : its1.toArray.size = ds1.length := by rw [List.size_toArray, ← v1.length, l1]
    have hu1 : ∀ (i : Nat) (d : D), ds1[i]? = some d → A.in1.units + d.dep < cLine := fun i d h => by
      have e1 := deps_le h
      have e2 : A.units + (deps ds1 + 1) < cLine := by simpa only [D.dep] using hu
      show A.units + 1 + d.dep < cLine
      omega
    cases h2 with
    | non =>
      cases r2
      first | exact SeqAt.EqAt.tuple_none p1 hu0 | (rw [deq] <;> first | exact SeqAt.EqAt.tuple_none p1 hu0 | nofun)
    | bl b2 =>
      cases r2
      first | exact SeqAt.EqAt.tuple_bool b2 p1 hu0 | (rw [deq] <;> first | exact SeqAt.EqAt.tuple_bool b2 p1 hu0 | nofun)
    | int b2 =>
      obtain ⟨t2, rfl⟩ := r2
      first | exact SeqAt.EqAt.tuple_int b2 t2 p1 hu0 | (rw [deq] <;> first | exact SeqAt.EqAt.tuple_int b2 t2 p1 hu0 | nofun)
    | str b2 =>
      obtain ⟨t2, rfl⟩ := r2
      first | exact SeqAt.EqAt.tuple_str b2 t2 p1 hu0 | (rw [deq] <;> first | exact SeqAt.EqAt.tuple_str b2 t2 p1 hu0 | nofun)
    | @lst a2 xs2 ds2 q2 l2 i2 =>
      cases r2
      obtain ⟨its2, v2, p2, z2⟩ := I.list q2
      first | exact SeqAt.EqAt.tuple_list p1 p2.isList hu0 | (rw [deq] <;> first | exact SeqAt.EqAt.tuple_list p1 p2.isList hu0 | nofun)
    | @tup a2 xs2 ds2 q2 l2 i2 =>
      cases r2
      obtain ⟨its2, v2, p2, z2⟩ := I.tuple q2
      have n2 : its2.toArray.size = ds2.length := by rw [List.size_toArray, ← v2.length, l2]
      have it := items_D (X := X) (A := A.in1) v1 v2 l1 l2 (fun i x d ha hb => ih i x d ha hb (hu1 i d hb)) i2
      by_cases hne : a1 = a2
      · subst hne
        cases (IsD.tup q1 l1 i1).one I (IsD.tup q2 l2 i2)
        rw [deq_refl]
        exact SeqAt.EqAt.same _
      refine SeqAt.EqAt.of_refs hne ?_
      rw [deq]
      rw [← tup_D, ← n1, ← n2]
      exact SeqAt.RcAt.tuples p1 p2 hu0 it
theorem rcAt_D (I : Inv X pins σ H s) {A : Around} {x y : V} {d e : D} {u v : Value} (h : IsD X.K H x d) (h2 : IsD X.K H y e) (hu : A.units + d.dep < cLine) (r1 : RelV x u) (r2 : RelV y v) : SeqAt.RcAt A s u v (deq d e) := by
  cases h with
  | non =>
    cases r1
    have hu0 : A.units < cLine := Nat.lt_of_le_of_lt (Nat.le_add_right _ _) hu
    cases h2 with
    | non =>
      cases r2
      first | exact SeqAt.RcAt.none_none | (rw [deq] <;> first | exact SeqAt.RcAt.none_none | nofun)
    | bl b2 =>
      cases r2
      first | exact SeqAt.RcAt.none_bool b2 | (rw [deq] <;> first | exact SeqAt.RcAt.none_bool b2 | nofun)
    | int b2 =>
      obtain ⟨t2, rfl⟩ := r2
      first | exact SeqAt.RcAt.none_int b2 t2 | (rw [deq] <;> first | exact SeqAt.RcAt.none_int b2 t2 | nofun)
    | str b2 =>
      obtain ⟨t2, rfl⟩ := r2
      first | exact SeqAt.RcAt.none_str b2 t2 | (rw [deq] <;> first | exact SeqAt.RcAt.none_str b2 t2 | nofun)
    | @lst a2 xs2 ds2 q2 l2 i2 =>
      cases r2
      obtain ⟨its2, v2, p2, z2⟩ := I.list q2
      first | exact SeqAt.RcAt.none_list p2.isList hu0 | (rw [deq] <;> first | exact SeqAt.RcAt.none_list p2.isList hu0 | nofun)
    | @tup a2 xs2 ds2 q2 l2 i2 =>
      cases r2
      obtain ⟨its2, v2, p2, z2⟩ := I.tuple q2
      first | exact SeqAt.RcAt.none_tuple p2 hu0 | (rw [deq] <;> first | exact SeqAt.RcAt.none_tuple p2 hu0 | nofun)
  | bl b1 =>
    cases r1
    have hu0 : A.units < cLine := Nat.lt_of_le_of_lt (Nat.le_add_right _ _) hu
    cases h2 with
    | non =>
      cases r2
      first | exact SeqAt.RcAt.bool_none b1 | (rw [deq] <;> first | exact SeqAt.RcAt.bool_none b1 | nofun)
    | bl b2 =>
      cases r2
      first | exact SeqAt.RcAt.bool_bool b1 b2 | (rw [deq] <;> first | exact SeqAt.RcAt.bool_bool b1 b2 | nofun)
    | int b2 =>
      obtain ⟨t2, rfl⟩ := r2
      first | exact SeqAt.RcAt.bool_int b1 b2 t2 | (rw [deq] <;> first | exact SeqAt.RcAt.bool_int b1 b2 t2 | nofun)
    | str b2 =>
      obtain ⟨t2, rfl⟩ := r2
      first | exact SeqAt.RcAt.bool_str b1 b2 t2 | (rw [deq] <;> first | exact SeqAt.RcAt.bool_str b1 b2 t2 | nofun)
    | @lst a2 xs2 ds2 q2 l2 i2 =>
      cases r2
      obtain ⟨its2, v2, p2, z2⟩ := I.list q2
      first | exact SeqAt.RcAt.bool_list b1 p2.isList hu0 | (rw [deq] <;> first | exact SeqAt.RcAt.bool_list b1 p2.isList hu0 | nofun)
    | @tup a2 xs2 ds2 q2 l2 i2 =>
      cases r2
      obtain ⟨its2, v2, p2, z2⟩ := I.tuple q2
      first | exact SeqAt.RcAt.bool_tuple b1 p2 hu0 | (rw [deq] <;> first | exact SeqAt.RcAt.bool_tuple b1 p2 hu0 | nofun)
  | int b1 =>
    obtain ⟨t1, rfl⟩ := r1
    have hu0 : A.units < cLine := Nat.lt_of_le_of_lt (Nat.le_add_right _ _) hu
    cases h2 with
    | non =>
      cases r2
      first | exact SeqAt.RcAt.int_none b1 t1 | (rw [deq] <;> first | exact SeqAt.RcAt.int_none b1 t1 | nofun)
    | bl b2 =>
      cases r2
      first | exact SeqAt.RcAt.int_bool b1 t1 b2 | (rw [deq] <;> first | exact SeqAt.RcAt.int_bool b1 t1 b2 | nofun)
    | int b2 =>
      obtain ⟨t2, rfl⟩ := r2
      first | exact SeqAt.RcAt.int_int b1 t1 b2 t2 | (rw [deq] <;> first | exact SeqAt.RcAt.int_int b1 t1 b2 t2 | nofun)
    | str b2 =>
      obtain ⟨t2, rfl⟩ := r2
      first | exact SeqAt.RcAt.int_str b1 t1 b2 t2 | (rw [deq] <;> first | exact SeqAt.RcAt.int_str b1 t1 b2 t2 | nofun)
    | @lst a2 xs2 ds2 q2 l2 i2 =>
      cases r2
      obtain ⟨its2, v2, p2, z2⟩ := I.list q2
      first | exact SeqAt.RcAt.int_list b1 t1 p2.isList hu0 | (rw [deq] <;> first | exact SeqAt.RcAt.int_list b1 t1 p2.isList hu0 | nofun)
    | @tup a2 xs2 ds2 q2 l2 i2 =>
      cases r2
      obtain ⟨its2, v2, p2, z2⟩ := I.tuple q2
      first | exact SeqAt.RcAt.int_tuple b1 t1 p2 hu0 | (rw [deq] <;> first | exact SeqAt.RcAt.int_tuple b1 t1 p2 hu0 | nofun)
  | str b1 =>
    obtain ⟨t1, rfl⟩ := r1
    have hu0 : A.units < cLine := Nat.lt_of_le_of_lt (Nat.le_add_right _ _) hu
    cases h2 with
    | non =>
      cases r2
      first | exact SeqAt.RcAt.str_none b1 t1 | (rw [deq] <;> first | exact SeqAt.RcAt.str_none b1 t1 | nofun)
    | bl b2 =>
      cases r2
      first | exact SeqAt.RcAt.str_bool b1 t1 b2 | (rw [deq] <;> first | exact SeqAt.RcAt.str_bool b1 t1 b2 | nofun)
    | int b2 =>
      obtain ⟨t2, rfl⟩ := r2
      first | exact SeqAt.RcAt.str_int b1 t1 b2 t2 | (rw [deq] <;> first | exact SeqAt.RcAt.str_int b1 t1 b2 t2 | nofun)
    | str b2 =>
      obtain ⟨t2, rfl⟩ := r2
      first | exact SeqAt.RcAt.str_str b1 t1 b2 t2 | (rw [deq] <;> first | exact SeqAt.RcAt.str_str b1 t1 b2 t2 | nofun)
    | @lst a2 xs2 ds2 q2 l2 i2 =>
      cases r2
      obtain ⟨its2, v2, p2, z2⟩ := I.list q2
      first | exact SeqAt.RcAt.str_list b1 t1 p2.isList hu0 | (rw [deq] <;> first | exact SeqAt.RcAt.str_list b1 t1 p2.isList hu0 | nofun)
    | @tup a2 xs2 ds2 q2 l2 i2 =>
      cases r2
      obtain ⟨its2, v2, p2, z2⟩ := I.tuple q2
      first | exact SeqAt.RcAt.str_tuple b1 t1 p2 hu0 | (rw [deq] <;> first | exact SeqAt.RcAt.str_tuple b1 t1 p2 hu0 | nofun)
  | @lst a1 xs1 ds1 q1 l1 i1 =>
    cases r1
    have hu0 : A.units < cLine := Nat.lt_of_le_of_lt (Nat.le_add_right _ _) hu
    obtain ⟨its1, v1, p1, z1⟩ := I.list q1
    have n1 : its1.toArray.size = ds1.length := by rw [List.size_toArray, ← v1.length, l1]
    have hu1 : ∀ (i : Nat) (d : D), ds1[i]? = some d → A.in1.units + d.dep < cLine := fun i d h => by
      have e1 := deps_le h
      have e2 : A.units + (deps ds1 + 1) < cLine := by simpa only [D.dep] using hu
      show A.units + 1 + d.dep < cLine
      omega
    cases h2 with
    | non =>
      cases r2
      first | exact SeqAt.RcAt.list_none p1.isList hu0 | (rw [deq] <;> first | exact SeqAt.RcAt.list_none p1.isList hu0 | nofun)
    | bl b2 =>
      cases r2
      first | exact SeqAt.RcAt.list_bool b2 p1.isList hu0 | (rw [deq] <;> first | exact SeqAt.RcAt.list_bool b2 p1.isList hu0 | nofun)
    | int b2 =>
      obtain ⟨t2, rfl⟩ := r2
      first | exact SeqAt.RcAt.list_int b2 t2 p1.isList hu0 | (rw [deq] <;> first | exact SeqAt.RcAt.list_int b2 t2 p1.isList hu0 | nofun)
    | str b2 =>
      obtain ⟨t2, rfl⟩ := r2
      first | exact SeqAt.RcAt.list_str b2 t2 p1.isList hu0 | (rw [deq] <;> first | exact SeqAt.RcAt.list_str b2 t2 p1.isList hu0 | nofun)
    | @lst a2 xs2 ds2 q2 l2 i2 =>
      cases r2
      obtain ⟨its2, v2, p2, z2⟩ := I.list q2
      have n2 : its2.toArray.size = ds2.length := by rw [List.size_toArray, ← v2.length, l2]
      have it := items_D (X := X) (A := A.in1) v1 v2 l1 l2 (fun i x d ha hb => eqAt_D I (i1 i x d ha hb) (hu1 i d hb)) i2
      rw [deq]
      by_cases hlen : its1.toArray.size = its2.toArray.size
      · rw [deqs_all (by omega), ← n1]
        exact SeqAt.RcAt.lists p1.isList p2.isList hlen hu0 it
      · rw [deqs_len (by omega)]
        exact SeqAt.RcAt.lists_lengths p1.isList p2.isList (by simpa using hlen) hu0
    | @tup a2 xs2 ds2 q2 l2 i2 =>
      cases r2
      obtain ⟨its2, v2, p2, z2⟩ := I.tuple q2
      first | exact SeqAt.RcAt.list_tuple p1.isList p2 hu0 | (rw [deq] <;> first | exact SeqAt.RcAt.list_tuple p1.isList p2 hu0 | nofun)
  | @tup a1 xs1 ds1 q1 l1 i1 =>
    cases r1
    have hu0 : A.units < cLine := Nat.lt_of_le_of_lt (Nat.le_add_right _ _) hu
    obtain ⟨its1, v1, p1, z1⟩ := I.tuple q1
    have n1 : its1.toArray.size = ds1.length := by rw [List.size_toArray, ← v1.length, l1]
    have hu1 : ∀ (i : Nat) (d : D), ds1[i]? = some d → A.in1.units + d.dep < cLine := fun i d h => by
      have e1 := deps_le h
      have e2 : A.units + (deps ds1 + 1) < cLine := by simpa only [D.dep] using hu
      show A.units + 1 + d.dep < cLine
      omega
    cases h2 with
    | non =>
      cases r2
      first | exact SeqAt.RcAt.tuple_none p1 hu0 | (rw [deq] <;> first | exact SeqAt.RcAt.tuple_none p1 hu0 | nofun)
    | bl b2 =>
      cases r2
      first | exact SeqAt.RcAt.tuple_bool b2 p1 hu0 | (rw [deq] <;> first | exact SeqAt.RcAt.tuple_bool b2 p1 hu0 | nofun)
    | int b2 =>
      obtain ⟨t2, rfl⟩ := r2
      first | exact SeqAt.RcAt.tuple_int b2 t2 p1 hu0 | (rw [deq] <;> first | exact SeqAt.RcAt.tuple_int b2 t2 p1 hu0 | nofun)
    | str b2 =>
      obtain ⟨t2, rfl⟩ := r2
      first | exact SeqAt.RcAt.tuple_str b2 t2 p1 hu0 | (rw [deq] <;> first | exact SeqAt.RcAt.tuple_str b2 t2 p1 hu0 | nofun)
    | @lst a2 xs2 ds2 q2 l2 i2 =>
      cases r2
      obtain ⟨its2, v2, p2, z2⟩ := I.list q2
      first | exact SeqAt.RcAt.tuple_list p1 p2.isList hu0 | (rw [deq] <;> first | exact SeqAt.RcAt.tuple_list p1 p2.isList hu0 | nofun)
    | @tup a2 xs2 ds2 q2 l2 i2 =>
      cases r2
      obtain ⟨its2, v2, p2, z2⟩ := I.tuple q2
      have n2 : its2.toArray.size = ds2.length := by rw [List.size_toArray, ← v2.length, l2]
      have it := items_D (X := X) (A := A.in1) v1 v2 l1 l2 (fun i x d ha hb => eqAt_D I (i1 i x d ha hb) (hu1 i d hb)) i2
      rw [deq]
      rw [← tup_D, ← n1, ← n2]
      exact SeqAt.RcAt.tuples p1 p2 hu0 it
theorem rcNeAt_D (I : Inv X pins σ H s) {A : Around} {x y : V} {d e : D} {u v : Value} (h : IsD X.K H x d) (h2 : IsD X.K H y e) (hu : A.units + d.dep < cLine) (r1 : RelV x u) (r2 : RelV y v) : SeqAt.RcNeAt A s u v (!deq d e) := by
  cases h with
  | non =>
    cases r1
    have hu0 : A.units < cLine := Nat.lt_of_le_of_lt (Nat.le_add_right _ _) hu
    cases h2 with
    | non =>
      cases r2
      first | exact SeqAt.RcNeAt.none_none | (rw [deq] <;> first | exact SeqAt.RcNeAt.none_none | nofun)
    | bl b2 =>
      cases r2
      first | exact SeqAt.RcNeAt.none_bool b2 | (rw [deq] <;> first | exact SeqAt.RcNeAt.none_bool b2 | nofun)
    | int b2 =>
      obtain ⟨t2, rfl⟩ := r2
      first | exact SeqAt.RcNeAt.none_int b2 t2 | (rw [deq] <;> first | exact SeqAt.RcNeAt.none_int b2 t2 | nofun)
    | str b2 =>
      obtain ⟨t2, rfl⟩ := r2
      first | exact SeqAt.RcNeAt.none_str b2 t2 | (rw [deq] <;> first | exact SeqAt.RcNeAt.none_str b2 t2 | nofun)
    | @lst a2 xs2 ds2 q2 l2 i2 =>
      cases r2
      obtain ⟨its2, v2, p2, z2⟩ := I.list q2
      first | exact SeqAt.RcNeAt.none_list p2.isList hu0 | (rw [deq] <;> first | exact SeqAt.RcNeAt.none_list p2.isList hu0 | nofun)
    | @tup a2 xs2 ds2 q2 l2 i2 =>
      cases r2
      obtain ⟨its2, v2, p2, z2⟩ := I.tuple q2
      first | exact SeqAt.RcNeAt.none_tuple p2 hu0 | (rw [deq] <;> first | exact SeqAt.RcNeAt.none_tuple p2 hu0 | nofun)
  | bl b1 =>
    cases r1
    have hu0 : A.units < cLine := Nat.lt_of_le_of_lt (Nat.le_add_right _ _) hu
    cases h2 with
    | non =>
      cases r2
      first | exact SeqAt.RcNeAt.bool_none b1 | (rw [deq] <;> first | exact SeqAt.RcNeAt.bool_none b1 | nofun)
    | bl b2 =>
      cases r2
      first | exact SeqAt.RcNeAt.bool_bool b1 b2 | (rw [deq] <;> first | exact SeqAt.RcNeAt.bool_bool b1 b2 | nofun)
    | int b2 =>
      obtain ⟨t2, rfl⟩ := r2
      first | exact SeqAt.RcNeAt.bool_int b1 b2 t2 | (rw [deq] <;> first | exact SeqAt.RcNeAt.bool_int b1 b2 t2 | nofun)
    | str b2 =>
      obtain ⟨t2, rfl⟩ := r2
      first | exact SeqAt.RcNeAt.bool_str b1 b2 t2 | (rw [deq] <;> first | exact SeqAt.RcNeAt.bool_str b1 b2 t2 | nofun)
    | @lst a2 xs2 ds2 q2 l2 i2 =>
      cases r2
      obtain ⟨its2, v2, p2, z2⟩ := I.list q2
      first | exact SeqAt.RcNeAt.bool_list b1 p2.isList hu0 | (rw [deq] <;> first | exact SeqAt.RcNeAt.bool_list b1 p2.isList hu0 | nofun)
    | @tup a2 xs2 ds2 q2 l2 i2 =>
      cases r2
      obtain ⟨its2, v2, p2, z2⟩ := I.tuple q2
      first | exact SeqAt.RcNeAt.bool_tuple b1 p2 hu0 | (rw [deq] <;> first | exact SeqAt.RcNeAt.bool_tuple b1 p2 hu0 | nofun)
  | int b1 =>
    obtain ⟨t1, rfl⟩ := r1
    have hu0 : A.units < cLine := Nat.lt_of_le_of_lt (Nat.le_add_right _ _) hu
    cases h2 with
    | non =>
      cases r2
      first | exact SeqAt.RcNeAt.int_none b1 t1 | (rw [deq] <;> first | exact SeqAt.RcNeAt.int_none b1 t1 | nofun)
    | bl b2 =>
      cases r2
      first | exact SeqAt.RcNeAt.int_bool b1 t1 b2 | (rw [deq] <;> first | exact SeqAt.RcNeAt.int_bool b1 t1 b2 | nofun)
    | int b2 =>
      obtain ⟨t2, rfl⟩ := r2
      first | exact SeqAt.RcNeAt.int_int b1 t1 b2 t2 | (rw [deq] <;> first | exact SeqAt.RcNeAt.int_int b1 t1 b2 t2 | nofun)
    | str b2 =>
      obtain ⟨t2, rfl⟩ := r2
      first | exact SeqAt.RcNeAt.int_str b1 t1 b2 t2 | (rw [deq] <;> first | exact SeqAt.RcNeAt.int_str b1 t1 b2 t2 | nofun)
    | @lst a2 xs2 ds2 q2 l2 i2 =>
      cases r2
      obtain ⟨its2, v2, p2, z2⟩ := I.list q2
      first | exact SeqAt.RcNeAt.int_list b1 t1 p2.isList hu0 | (rw [deq] <;> first | exact SeqAt.RcNeAt.int_list b1 t1 p2.isList hu0 | nofun)
    | @tup a2 xs2 ds2 q2 l2 i2 =>
      cases r2
      obtain ⟨its2, v2, p2, z2⟩ := I.tuple q2
      first | exact SeqAt.RcNeAt.int_tuple b1 t1 p2 hu0 | (rw [deq] <;> first | exact SeqAt.RcNeAt.int_tuple b1 t1 p2 hu0 | nofun)
  | str b1 =>
    obtain ⟨t1, rfl⟩ := r1
    have hu0 : A.units < cLine := Nat.lt_of_le_of_lt (Nat.le_add_right _ _) hu
    cases h2 with
    | non =>
      cases r2
      first | exact SeqAt.RcNeAt.str_none b1 t1 | (rw [deq] <;> first | exact SeqAt.RcNeAt.str_none b1 t1 | nofun)
    | bl b2 =>
      cases r2
      first | exact SeqAt.RcNeAt.str_bool b1 t1 b2 | (rw [deq] <;> first | exact SeqAt.RcNeAt.str_bool b1 t1 b2 | nofun)
    | int b2 =>
      obtain ⟨t2, rfl⟩ := r2
      first | exact SeqAt.RcNeAt.str_int b1 t1 b2 t2 | (rw [deq] <;> first | exact SeqAt.RcNeAt.str_int b1 t1 b2 t2 | nofun)
    | str b2 =>
      obtain ⟨t2, rfl⟩ := r2
      first | exact SeqAt.RcNeAt.str_str b1 t1 b2 t2 | (rw [deq] <;> first | exact SeqAt.RcNeAt.str_str b1 t1 b2 t2 | nofun)
    | @lst a2 xs2 ds2 q2 l2 i2 =>
      cases r2
      obtain ⟨its2, v2, p2, z2⟩ := I.list q2
      first | exact SeqAt.RcNeAt.str_list b1 t1 p2.isList hu0 | (rw [deq] <;> first | exact SeqAt.RcNeAt.str_list b1 t1 p2.isList hu0 | nofun)
    | @tup a2 xs2 ds2 q2 l2 i2 =>
      cases r2
      obtain ⟨its2, v2, p2, z2⟩ := I.tuple q2
      first | exact SeqAt.RcNeAt.str_tuple b1 t1 p2 hu0 | (rw [deq] <;> first | exact SeqAt.RcNeAt.str_tuple b1 t1 p2 hu0 | nofun)
  | @lst a1 xs1 ds1 q1 l1 i1 =>
    cases r1
    have hu0 : A.units < cLine := Nat.lt_of_le_of_lt (Nat.le_add_right _ _) hu
    obtain ⟨its1, v1, p1, z1⟩ := I.list q1
    have n1 : its1.toArray.size = ds1.length := by rw [List.size_toArray, ← v1.length, l1]
    have hu1 : ∀ (i : Nat) (d : D), ds1[i]? = some d → A.in1.units + d.dep < cLine := fun i d h => by
      have e1 := deps_le h
      have e2 : A.units + (deps ds1 + 1) < cLine := by simpa only [D.dep] using hu
      show A.units + 1 + d.dep < cLine
      omega
    cases h2 with
    | non =>
      cases r2
      first | exact SeqAt.RcNeAt.list_none p1.isList hu0 | (rw [deq] <;> first | exact SeqAt.RcNeAt.list_none p1.isList hu0 | nofun)
    | bl b2 =>
      cases r2
      first | exact SeqAt.RcNeAt.list_bool b2 p1.isList hu0 | (rw [deq] <;> first | exact SeqAt.RcNeAt.list_bool b2 p1.isList hu0 | nofun)
    | int b2 =>
      obtain ⟨t2, rfl⟩ := r2
      first | exact SeqAt.RcNeAt.list_int b2 t2 p1.isList hu0 | (rw [deq] <;> first | exact SeqAt.RcNeAt.list_int b2 t2 p1.isList hu0 | nofun)
    | str b2 =>
      obtain ⟨t2, rfl⟩ := r2
      first | exact SeqAt.RcNeAt.list_str b2 t2 p1.isList hu0 | (rw [deq] <;> first | exact SeqAt.RcNeAt.list_str b2 t2 p1.isList hu0 | nofun)
    | @lst a2 xs2 ds2 q2 l2 i2 =>
      cases r2
      obtain ⟨its2, v2, p2, z2⟩ := I.list q2
      have n2 : its2.toArray.size = ds2.length := by rw [List.size_toArray, ← v2.length, l2]
      have it := items_D (X := X) (A := A.in1) v1 v2 l1 l2 (fun i x d ha hb => eqAt_D I (i1 i x d ha hb) (hu1 i d hb)) i2
      rw [deq]
      by_cases hlen : its1.toArray.size = its2.toArray.size
      · rw [deqs_all (by omega), ← n1]
        exact SeqAt.RcNeAt.lists p1.isList p2.isList hlen hu0 it
      · rw [deqs_len (by omega)]
        exact SeqAt.RcNeAt.lists_lengths p1.isList p2.isList (by simpa using hlen) hu0
    | @tup a2 xs2 ds2 q2 l2 i2 =>
      cases r2
      obtain ⟨its2, v2, p2, z2⟩ := I.tuple q2
      first | exact SeqAt.RcNeAt.list_tuple p1.isList p2 hu0 | (rw [deq] <;> first | exact SeqAt.RcNeAt.list_tuple p1.isList p2 hu0 | nofun)
  | @tup a1 xs1 ds1 q1 l1 i1 =>
    cases r1
    have hu0 : A.units < cLine := Nat.lt_of_le_of_lt (Nat.le_add_right _ _) hu
    obtain ⟨its1, v1, p1, z1⟩ := I.tuple q1
    have n1 : its1.toArray.size = ds1.length := by rw [List.size_toArray, ← v1.length, l1]
    have hu1 : ∀ (i : Nat) (d : D), ds1[i]? = some d → A.in1.units + d.dep < cLine := fun i d h => by
      have e1 := deps_le h
      have e2 : A.units + (deps ds1 + 1) < cLine := by simpa only [D.dep] using hu
      show A.units + 1 + d.dep < cLine
      omega
    cases h2 with
    | non =>
      cases r2
      first | exact SeqAt.RcNeAt.tuple_none p1 hu0 | (rw [deq] <;> first | exact SeqAt.RcNeAt.tuple_none p1 hu0 | nofun)
    | bl b2 =>
      cases r2
      first | exact SeqAt.RcNeAt.tuple_bool b2 p1 hu0 | (rw [deq] <;> first | exact SeqAt.RcNeAt.tuple_bool b2 p1 hu0 | nofun)
    | int b2 =>
      obtain ⟨t2, rfl⟩ := r2
      first | exact SeqAt.RcNeAt.tuple_int b2 t2 p1 hu0 | (rw [deq] <;> first | exact SeqAt.RcNeAt.tuple_int b2 t2 p1 hu0 | nofun)
    | str b2 =>
      obtain ⟨t2, rfl⟩ := r2
      first | exact SeqAt.RcNeAt.tuple_str b2 t2 p1 hu0 | (rw [deq] <;> first | exact SeqAt.RcNeAt.tuple_str b2 t2 p1 hu0 | nofun)
    | @lst a2 xs2 ds2 q2 l2 i2 =>
      cases r2
      obtain ⟨its2, v2, p2, z2⟩ := I.list q2
      first | exact SeqAt.RcNeAt.tuple_list p1 p2.isList hu0 | (rw [deq] <;> first | exact SeqAt.RcNeAt.tuple_list p1 p2.isList hu0 | nofun)
    | @tup a2 xs2 ds2 q2 l2 i2 =>
      cases r2
      obtain ⟨its2, v2, p2, z2⟩ := I.tuple q2
      have n2 : its2.toArray.size = ds2.length := by rw [List.size_toArray, ← v2.length, l2]
      have it := items_D (X := X) (A := A.in1) v1 v2 l1 l2 (fun i x d ha hb => eqAt_D I (i1 i x d ha hb) (hu1 i d hb)) i2
      rw [deq]
      rw [← tup_D, ← n1, ← n2]
      exact SeqAt.RcNeAt.tuples p1 p2 hu0 it
def rEqD (K : PySem.W.Frag) (neg : Bool) : R2 := fun x y H Q => ∃ d e, IsD K H x d ∧ IsD K H y e ∧ d.dep ≤ 60 ∧ Q (.bl (if neg = true then !deq d e else deq d e)) H
theorem op_eqD (hu : X.A.units + 64 < cLine) : OpR X (compareOp .Eq) (rEqD X.K false) := by
  intro pins s σ H x y v u Q I rx ry h
  obtain ⟨d, e, h1, h2, hd, q⟩ := h
  exact rcAt_D I h1 h2 (by omega) rx ry _ _ _ _ (fin_bl I q rfl)
theorem op_neD (hu : X.A.units + 64 < cLine) : OpR X (compareOp .NotEq) (rEqD X.K true) := by
  intro pins s σ H x y v u Q I rx ry h
  obtain ⟨d, e, h1, h2, hd, q⟩ := h
  exact rcNeAt_D I h1 h2 (by omega) rx ry _ _ _ _ (fin_bl I q rfl)
def fD : V → D
  | .non => .non
  | .bl b => .bl b
  | .int i => .int i
  | .str x => .str x
  | _ => .non
theorem IsD.flat {K : PySem.W.Frag} {x : V} (h : flatV x = true) : IsD K H x (fD x) := by
  cases x with
  | non => exact .non
  | bl b => exact .bl b
  | int i => exact .int i
  | str z => exact .str z
  | _ => exact absurd (show false = true from h) Bool.false_ne_true
theorem IsD.flatL {K : PySem.W.Frag} {a : Addr} {xs : List V} (h : SqL K H a xs) (hf : ∀ x ∈ xs, flatV x = true) : IsD K H (.ref a) (.lst (xs.map fD)) := by
  refine .lst h (by simp) fun i x d h1 h2 => ?_
  rw [List.getElem?_map, h1] at h2
  cases h2
  exact .flat (hf x (List.mem_of_getElem? h1))
theorem IsD.flatT {K : PySem.W.Frag} {a : Addr} {xs : List V} (h : SqT K H a xs) (hf : ∀ x ∈ xs, flatV x = true) : IsD K H (.ref a) (.tup (xs.map fD)) := by
  refine .tup h (by simp) fun i x d h1 h2 => ?_
  rw [List.getElem?_map, h1] at h2
  cases h2
  exact .flat (hf x (List.mem_of_getElem? h1))
theorem dep_flat (x : V) : (fD x).dep = 0 := by cases x <;> rfl
theorem deps_flat (xs : List V) : deps (xs.map fD) = 0 := by
  induction xs with
  | nil => rfl
  | cons x xs ih => rw [List.map_cons, deps, dep_flat, ih]; rfl
end
end L2
namespace L2
open PySem PySem.Spec PyProof.Rows
structure Ends.Le (D D' : Ends) : Prop where
  nx : ∀ σ H, D.nx σ H → D'.nx σ H
  rt : ∀ v H, D.rt v H → D'.rt v H
  bk : ∀ σ H, D.bk σ H → D'.bk σ H
  ct : ∀ σ H, D.ct σ H → D'.ct σ H
theorem Ends.Le.refl (D : Ends) : D.Le D := ⟨fun _ _ h => h, fun _ _ h => h, fun _ _ h => h, fun _ _ h => h⟩
def bodyT (X : Cx) (sts : List Stmt) : TS := fun D σ H => ∃ t D', PSs X sts t ∧ t D' σ H ∧ D'.Le D
theorem pss_bodyT {X : Cx} {sts : List Stmt} : PSs X sts (bodyT X sts) := fun pins s σ H D I h => by
  obtain ⟨t, D', h1, h2, le⟩ := h
  refine thn (h1 pins s σ H D' I h2) fun f s' h => ?_
  cases f with
  | next => obtain ⟨a, b, c, d⟩ := h; exact ⟨a, b, c, le.nx _ _ d⟩
  | brk => obtain ⟨a, b, c, d⟩ := h; exact ⟨a, b, c, le.bk _ _ d⟩
  | cont => obtain ⟨a, b, c, d⟩ := h; exact ⟨a, b, c, le.ct _ _ d⟩
  | ret u => obtain ⟨v, a, b, c, r, d⟩ := h; exact ⟨v, a, b, c, r, le.rt _ _ d⟩
theorem bodyT.of {X : Cx} {sts : List Stmt} {D : Ends} {σ : St} {H : Hp} {t : TS} (h : PSs X sts t) (q : t D σ H) : bodyT X sts D σ H := ⟨t, D, h, q, .refl D⟩
def testT (X : Cx) (e : Expr) : TT := fun σ H Q => ∃ t Q', PT X e t ∧ t σ H Q' ∧ ∀ b H1, Q' b H1 → Q b H1
theorem pt_testT {X : Cx} {e : Expr} : PT X e (testT X e) := fun pins s σ H Q I h => by
  obtain ⟨t, Q', h1, h2, le⟩ := h
  refine thn (h1 pins s σ H Q' I h2) fun b s' h => ?_
  obtain ⟨H1, i, q⟩ := h
  exact ⟨H1, i, le _ _ q⟩
theorem testT.of {X : Cx} {e : Expr} {σ : St} {H : Hp} {Q : Bool → Hp → Prop} {t : TT} (h : PT X e t) (q : t σ H Q) : testT X e σ H Q := ⟨t, Q, h, q, fun _ _ h => h⟩
def forW (J : It) (g : TG) (tb : TS) (D : Ends) (σ : St) (H : Hp) : Prop := ∃ W : Nat → Nat → St → Hp → Prop, (∃ m, W 0 m σ H) ∧ ∀ i m σ H, W i m σ H →
  (J.stop i H ∧ D.nx σ H) ∨ (J.go i H ∧ ∃ N : St → Hp → Prop, (∀ σ' H', N σ' H' → ∃ m', m' < m ∧ W (i + 1) m' σ' H') ∧ ∀ x H', J.yld i H x H' → g x σ H' fun σ2 H2 => tb { D with nx := N, ct := N, bk := D.nx } σ2 H2)
def tForW (wi : TI) (g : TG) (tb : TS) : TS := fun D σ H => wi σ H fun J H1 => forW J g tb D σ H1
theorem ps_forW {X : Cx} {tg iter : Expr} {body : List Stmt} {wi : TI} {g : TG} {tb : TS} {pos : Pos} (hp : PassesOwn (model X.prog X.w) X.A X.env X.xe) (hc : X.calm = true) (hi : PI X tg iter wi) (hg : PG X tg g) (hb : PSs X body tb)
    (hs : ∀ x, foldedSetIterable iter X.env x = pure x := by intro _; rfl) : PS X (.For tg iter body [] pos) (tForW wi g tb) := ps_for hp hc hi hg hb hs
section
variable {K : PySem.W.Frag} {a : Addr} {p : Nat} {xs : List V} {lo : Int} {n : Nat} {g : TG} {tb : TS} {D : Ends} {σ : St} {H : Hp}
theorem fw_list (xs : List V) (Pv : Nat → St → Hp → Prop) (h0 : Pv 0 σ H) (hl : ∀ i σ H, i ≤ xs.length → Pv i σ H → SqL K H a xs)
    (hs : ∀ i x σ H, xs[i]? = some x → Pv i σ H → g x σ H fun σ2 H2 => tb { D with nx := Pv (i + 1), ct := Pv (i + 1), bk := D.nx } σ2 H2) (hd : ∀ σ H, Pv xs.length σ H → D.nx σ H) : forW (Itl K a) g tb D σ H := for_list Pv h0 hl hs hd
theorem fw_range (Pv : Nat → St → Hp → Prop) (h0 : Pv 0 σ H) (hs : ∀ i σ H, i < n → Pv i σ H → g (.int (lo + i)) σ H fun σ2 H2 => tb { D with nx := Pv (i + 1), ct := Pv (i + 1), bk := D.nx } σ2 H2) (hd : ∀ σ H, Pv n σ H → D.nx σ H) : forW (Itr lo n) g tb D σ H := for_range Pv h0 hs hd
theorem fw_enum (xs : List V) (Pv : Nat → St → Hp → Prop) (h0 : Pv 0 σ H) (hl : ∀ i σ H, i ≤ xs.length → Pv i σ H → SqL K H a xs)
    (hs : ∀ i x t σ H, xs[i]? = some x → Pv i σ H → H t = none → g (.ref t) σ (upd H t (.tup [.int ((p + i : Nat) : Int), x])) fun σ2 H2 => tb { D with nx := Pv (i + 1), ct := Pv (i + 1), bk := D.nx } σ2 H2) (hd : ∀ σ H, Pv xs.length σ H → D.nx σ H) : forW (Ite K a p) g tb D σ H := for_enum Pv h0 hl hs hd
end
def whileW (c : TT) (tb : TS) (D : Ends) (σ : St) (H : Hp) : Prop := tWhile c tb D σ H
def tWhileW (c : TT) (tb : TS) : TS := fun D σ H => whileW c tb D σ H
theorem ps_whileW {X : Cx} {c : Expr} {body : List Stmt} {tb : TS} {pos : Pos} (hp : PassesOwn (model X.prog X.w) X.A X.env X.xe) (hb : PSs X body tb) : PS X (.While c body [] pos) (tWhileW (testT X c) tb) := ps_while hp pt_testT hb
theorem ww {X : Cx} {c : Expr} {tb : TS} {D : Ends} {σ : St} {H : Hp} (Pv : Nat → St → Hp → Prop) (m0 : Nat) (h0 : Pv m0 σ H)
    (hs : ∀ m σ H, Pv m σ H → testT X c σ H fun b H1 => if b = true then tb { D with nx := fun σ' H' => ∃ m', m' < m ∧ Pv m' σ' H', ct := fun σ' H' => ∃ m', m' < m ∧ Pv m' σ' H', bk := D.nx } σ H1 else D.nx σ H1) : whileW (testT X c) tb D σ H := by
  refine ⟨Pv, ⟨m0, h0⟩, fun m σ H h => ?_⟩
  obtain ⟨t, Q', h1, h2, le⟩ := hs m σ H h
  refine ⟨t, Q', h1, h2, fun b H1 q => ?_⟩
  have q := le b H1 q
  cases b with
  | true => exact ⟨_, fun _ _ h => h, q⟩
  | false => exact q
theorem ww2 {X : Cx} {c : Expr} {tb : TS} {D : Ends} {σ : St} {H : Hp} (Pv : Nat → St → Hp → Prop) (Pe : St → Hp → Prop) (m0 : Nat) (h0 : Pv m0 σ H)
    (hs : ∀ m σ H, Pv m σ H → testT X c σ H fun b H1 => if b = true then tb { D with nx := fun σ' H' => ∃ m', m' < m ∧ Pv m' σ' H', ct := fun σ' H' => ∃ m', m' < m ∧ Pv m' σ' H', bk := D.nx } σ H1 else Pe σ H1)
    (hd : ∀ σ H, Pe σ H → D.nx σ H) : whileW (testT X c) tb D σ H := by
  refine ww Pv m0 h0 fun m σ H h => ?_
  obtain ⟨t, Q', h1, h2, le⟩ := hs m σ H h
  refine ⟨t, Q', h1, h2, fun b H1 q => ?_⟩
  have q := le b H1 q
  cases b with
  | true => exact q
  | false => exact hd σ H1 q
def stT (X : Cx) (st : Stmt) : TS := fun D σ H => ∃ t D', PS X st t ∧ t D' σ H ∧ D'.Le D
theorem ps_stT {X : Cx} {st : Stmt} : PS X st (stT X st) := fun pins s σ H D I h => by
  obtain ⟨t, D', h1, h2, le⟩ := h
  refine thn (h1 pins s σ H D' I h2) fun f s' h => ?_
  cases f with
  | next => obtain ⟨a, b, c, d⟩ := h; exact ⟨a, b, c, le.nx _ _ d⟩
  | brk => obtain ⟨a, b, c, d⟩ := h; exact ⟨a, b, c, le.bk _ _ d⟩
  | cont => obtain ⟨a, b, c, d⟩ := h; exact ⟨a, b, c, le.ct _ _ d⟩
  | ret u => obtain ⟨v, a, b, c, r, d⟩ := h; exact ⟨v, a, b, c, r, le.rt _ _ d⟩
theorem stT.of {X : Cx} {st : Stmt} {D : Ends} {σ : St} {H : Hp} {t : TS} (h : PS X st t) (q : t D σ H) : stT X st D σ H := ⟨t, D, h, q, .refl D⟩
theorem joinW {X : Cx} {st : Stmt} {D : Ends} {σ : St} {H : Hp} (M : St → Hp → Prop) (h : stT X st { D with nx := M } σ H) (q : ∀ σ H, M σ H → D.nx σ H) : stT X st D σ H := by
  obtain ⟨t, D', h1, h2, le⟩ := h
  exact ⟨t, D', h1, h2, fun σ H z => q σ H (le.nx σ H z), le.rt, le.bk, le.ct⟩
end L2
namespace L2
open PySem PySem.Spec PyProof.Rows
structure ClsFn (K : PySem.W.Frag) (C : Addr) (m : Str) (f : Addr) : Prop where
  sp : PySem.W.specialIn K (.ref C) "__getattribute__" = some (some (.builtin "type.__getattribute__"))
  rd : PySem.W.readsIn K C (.type "type") = true
  fd : PySem.W.findCls K (.ref C) (.type "type") m = some (.val (.ref f))
  kp : PySem.W.keepIn K (.ref f) = true
structure Tyc (K : PySem.W.Frag) (C : Addr) : Prop where
  ha : PySem.W.findIn K (.ref C) "__class__" = some (some (.builtin "object.__class__"))
  hn : PySem.W.specialIn K (.builtin "object.__class__") "__get__" = some (some (.builtin "getset_descriptor.__get__"))
  htk : PySem.W.takesIn K (.builtin "object.__class__") = some true
  hm : PySem.W.mroIn K C (.type "object") = some true
def tMethV (L : List (Addr × Sp)) (m : Str) (dvs : List V) (E : XK) (ta : TE) (t : TA) : TE := fun σ H Q => ta σ H fun x H1 => ∃ a C dx fs, x = .ref a ∧ H1 a = some (.ins C dx fs) ∧ fs.lookup m = none ∧ ∃ sp, (C, sp) ∈ L ∧
  t σ H1 fun vs H2 => sp (x :: (vs ++ dvs)) H2 Q E
def VM (X : Cx) (CX : CXT) (m : Str) (ds : List Value) (q : Addr × Sp) : Prop := ∃ (f : Addr) (fd : FuncData) (ps : List Str) (k : Nat), Cls X.K q.1 ∧ Meth X.K q.1 m f ∧ FnOk X.prog X.w X.K X.mg X.base CX k f fd ps q.2 ∧ Room k X.A ∧ Binds X.K fd ps ds
section
variable {X : Cx} {CX : CXT} {k : Nat} {f C : Addr} {fd : FuncData} {ps : List Str} {sp : Sp} {dvs : List V} {ds : List Value} {E : XK} {x m : Str} {p pos apos : Pos} {e o : Expr} {es : List Expr} {ta : TE} {t : TA} {L : List (Addr × Sp)}
theorem pe_clsm {pl : Sem Bool} (he : PE X o (tC (.ref C))) (hm : ClsFn X.K C m f) (F : FnOk X.prog X.w X.K X.mg X.base CX k f fd ps sp) (hr : Room k X.A) (hb : Binds X.K fd ps ds) (hd : Vals dvs ds) (hx : Passes CX X E) (ha : PA X (e :: es) t)
    (hst : starEach (e :: es) X.env = (false, eval e X.env) :: starEach es X.env := by rfl) (hpl : (backTo pos (starEach es X.env)).any (·.1) = false := by rfl)
    (ht : eval (.Call (.Attribute o m apos) (e :: es) [] pos) X.env = (do
      let ov ← eval o X.env
      standAt apos.atName
      let (f, first) ← holding [ov] (getMethod ov m pl)
      callWith pos f first (backTo pos (starEach (e :: es) X.env)) (backToKw pos (keywordEach [] X.env))) := by rfl) :
    PE X (.Call (.Attribute o m apos) (e :: es) [] pos) (tCall sp dvs E t) := by
  intro pins s σ H Q I h
  refine PySem.W.methodCall_KW (pl := pl) (thn (he pins s σ H (fun v H1 => v = .ref C ∧ H1 = H) I ⟨rfl, rfl⟩) fun u s1 ⟨x, H1, I1, rx, ex, eH⟩ => ?_) ht
  subst ex
  subst eH
  obtain rfl : u = Value.ref C := rx
  refine PySem.W.method_cls I1.kIn hm.sp (PySem.W.cls_value I1.kIn hm.rd hm.fd rfl ?_)
  refine PySem.W.callWith_K (first := []) (h₀ := X.base) I.ok.mod.kin hm.kp (thn (ha pos pins _ σ _ _ (I1.tok _) h) fun us s2 ⟨vs, H2, I2, r, q2⟩ => ⟨I2.kIn, ?_⟩) hst hpl
  exact run_fn F hr hb hd hx I2 r q2
theorem pe_methV0 {pl : Sem Bool} (he : PE X o ta) (hL : ∀ q ∈ L, VM X CX m ds q) (hd : Vals dvs ds) (hx : Passes CX X E)
    (ht : eval (.Call (.Attribute o m apos) [] [] pos) X.env = (do
      let ov ← eval o X.env
      standAt apos.atName
      let (f, first) ← holding [ov] (getMethod ov m pl)
      callWith pos f first (backTo pos (starEach [] X.env)) (backToKw pos (keywordEach [] X.env))) := by rfl) :
    PE X (.Call (.Attribute o m apos) [] [] pos) (tMethV L m dvs E ta tNil) := by
  intro pins s σ H Q I h
  refine PySem.W.methodCall_KW (pl := pl) (thn (he pins s σ H _ I h) fun u s1 ⟨x, H1, I1, rx, a, C, dx, fs, ex, ea, l, sp, hC, q⟩ => ?_) ht
  subst ex
  obtain rfl : u = Value.ref a := rx
  obtain ⟨f, fd, ps, k, c, hm, F, hr, hb⟩ := hL _ hC
  refine getmeth_ok I1 ea c hm l ?_
  exact PySem.W.callWith_K0 (first := [.ref a]) I1.kIn hm.kp (run_fn (us := [.ref a]) (vs := [.ref a]) F hr hb hd hx I1 (.cons rfl .nil) q)
end
theorem Same.seqT {K : PySem.W.Frag} {H H' : Hp} (k : Same H H') {a : Addr} {xs : List V} (h : SqT K H a xs) : SqT K H' a xs := by
  rcases h with (h | ⟨o, h⟩) | h
  · exact .inl (.inl (k _ _ h))
  · exact .inl (.inr ⟨o, k _ _ h⟩)
  · exact .inr h
theorem gN {i : Nat} {v : V} {σ : St} {H : Hp} {Q : St → Hp → Prop} (h : Q (σ.set i (some v)) H) : gName i v σ H Q := h
section
variable {K : PySem.W.Frag} {a D : Addr} {fr : List Nat} {tt : TT} {te : TE} {σ : St} {Q : Hp → Prop} {H : Hp}
def lcS (D : Addr) (Pv : Nat → List V → Hp → Prop) (n m i : Nat) : VK := fun y H4 => ∃ ys, H4 D = some (.lst ys) ∧ ys.length < sizeLine ∧ ∃ m', m' < m ∧ (m' + (i + 1) = n ∧ ∃ zs, Pv (i + 1) zs (upd H4 D (.lst (ys ++ [y]))))
def lcK (Pv : Nat → List V → Hp → Prop) (n m i : Nat) (H3 : Hp) : Prop := ∃ m', m' < m ∧ (m' + (i + 1) = n ∧ ∃ zs, Pv (i + 1) zs H3)
theorem lcS.mk {Pv : Nat → List V → Hp → Prop} {n m i : Nat} {y : V} {H4 : Hp} {ys : List V} (hm : m + 1 + i = n) (h : H4 D = some (.lst ys)) (hz : ys.length ≤ 1000) (p : Pv (i + 1) (ys ++ [y]) (upd H4 D (.lst (ys ++ [y])))) : lcS D Pv n (m + 1) i y H4 :=
  ⟨ys, h, small1000 hz, m, by omega, by omega, _, p⟩
theorem lcK.mk {Pv : Nat → List V → Hp → Prop} {n m i : Nat} {H3 : Hp} {ys : List V} (hm : m + 1 + i = n) (p : Pv (i + 1) ys H3) : lcK Pv n (m + 1) i H3 := ⟨m, by omega, by omega, _, p⟩
theorem lcl (xs : List V) (Pv : Nat → List V → Hp → Prop) (h0 : Pv 0 [] H) (hl : ∀ i ys H, i ≤ xs.length → Pv i ys H → SqL K H a xs)
    (hs : ∀ i m x ys H, m + 1 + i = xs.length → xs[i]? = some x → Pv i ys H → tt (lcSlots fr σ (some x)) H fun b H3 => if b = true then te (lcSlots fr σ (some x)) H3 (lcS D Pv xs.length (m + 1) i) else lcK Pv xs.length (m + 1) i H3)
    (hq : ∀ ys H, Pv xs.length ys H → Q H) : lcLoop (Itl K a) fr tt te σ D Q H := by
  refine ⟨fun i m H2 => m + i = xs.length ∧ ∃ ys, Pv i ys H2, ⟨xs.length, rfl, [], h0⟩, ?_⟩
  rintro i m H2 ⟨hm, ys, hp⟩
  have hS := hl i ys H2 (by omega) hp
  cases m with
  | zero =>
    have e : i = xs.length := by omega
    subst e
    exact .inl ⟨⟨xs, hS, Nat.le_refl _⟩, hq ys H2 hp⟩
  | succ m =>
    have hi : i < xs.length := by omega
    refine .inr ⟨⟨xs, xs[i], hS, List.getElem?_eq_getElem hi⟩, fun v H' y => ?_⟩
    obtain ⟨rfl, hv⟩ := y
    exact hs i m v ys H' hm (hv xs hS) hp
theorem lcr {lo : Int} {n : Nat} (Pv : Nat → List V → Hp → Prop) (h0 : Pv 0 [] H)
    (hs : ∀ i m ys H, m + 1 + i = n → i < n → Pv i ys H → tt (lcSlots fr σ (some (.int (lo + i)))) H fun b H3 => if b = true then te (lcSlots fr σ (some (.int (lo + i)))) H3 (lcS D Pv n (m + 1) i) else lcK Pv n (m + 1) i H3)
    (hq : ∀ ys H, Pv n ys H → Q H) : lcLoop (Itr lo n) fr tt te σ D Q H := by
  refine ⟨fun i m H2 => m + i = n ∧ ∃ ys, Pv i ys H2, ⟨n, rfl, [], h0⟩, ?_⟩
  rintro i m H2 ⟨hm, ys, hp⟩
  cases m with
  | zero =>
    have e : i = n := by omega
    subst e
    exact .inl ⟨Nat.le_refl _, hq ys H2 hp⟩
  | succ m =>
    have hi : i < n := by omega
    refine .inr ⟨hi, fun v H' y => ?_⟩
    obtain ⟨rfl, rfl⟩ := y
    exact hs i m ys H' hm hi hp
theorem lc_listG {β : Type} (xs : List V) (bs : List β) (g : β → Option V) (hz : xs.length ≤ 1000) (hl : bs.length = xs.length) (hS : ∀ ys, SqL K (upd H D (.lst ys)) a xs)
    (ht : ∀ (i : Nat) x b ys (R : Bool → Hp → Prop), xs[i]? = some x → bs[i]? = some b → R (g b).isSome (upd H D (.lst ys)) → tt (lcSlots fr σ (some x)) (upd H D (.lst ys)) R)
    (he : ∀ (i : Nat) x b y ys (R : VK), xs[i]? = some x → bs[i]? = some b → g b = some y → R y (upd H D (.lst ys)) → te (lcSlots fr σ (some x)) (upd H D (.lst ys)) R)
    (hq : Q (upd H D (.lst (bs.filterMap g)))) : lcLoop (Itl K a) fr tt te σ D Q (upd H D (.lst [])) := by
  refine ⟨fun i m H2 => m + i = xs.length ∧ H2 = upd H D (.lst ((bs.take i).filterMap g)), ⟨xs.length, rfl, rfl⟩, ?_⟩
  rintro i m H2 ⟨hm, rfl⟩
  cases m with
  | zero =>
    have e : i = xs.length := by omega
    subst e
    refine .inl ⟨⟨xs, hS _, Nat.le_refl _⟩, ?_⟩
    rw [← hl, List.take_length]
    exact hq
  | succ m =>
    have hi : i < xs.length := by omega
    have hb : i < bs.length := by omega
    refine .inr ⟨⟨xs, xs[i], hS _, List.getElem?_eq_getElem hi⟩, fun v H' y => ?_⟩
    obtain ⟨rfl, hv⟩ := y
    have hx := hv xs (hS _)
    have hbi : bs[i]? = some bs[i] := List.getElem?_eq_getElem hb
    have et : bs.take (i + 1) = bs.take i ++ [bs[i]] := by rw [List.take_add_one, hbi]; rfl
    have ll : ((bs.take i).filterMap g).length ≤ 1000 := by
      have h1 := List.length_filterMap_le g (bs.take i)
      have h2 := List.length_take_le i bs
      omega
    have l2 : ((bs.take i).filterMap g).length < 1000 := by
      have h1 := List.length_filterMap_le g (bs.take i)
      have h2 := List.length_take_le i bs
      omega
    refine ht i v _ _ _ hx hbi ?_
    cases eg : g bs[i] with
    | none =>
      rw [Option.isSome_none, if_neg Bool.false_ne_true]
      refine ⟨m, by omega, by omega, ?_⟩
      rw [et, List.filterMap_append]
      simp [eg]
    | some y =>
      rw [Option.isSome_some, if_pos rfl]
      refine he i v _ y _ _ hx hbi eg ⟨_, upd_same, small1000 (by omega), m, by omega, by omega, ?_⟩
      rw [upd_upd, et, List.filterMap_append]
      simp [eg]
end
end L2
namespace L2
open PySem PySem.Spec PyProof.Rows
inductive TyS (K : PySem.W.Frag) (H : Hp) : V → Value → Prop where
  | ty {x : V} {t : Value} (h : TyOf K H x t) : TyS K H x t
  | lst {a : Addr} {xs : List V} (h : SqL K H a xs) : TyS K H (.ref a) (.type "list")
  | tup {a : Addr} {xs : List V} (h : SqT K H a xs) : TyS K H (.ref a) (.type "tuple")
end L2
namespace L2
open PySem PySem.Spec PyProof.Rows
section
variable {κ : Type} [DecidableEq κ]
def valV (kvs : List (κ × V)) (k : κ) : Option V := (kvs.find? fun kv => decide (kv.1 = k)).map (·.2)
def putK (kvs : List (κ × V)) (k : κ) (v : V) : List (κ × V) :=
  if (kvs.any fun kv => decide (kv.1 = k)) = true then kvs.map (fun kv => if kv.1 = k then (kv.1, v) else kv) else kvs ++ [(k, v)]
def dropK (kvs : List (κ × V)) (k : κ) : List (κ × V) := kvs.filter fun kv => decide (kv.1 ≠ k)
theorem valV_pos {p : κ × V} {r : List (κ × V)} {k : κ} (e : p.1 = k) : valV (p :: r) k = some p.2 := by simp [valV, List.find?_cons, e]
theorem valV_neg {p : κ × V} {r : List (κ × V)} {k : κ} (e : ¬ p.1 = k) : valV (p :: r) k = valV r k := by simp [valV, List.find?_cons, e]
theorem valV_any (k : κ) : ∀ kvs : List (κ × V), (kvs.any fun kv => decide (kv.1 = k)) = (valV kvs k).isSome
  | [] => rfl
  | p :: r => by
    rw [List.any_cons]
    by_cases e : p.1 = k
    · simp only [valV_pos e, decide_eq_true e, Bool.true_or, Option.isSome_some]
    · rw [valV_neg e, decide_eq_false e, Bool.false_or]; exact valV_any k r
theorem length_putK (kvs : List (κ × V)) (k : κ) (v : V) : (putK kvs k v).length ≤ kvs.length + 1 := by
  unfold putK
  split
  · rw [List.length_map]; omega
  · rw [List.length_append, List.length_cons, List.length_nil]; omega
theorem putK_new {kvs : List (κ × V)} {k : κ} (v : V) (h : valV kvs k = none) : putK kvs k v = kvs ++ [(k, v)] := by
  unfold putK
  rw [valV_any, h]
  exact if_neg (by decide)
theorem RelO.isSome_eq {o : Option V} {u : Option Value} (r : RelO o u) : o.isSome = u.isSome := by
  cases o with
  | none => cases u with
    | none => rfl
    | some _ => exact (show False from r).elim
  | some _ => cases u with
    | none => exact (show False from r).elim
    | some _ => rfl
theorem KV.val {kvs : List (κ × V)} {vs : List (κ × Value)} (r : KV kvs vs) (k : κ) : RelO (valV kvs k) (valueAt vs k) := by
  unfold KV at r
  induction r with
  | nil => exact True.intro
  | @cons p q ps qs h t ih =>
    obtain ⟨h1, h2⟩ := h
    by_cases e : p.1 = k
    · have e' : q.1 = k := h1.symm.trans e
      have b : valueAt (q :: qs) k = some q.2 := by simp [valueAt, List.find?_cons, e']
      rw [valV_pos e, b]; exact h2
    · have e' : ¬ q.1 = k := fun z => e (h1.trans z)
      have b : valueAt (q :: qs) k = valueAt qs k := by simp [valueAt, List.find?_cons, e']
      rw [valV_neg e, b]; exact ih
theorem KV.any {kvs : List (κ × V)} {vs : List (κ × Value)} (r : KV kvs vs) (k : κ) : (kvs.any fun kv => decide (kv.1 = k)) = vs.any fun kv => decide (kv.1 = k) := by
  unfold KV at r
  induction r with
  | nil => rfl
  | cons h t ih => rw [List.any_cons, List.any_cons, ih, h.1]
theorem KV.repl {kvs : List (κ × V)} {vs : List (κ × Value)} (r : KV kvs vs) (k : κ) {y : V} {u : Value} (ry : RelV y u) :
    KV (kvs.map fun kv => if kv.1 = k then (kv.1, y) else kv) (vs.map fun kv => if kv.1 = k then (kv.1, u) else kv) := by
  unfold KV at r ⊢
  induction r with
  | nil => exact .nil
  | @cons p q ps qs h t ih =>
    rw [List.map_cons, List.map_cons]
    refine .cons ?_ ih
    obtain ⟨h1, h2⟩ := h
    by_cases e : p.1 = k
    · rw [if_pos e, if_pos (h1.symm.trans e)]; exact ⟨h1, ry⟩
    · rw [if_neg e, if_neg (fun z => e (h1.trans z))]; exact ⟨h1, h2⟩
theorem KV.put {kvs : List (κ × V)} {vs : List (κ × Value)} (r : KV kvs vs) (k : κ) {y : V} {u : Value} (ry : RelV y u) : KV (putK kvs k y) (stored vs k u) := by
  unfold putK stored
  rw [r.any k]
  by_cases e : (vs.any fun kv => decide (kv.1 = k)) = true
  · rw [if_pos e, if_pos e]; exact r.repl k ry
  · rw [if_neg e, if_neg e]; exact Paired.snoc r ⟨rfl, ry⟩
theorem KV.drop {kvs : List (κ × V)} {vs : List (κ × Value)} (r : KV kvs vs) (k : κ) : KV (dropK kvs k) (without vs k) := by
  unfold KV at r ⊢
  unfold dropK without
  induction r with
  | nil => exact .nil
  | @cons p q ps qs h t ih =>
    obtain ⟨h1, h2⟩ := h
    rw [List.filter_cons, List.filter_cons]
    by_cases e : p.1 = k
    · have a : ¬ decide (p.1 ≠ k) = true := by simp [e]
      have b : ¬ decide (q.1 ≠ k) = true := by simp [h1.symm.trans e]
      rw [if_neg a, if_neg b]; exact ih
    · have e' : ¬ q.1 = k := fun z => e (h1.trans z)
      have a : decide (p.1 ≠ k) = true := by simp [e]
      have b : decide (q.1 ≠ k) = true := by simp [e']
      rw [if_pos a, if_pos b]; exact .cons ⟨h1, h2⟩ ih
theorem KV.length {kvs : List (κ × V)} {vs : List (κ × Value)} (r : KV kvs vs) : kvs.length = vs.length := Paired.length r
theorem dropK_le (kvs : List (κ × V)) (k : κ) : (dropK kvs k).length ≤ kvs.length := List.length_filter_le _ _
end
theorem kV_is {P : Program} {w : World} {k : Key} {u : Value} (r : RelV (kV k) u) : (mixKind P w).is k u = true := by
  cases k with
  | inl i => obtain ⟨t, e⟩ := (show ∃ t, u = Value.int i t from r); subst e; exact mixKind_int P w i t
  | inr x => obtain ⟨t, e⟩ := (show ∃ t, u = Value.str x t from r); subst e; exact mixKind_str P w x t
theorem items_are {P : Program} {w : World} : ∀ {ks : List Key} {us : List Value}, Vals (ks.map kV) us → ItemsAre (mixKind P w) ks us
  | [], _, r => by rw [List.map_nil] at r; cases r; exact .nil
  | k :: ks, _, r => by
    rw [List.map_cons] at r
    cases r with
    | cons h t => exact .cons (kV_is h) (items_are t)
abbrev KT (H : Hp) : List (List Key × V) → List (List Key × Addr × Value) → Prop := Paired fun p q => p.1 = q.1 ∧ H q.2.1 = some (.tup (p.1.map kV)) ∧ RelV p.2 q.2.2
theorem KT.val {H : Hp} {kvs : List (List Key × V)} {xs : List (List Key × Addr × Value)} (r : KT H kvs xs) (k : List Key) : RelO (valV kvs k) ((atKey xs k).map (·.2)) := by
  induction r with
  | nil => exact True.intro
  | @cons p q ps qs h t ih =>
    obtain ⟨h1, _, h2⟩ := h
    by_cases e : p.1 = k
    · have e' : q.1 = k := h1.symm.trans e
      have b : atKey (q :: qs) k = some q.2 := by simp [atKey, List.find?_cons, e']
      rw [valV_pos e, b]; exact h2
    · have e' : ¬ q.1 = k := fun z => e (h1.trans z)
      have b : atKey (q :: qs) k = atKey qs k := by simp [atKey, List.find?_cons, e']
      rw [valV_neg e, b]; exact ih
theorem KT.repl {H : Hp} {kvs : List (List Key × V)} {xs : List (List Key × Addr × Value)} (r : KT H kvs xs) (k : List Key) {y : V} {u : Value} (ry : RelV y u) :
    KT H (kvs.map fun kv => if kv.1 = k then (kv.1, y) else kv) (xs.map (putAt k u)) := by
  induction r with
  | nil => exact .nil
  | @cons p q ps qs h t ih =>
    rw [List.map_cons, List.map_cons]
    refine .cons ?_ ih
    obtain ⟨h1, h2, h3⟩ := h
    unfold putAt
    by_cases e : p.1 = k
    · rw [if_pos e, if_pos (h1.symm.trans e)]; exact ⟨h1, h2, ry⟩
    · rw [if_neg e, if_neg (fun z => e (h1.trans z))]; exact ⟨h1, h2, h3⟩
theorem KT.put {H : Hp} {kvs : List (List Key × V)} {xs : List (List Key × Addr × Value)} (r : KT H kvs xs) (k : List Key) {b : Addr} {y : V} {u : Value} (hb : H b = some (.tup (k.map kV))) (ry : RelV y u) :
    KT H (putK kvs k y) (storedH xs k b u) := by
  have e : (kvs.any fun kv => decide (kv.1 = k)) = (atKey xs k).isSome := by
    rw [valV_any, (r.val k).isSome_eq, Option.isSome_map]
  unfold putK storedH
  rw [e]
  by_cases q : (atKey xs k).isSome = true
  · rw [if_pos q, if_pos q]; exact r.repl k ry
  · rw [if_neg q, if_neg q]; exact Paired.snoc r ⟨rfl, hb, ry⟩
theorem KT.keeps {H H' : Hp} {kvs : List (List Key × V)} {xs : List (List Key × Addr × Value)} (r : KT H kvs xs) (ht : ∀ b ys, H b = some (.tup ys) → H' b = some (.tup ys)) : KT H' kvs xs :=
  Paired.mapP r fun _ _ z => ⟨z.1, ht _ _ z.2.1, z.2.2⟩
section
variable {P : Program} {w : World} {H : Hp} {h : Heap} {a : Addr}
theorem rd_of {u : HO} (ok : HOk P w H h) (e : Rd H a u) : ObjOk P w H h a u := e.ok ok
theorem dk_rd {kvs : List (Key × V)} (ok : HOk P w H h) (e : Rd H a (.dK kvs)) : kvs.length ≤ sizeLine ∧ (a == sysModules) = false ∧ ∃ vs, KV kvs vs ∧ h.DictOf (mixKind P w) a vs :=
  show ObjOk P w H h a (.dK kvs) from rd_of ok e
theorem dk_of {kvs : List (Key × V)} (ok : HOk P w H h) (e : H a = some (.dK kvs)) : kvs.length ≤ sizeLine ∧ (a == sysModules) = false ∧ ∃ vs, KV kvs vs ∧ h.DictOf (mixKind P w) a vs := dk_rd ok (.inl e)
theorem key_of {ks : List Key} (ok : HOk P w H h) (e : H a = some (.tup (ks.map kV))) : (tupleKind (mixKind P w)).is h ks a := by
  obtain ⟨_, its, r, o, h1, h2, n, h3⟩ := (show ObjOk P w H h a (.tup (ks.map kV)) from ok a _ e)
  exact ⟨o, its.toArray, n, h1, h2, h3, by simpa using items_are r⟩
theorem dt_rd {kvs : List (List Key × V)} (ok : HOk P w H h) (e : Rd H a (.dT kvs)) : kvs.length ≤ sizeLine ∧ (a == sysModules) = false ∧
    ∃ xs, KT H kvs xs ∧ h.DictOfH (tupleKind (mixKind P w)) a xs := by
  obtain ⟨z, y, xs, r, o, es, ep, h1, h2, h3, h4, h5⟩ := (show ObjOk P w H h a (.dT kvs) from rd_of ok e)
  refine ⟨z, y, xs, r, o, es, ep, h1, h2, h3, h4, fun x hx => ?_, h5⟩
  have all : ∀ {l : List (List Key × V)} {m : List (List Key × Addr × Value)}, KT H l m → ∀ x ∈ m, (tupleKind (mixKind P w)).is h x.1 x.2.1 := by
    intro l m q
    induction q with
    | nil => intro x hx; exact nomatch hx
    | @cons p q ps qs hq t ih =>
      intro x hx
      rcases List.mem_cons.mp hx with e | hx
      · subst e
        exact key_of ok (by rw [← hq.1]; exact hq.2.1)
      · exact ih x hx
  exact all r x hx
theorem dt_of {kvs : List (List Key × V)} (ok : HOk P w H h) (e : H a = some (.dT kvs)) : kvs.length ≤ sizeLine ∧ (a == sysModules) = false ∧
    ∃ xs, KT H kvs xs ∧ h.DictOfH (tupleKind (mixKind P w)) a xs := dt_rd ok (.inl e)
end
def DGet (H : Hp) (a : Addr) (y : V) (r : Option V) : Prop :=
  (∃ kvs k, Rd H a (.dK kvs) ∧ y = kV k ∧ r = valV kvs k) ∨ ∃ kvs k b, Rd H a (.dT kvs) ∧ y = .ref b ∧ H b = some (.tup (k.map kV)) ∧ r = valV kvs k
def DPut (H : Hp) (a : Addr) (y v : V) (H' : Hp) : Prop :=
  (∃ kvs k, H a = some (.dK kvs) ∧ y = kV k ∧ kvs.length < sizeLine ∧ H' = upd H a (.dK (putK kvs k v))) ∨
  ∃ kvs k b, H a = some (.dT kvs) ∧ y = .ref b ∧ H b = some (.tup (k.map kV)) ∧ kvs.length < sizeLine ∧ H' = upd H a (.dT (putK kvs k v))
theorem DGet.k {H : Hp} {a : Addr} {kvs : List (Key × V)} {k : Key} (e : H a = some (.dK kvs)) : DGet H a (kV k) (valV kvs k) := .inl ⟨kvs, k, .inl e, rfl, rfl⟩
theorem DPut.k {H : Hp} {a : Addr} {kvs : List (Key × V)} {k : Key} {v : V} (e : H a = some (.dK kvs)) (hl : kvs.length < sizeLine) : DPut H a (kV k) v (upd H a (.dK (putK kvs k v))) := .inl ⟨kvs, k, e, rfl, hl, rfl⟩
section
variable {X : Cx} {pins : List (Addr × Obj)} {σ : St} {H : Hp} {s : Shared} {a : Addr} {y v : V} {u r : Value} {o : Option V} {A : Around} {E : Value → Shared → Prop}
theorem Inv.big (I : Inv X pins σ H s) : sysModules < s.heap.objs.size := by
  have h : mainGlobals < s.heap.objs.size := (I.mod.glob.keeps I.bk).lt
  exact Nat.lt_trans (by decide) h
theorem d_in {Q : Value → Shared → Prop} (hu : A.units + 1 < cLine) (I : Inv X pins σ H s) (g : DGet H a y o) (ry : RelV y u) (h : ∀ s', Inv X pins σ H s' → Q (.bool o.isSome) s') :
    wpAny (model X.prog X.w) A (compareOp .In u (.ref a)) Q E s := by
  rcases g with ⟨kvs, k, e, ey, l⟩ | ⟨kvs, k, b, e, ey, eb, l⟩
  · subst ey
    obtain ⟨z, hd, vs, rel, dd⟩ := dk_rd I.hok e
    refine wpAny_in_of (kV_is ry) hd dd.mapOf ?_
    rw [← (rel.val k).isSome_eq, ← l]
    exact h _ (I.tok _)
  · subst ey
    cases (show u = Value.ref b from ry)
    obtain ⟨z, hd, xs, rel, dd⟩ := dt_rd I.hok e
    refine wpAny_in_heap (tupleKind_room_in1 hu) (key_of I.hok eb) hd dd ?_
    have q := (rel.val k).isSome_eq
    rw [Option.isSome_map] at q
    rw [← q, ← l]
    exact h _ (I.tok _)
theorem d_write {h' : Heap} {t' : Nat} {ob : HO} (I : Inv X pins σ H s) (mu : Mut (H a)) (hs : Heap.SameBut a s.heap h') (he : ∃ q, h'.get? a = some q) (new : ObjOk X.prog X.w (upd H a ob) h' a ob) :
    Inv X pins σ (upd H a ob) { s with heap := h', toks := t' } :=
  I.write (x := a) (e := a) mu (.inl rfl) (fun b q hb z => (hs.2 b hb).trans z) he new
theorem dk_new {P : Program} {w : World} {H' : Hp} {h' : Heap} {kvs : List (Key × V)} {vs : List (Key × Value)} (z : kvs.length ≤ sizeLine) (hd : (a == sysModules) = false) (rel : KV kvs vs) (dd : h'.DictOf (mixKind P w) a vs) :
    ObjOk P w H' h' a (.dK kvs) := ⟨z, hd, vs, rel, dd⟩
theorem d_setItem {H' : Hp} {Q : Unit → Shared → Prop} (hu : A.units + 1 < cLine) (I : Inv X pins σ H s) (g : DPut H a y v H') (ry : RelV y u) (rv : RelV v r) (h : ∀ s', Inv X pins σ H' s' → Q () s') :
    wpAny (model X.prog X.w) A (setItem (.ref a) u r) Q E s := by
  rcases g with ⟨kvs, k, e, ey, l, eH⟩ | ⟨kvs, k, b, e, ey, eb, l, eH⟩
  · subst ey eH
    obtain ⟨z, hd, vs, rel, dd⟩ := dk_of I.hok e
    have hz : vs.length ≤ sizeLine := by rw [← rel.length]; exact z
    have hl : (putK kvs k v).length ≤ sizeLine := by have := length_putK kvs k v; omega
    refine wpAny_setItem_pairs (hsz := hz) (kV_is ry) dd fun h' dd' hs => h _ ?_
    have he : ∃ q, h'.get? a = some q := let ⟨q, _, _, hq, _⟩ := dd'; ⟨q, hq⟩
    exact d_write I (by rw [e]; exact True.intro) hs he (dk_new hl hd (rel.put k rv) dd')
  · subst ey eH
    cases (show u = Value.ref b from ry)
    obtain ⟨z, hd, xs, rel, dd⟩ := dt_of I.hok e
    have hz : xs.length ≤ sizeLine := by rw [← Paired.length rel]; exact z
    have hl : (putK kvs k v).length ≤ sizeLine := by have := length_putK kvs k v; omega
    refine wpAny_setItem_heap (hsz := hz) (tupleKind_room_in1 hu) (key_of I.hok eb) dd fun h' dd' hs => h _ ?_
    obtain ⟨q, es, ep, hq, h2, h3, h4, _, h5⟩ := dd'
    refine d_write I (by rw [e]; exact True.intro) hs ⟨q, hq⟩ ⟨hl, hd, _, (rel.put k eb rv).keeps fun c ys ec => ?_, q, es, ep, hq, h2, h3, h4, h5⟩
    rw [upd_ne (ne_of ec e (fun z => nomatch z))]
    exact ec
end
section
variable {X : Cx} {pins : List (Addr × Obj)} {σ : St} {H : Hp} {s : Shared} {a : Addr} {kvs : List (Key × V)} {k : Key} {u : Value} {A : Around} {E : Value → Shared → Prop}
theorem d_delItem {Q : Unit → Shared → Prop} (I : Inv X pins σ H s) (e : H a = some (.dK kvs)) (ry : RelV (kV k) u) (l : (valV kvs k).isSome = true) (h : ∀ s', Inv X pins σ (upd H a (.dK (dropK kvs k))) s' → Q () s') :
    wpAny (model X.prog X.w) A (delItem (.ref a) u) Q E s := by
  obtain ⟨z, hd, vs, rel, dd⟩ := dk_of I.hok e
  refine wpAny_delItem_slot dd.typeIs (by decide) PySem.F.slot_dict_delitem
    (call_meetsIn PySem.F.slot_dict_delitem dd.typeIs PySem.F.entry_dict_delitem (PySem.F.args_dict_delitem_2 _ _) (meets_dict_delitem_pairs (mixKind X.prog X.w) a (kV_is ry)) ⟨vs, dd, by rw [← rel.length]; exact z, by rw [← (rel.val k).isSome_eq]; exact l, fun h' dd' hs => h _ ?_⟩)
  have he : ∃ q, h'.get? a = some q := let ⟨q, _, _, hq, _⟩ := dd'; ⟨q, hq⟩
  exact d_write I (by rw [e]; exact True.intro) hs he (dk_new (Nat.le_trans (dropK_le kvs k) z) hd (rel.drop k) dd')
theorem d_pop {v : V} {more : List Value} {Q : Value → Shared → Prop} (I : Inv X pins σ H s) (e : H a = some (.dK kvs)) (ry : RelV (kV k) u) (l : valV kvs k = some v) (hm : more = [] ∨ ∃ x, more = [x])
    (h : ∀ w' s', Inv X pins σ (upd H a (.dK (dropK kvs k))) s' → RelV v w' → Q w' s') : wpAny (model X.prog X.w) A (call (.builtin "dict.pop") (.ref a :: u :: more)) Q E s := by
  obtain ⟨z, hd, vs, rel, dd⟩ := dk_of I.hok e
  obtain ⟨w', hw, rw'⟩ := RelO.some_of (v := v) (o := valueAt vs k) (by rw [← l]; exact rel.val k)
  have hp : (keyPart u).isSome = true := by
    cases k with
    | inl i => obtain ⟨t, q⟩ := (show ∃ t, u = Value.int i t from ry); subst q; rfl
    | inr x => obtain ⟨t, q⟩ := (show ∃ t, u = Value.str x t from ry); subst q; rfl
  have ha : argsOk "dict.pop" ⟨.ref a :: u :: more, []⟩ := by
    rcases hm with q | ⟨x, q⟩
    · subst q; exact PySem.F.args_dict_pop_2 _ _
    · subst q; exact PySem.F.args_dict_pop_3 _ _ _
  refine call_meetsIn PySem.F.slot_dict_pop dd.typeIs PySem.F.entry_dict_pop ha (meets_dict_pop_there (mixKind X.prog X.w) a (kV_is ry) more hm hp)
    ⟨vs, w', dd, by rw [← rel.length]; exact z, hw, fun h' dd' hs => h w' _ ?_ rw'⟩
  have he : ∃ q, h'.get? a = some q := let ⟨q, _, _, hq, _⟩ := dd'; ⟨q, hq⟩
  exact d_write I (by rw [e]; exact True.intro) hs he (dk_new (Nat.le_trans (dropK_le kvs k) z) hd (rel.drop k) dd')
theorem d_len {Q : Value → Shared → Prop} (I : Inv X pins σ H s) (e : Rd H a (.dK kvs)) (h : ∀ t s', Inv X pins σ H s' → Q (.int kvs.length t) s') : wpAny (model X.prog X.w) A (call (.builtin "len") [.ref a]) Q E s := by
  obtain ⟨z, hd, vs, rel, dd⟩ := dk_rd I.hok e
  refine call_len_dict hd dd (by rw [← rel.length]; rw [sizeLine_eq] at z; omega) ?_
  rw [← rel.length]
  exact h _ _ (I.tok _)
end
def tDGet (td ty : TE) : TE := fun σ H Q => td σ H fun x H1 => ty σ H1 fun y H2 => ∃ a v, x = .ref a ∧ DGet H2 a y (some v) ∧ Q v H2
def tDIn (ty td : TE) : TE := fun σ H Q => ty σ H fun y H1 => td σ H1 fun x H2 => ∃ a o, x = .ref a ∧ DGet H2 a y o ∧ Q (.bl o.isSome) H2
def tDNotIn (ty td : TE) : TE := fun σ H Q => ty σ H fun y H1 => td σ H1 fun x H2 => ∃ a o, x = .ref a ∧ DGet H2 a y o ∧ Q (.bl (!o.isSome)) H2
def sDPut (td ty tv : TE) : TS := fun D σ H => tv σ H fun v H1 => td σ H1 fun x H2 => ty σ H2 fun y H3 => ∃ a H4, x = .ref a ∧ DPut H3 a y v H4 ∧ D.nx σ H4
section
variable {X : Cx} {o i e value : Expr} {pos pos' tpos : Pos} {td ty tv : TE}
theorem pc_din (hu : X.A.units + 1 < cLine) (hi : PE X i ty) (ho : PE X o td) : PC X .In i o (tDIn ty td) := by
  intro pins s σ H Q I h
  refine thn (hi pins s σ H _ I h) fun iv s1 ⟨y, H1, I1, ry, q1⟩ => thn (ho pins s1 σ H1 _ I1 q1) fun u s2 ⟨x, H2, I2, rx, a, ov, ex, g, q2⟩ => ?_
  subst ex
  obtain rfl : u = Value.ref a := rx
  exact d_in hu I2 g ry fun s3 I3 => ⟨.bl ov.isSome, H2, I3, rfl, q2⟩
theorem ps_dput (hu : X.A.units + 1 < cLine) (ho : PE X o td) (hi : PE X i ty) (hv : PE X value tv) (hs : swapsWith value (some (.Subscript o i pos')) pos.line X.env = pure false) :
    PS X (.Assign [.Subscript o i pos'] value pos) (sDPut td ty tv) := by
  intro pins s σ H D I h
  refine wpAny_Assign_Subscript (thn (hv pins s σ H _ I h) fun r s1 ⟨v, H1, I1, rv, q1⟩ => thn (ho pins s1 σ H1 _ I1 q1) fun u s2 ⟨x, H2, I2, rx, q2⟩ => thn (hi pins s2 σ H2 _ I2 q2) fun iv s3 ⟨y, H3, I3, ry, a, H4, ex, g, q3⟩ => ?_) hs
  subst ex
  obtain rfl : u = Value.ref a := rx
  exact d_setItem hu I3 g ry rv fun s4 I4 => ⟨σ, H4, I4, q3⟩
end
theorem dk_empty {P : Program} {w : World} {H : Hp} (h : Heap) (hb : sysModules < h.objs.size) : ObjOk P w H (h.push { cls := .type "dict", data := .dict #[] }) h.objs.size (.dK []) :=
  ⟨Nat.zero_le _, beq_eq_false_iff_ne.mpr (Ne.symm (Nat.ne_of_lt hb)), [], .nil, Heap.DictOf.new h⟩
def tDNewK : TE := fun _ H Q => ∀ p, H p = none → Q (.ref p) (upd H p (.dK []))
section
variable {X : Cx} {pos : Pos}
theorem pe_dnewK : PE X (.Dict [] [] pos) tDNewK := fun pins s σ H Q I h =>
  wpAny_Dict_empty ⟨.ref s.heap.objs.size, _, I.laid (a := s.heap.objs.size) (o := .dK []) (t' := s.toks) (fun _ _ q => Heap.get?_push_of_some _ q) (Nat.le_refl _) (dk_empty s.heap I.big), rfl, h _ (I.hok.fresh (Nat.le_refl _))⟩
end
def tPairs : List (TE × TE) → St → Hp → (List (V × V) → Hp → Prop) → Prop
  | [], _, H, Q => Q [] H
  | (tk, tv) :: r, σ, H, Q => tk σ H fun x H1 => tv σ H1 fun y H2 => tPairs r σ H2 fun ps H3 => Q ((x, y) :: ps) H3
def mergeK (kvs more : List (Key × V)) : List (Key × V) := more.foldl (fun acc kv => putK acc kv.1 kv.2) kvs
def tDisp (trs : List (TE × TE)) : TE := fun σ H Q => ∀ p, H p = none → tPairs trs σ (upd H p (.dK [])) fun ps H2 => H2 p = some (.dK []) ∧ ∃ kvs : List (Key × V), ps = kvs.map (fun kv => (kV kv.1, kv.2)) ∧ kvs.length ≤ 15 ∧ Q (.ref p) (upd H2 p (.dK (mergeK [] kvs)))
structure M1 (X : Cx) (o : Expr) (m : Str) (apos : Pos) (e : Expr) (cpos : Pos) : Prop where
  base : attributeBase o m X.env (eval o X.env) = eval o X.env
  few : ((backTo cpos (starEach [e] X.env)).all (fun x => !x.1) && (backToKw cpos (keywordEach [] X.env)).all (fun x => x.1.isSome)
    && decide (([e] : List Expr).length + ([] : List Keyword).length + (if ([] : List Keyword).isEmpty then 0 else 1) < 30)) = true
  line : (apos.endLine == cpos.line) = true
  trees : backTo cpos (starEach [e] X.env) = [(false, eval e X.env)]
structure M2 (X : Cx) (o : Expr) (m : Str) (apos : Pos) (e f : Expr) (cpos : Pos) : Prop where
  base : attributeBase o m X.env (eval o X.env) = eval o X.env
  few : ((backTo cpos (starEach [e, f] X.env)).all (fun x => !x.1) && (backToKw cpos (keywordEach [] X.env)).all (fun x => x.1.isSome)
    && decide (([e, f] : List Expr).length + ([] : List Keyword).length + (if ([] : List Keyword).isEmpty then 0 else 1) < 30)) = true
  line : (apos.endLine == cpos.line) = true
  trees : backTo cpos (starEach [e, f] X.env) = [(false, eval e X.env), (false, eval f X.env)]
def IsDic (H : Hp) (a : Addr) : Prop := (∃ kvs, Rd H a (.dK kvs)) ∨ ∃ kvs, Rd H a (.dT kvs)
theorem isD_at {X : Cx} {pins : List (Addr × Obj)} {σ : St} {H : Hp} {s : Shared} {a : Addr} (I : Inv X pins σ H s) (d : IsDic H a) :
    s.TypeIs (.ref a) "dict" ∧ (∀ b, Value.ref a = .ref b → ∃ ob, s.heap.get? b = some ob ∧ ob.dict = none) ∧ (a == sysModules) = false := by
  rcases d with ⟨kvs, e⟩ | ⟨kvs, e⟩
  · obtain ⟨_, hd, vs, _, dd⟩ := dk_rd I.hok e
    refine ⟨dd.typeIs, fun b q => ?_, hd⟩
    cases q
    obtain ⟨ob, _, _, h1, h2, _⟩ := dd
    exact ⟨ob, h1, h2.2.1⟩
  · obtain ⟨_, hd, xs, _, dd⟩ := dt_rd I.hok e
    refine ⟨dd.typeIs, fun b q => ?_, hd⟩
    cases q
    obtain ⟨ob, _, _, h1, h2, _⟩ := dd
    exact ⟨ob, h1, h2.2.1⟩
section
variable {X : Cx} {pins : List (Addr × Obj)} {σ : St} {H : Hp} {s : Shared} {a : Addr} {y d : V} {u r : Value} {o : Option V} {A : Around} {E : Value → Shared → Prop}
end
def tDGet1 (td ty : TE) : TE := fun σ H Q => td σ H fun x H1 => ∃ a, x = .ref a ∧ IsDic H1 a ∧ ty σ H1 fun y H2 => ∃ o, DGet H2 a y o ∧ Q (o.getD .non) H2
def tDGet2 (td ty tx : TE) : TE := fun σ H Q => td σ H fun x H1 => ∃ a, x = .ref a ∧ IsDic H1 a ∧ ty σ H1 fun y H2 => tx σ H2 fun z H3 => ∃ o, DGet H3 a y o ∧ Q (o.getD z) H3
def tDPop1 (td ty : TE) : TE := fun σ H Q => td σ H fun x H1 => ∃ a, x = .ref a ∧ IsDic H1 a ∧ ty σ H1 fun y H2 => ∃ kvs k v, H2 a = some (.dK kvs) ∧ y = kV k ∧ valV kvs k = some v ∧ Q v (upd H2 a (.dK (dropK kvs k)))
def tDPop2 (td ty tx : TE) : TE := fun σ H Q => td σ H fun x H1 => ∃ a, x = .ref a ∧ IsDic H1 a ∧ ty σ H1 fun y H2 => tx σ H2 fun z H3 => ∃ kvs k, H3 a = some (.dK kvs) ∧ y = kV k ∧
  (∀ v, valV kvs k = some v → Q v (upd H3 a (.dK (dropK kvs k)))) ∧ (valV kvs k = none → Q z H3)
section
variable {X : Cx} {o e f : Expr} {apos cpos : Pos} {td ty tx : TE}
theorem pe_dpop1 (ho : PE X o td) (he : PE X e ty) (m : M1 X o "pop" apos e cpos) : PE X (.Call (.Attribute o "pop" apos) [e] [] cpos) (tDPop1 td ty) := by
  intro pins s σ H Q I h
  refine wpAny_Call_method m.base m.few m.line PySem.F.plainAttrs_dict PySem.F.slot_dict_pop PySem.F.type_dict_pop (thn (ho pins s σ H _ I h) fun u s1 ⟨x, H1, I1, rx, a, ex, d, q1⟩ => ?_)
  subst ex
  obtain rfl : u = Value.ref a := rx
  obtain ⟨t1, t2, _⟩ := isD_at I1 d
  refine ⟨t1, t2, ?_⟩
  rw [m.trees]
  refine Calls.callWith_builtin rfl (Calls.evalArgs_plain (Calls.spliced_cons (thn (he pins s1 σ H1 _ I1 q1) fun iv s2 ⟨y, H2, I2, ry, kvs, k, v, ea, ey, l, q2⟩ => Calls.spliced_nil ?_)))
  subst ey
  exact d_pop I2 ea ry l (.inl rfl) fun w' s3 I3 rw' => ⟨v, _, I3, rw', q2⟩
end
section
variable {X : Cx} {pins : List (Addr × Obj)} {σ : St} {H : Hp} {s : Shared} {a : Addr} {kvs : List (Key × V)} {A : Around} {E : Value → Shared → Prop}
end
section
variable {X : Cx} {pins : List (Addr × Obj)} {σ : St} {H : Hp} {s : Shared} {a : Addr} {y : V} {u : Value} {A : Around} {E : Value → Shared → Prop}
end
end L2
namespace L2
open PySem PySem.Spec PyProof.Rows
section
variable {X : Cx}
theorem call_lenD : CallR X (.builtin "len") (fun xs H Q => ∃ a kvs, xs = [V.ref a] ∧ H a = some (.dK kvs) ∧ Q (.int kvs.length) H) := by
  intro pins s σ H xs us Q I r h
  obtain ⟨a, kvs, rfl, ha, q⟩ := h
  obtain ⟨u, rfl, ru⟩ := vals1 r
  cases ru
  exact d_len I (.inl ha) fun t s' I' => ⟨.int kvs.length, H, I', ⟨t, rfl⟩, q⟩
end
section
variable {κ : Type} [DecidableEq κ]
theorem valV_in {kvs : List (κ × V)} {k : κ} {v : V} (h : valV kvs k = some v) : k ∈ kvs.map (·.1) := by
  have q : (kvs.any fun kv => decide (kv.1 = k)) = true := by
    rw [valV_any, h]
    all_goals rfl
  obtain ⟨p, hp, e⟩ := List.any_eq_true.mp q
  exact List.mem_map.mpr ⟨p, hp, of_decide_eq_true e⟩
theorem nd_snoc : ∀ {l : List κ} {k : κ}, l.Nodup → ¬ k ∈ l → (l ++ [k]).Nodup
  | [], k, _, _ => by simp
  | a :: r, k, h, hk => by
    obtain ⟨h1, h2⟩ := List.nodup_cons.mp h
    show (a :: (r ++ [k])).Nodup
    refine List.nodup_cons.mpr ⟨fun m => ?_, nd_snoc h2 fun m => hk (List.mem_cons.mpr (Or.inr m))⟩
    rcases List.mem_append.mp m with q | q
    · exact h1 q
    · exact hk (List.mem_cons.mpr (Or.inl (List.mem_singleton.mp q).symm))
end
end L2
namespace L2
open PySem PySem.Spec PyProof.Rows
theorem bt_sorted : bootBuiltins "sorted" = some (.builtin "sorted") := by decide +kernel
theorem vals_get : ∀ {xs : List V} {us : List Value}, xs.length = us.length → (∀ (i : Nat) x u, xs[i]? = some x → us[i]? = some u → RelV x u) → Vals xs us
  | [], [], _, _ => .nil
  | [], _ :: _, h, _ => by simp at h
  | _ :: _, [], h, _ => by simp at h
  | x :: xs, u :: us, h, k => .cons (k 0 x u rfl rfl) (vals_get (by simpa using h) fun i y v a b => k (i + 1) y v (by simpa using a) (by simpa using b))
theorem key_rel {k : Key} {v : Value} (h : keyIs k v = true) : RelV (kV k) v := by
  rcases keyIs_shape h with ⟨i, t, rfl, rfl⟩ | ⟨x, t, rfl, rfl⟩ <;> exact ⟨t, rfl⟩
theorem KV.get : ∀ {kvs : List (Key × V)} {vs : List (Key × Value)} {i : Nat} {p : Key × V} {q : Key × Value}, KV kvs vs → kvs[i]? = some p → vs[i]? = some q → p.1 = q.1
  | _, _, _, _, _, .nil, h, _ => by simp at h
  | _, _, 0, _, _, .cons r _, h, h' => by
    simp at h h'
    subst h h'
    exact r.1
  | _, _, i + 1, _, _, .cons _ t, h, h' => KV.get (i := i) t (by simpa using h) (by simpa using h')
def keysV (kvs : List (Key × V)) : List V := kvs.map fun kv => kV kv.1
theorem keys_vals {P : Program} {w : World} {kvs : List (Key × V)} {vs : List (Key × Value)} {us : List Value} (rel : KV kvs vs) (hl : us.length = vs.length) (h : ∀ (j : Nat) v, us[j]? = some v → ∃ k x, vs[j]? = some (k, x) ∧ (mixKind P w).is k v = true) : Vals (keysV kvs) us := by
  refine vals_get (by rw [keysV, List.length_map, rel.length, hl]) fun i x u hx hu => ?_
  obtain ⟨k, z, h1, h2⟩ := h i u hu
  rw [keysV, List.getElem?_map] at hx
  cases e : kvs[i]? with
  | none => rw [e] at hx; cases hx
  | some p =>
    rw [e] at hx
    cases hx
    have := rel.get e h1
    dsimp only at this ⊢
    rw [this]
    exact key_rel h2
section
variable {X : Cx}
theorem call_listD (hc : X.calm = true) : CallR X (.type "list") (fun xs H Q => ∃ p kvs, xs = [.ref p] ∧ Rd H p (.dK kvs) ∧ ∀ l, H l = none → Q (.ref l) (upd H l (.lst (keysV kvs)))) := by
  intro pins s σ H xs us Q I r h
  obtain ⟨p, kvs, rfl, hq, q⟩ := h
  obtain ⟨u, rfl, rx⟩ := vals1 r
  cases rx
  obtain ⟨z, hd, vs, rel, dd⟩ := dk_rd I.hok hq
  obtain ⟨ep, dat⟩ := dd.dictAt
  refine PySem.W.kdl_call (PySem.W.kdl_dict hd) (I.ok.hd hc) dat (by rw [← rel.length]; exact z) fun h' tk acc' c' kp e it => ?_
  have hv : Vals (keysV kvs) acc'.toList := keys_vals (P := X.prog) (w := X.w) rel (by rw [Array.length_toList]; exact it.1) fun j v hj => it.2 j v (by rw [← Array.getElem?_toList]; exact hj)
  exact ⟨.ref s.heap.objs.size, _, I.laid (t' := tk) kp (Nat.le_refl _) (show ObjOk X.prog X.w _ h' _ (.lst (keysV kvs)) from ⟨by rw [keysV, List.length_map]; exact z, acc'.toList, c', hv, by simpa using e⟩), rfl, q _ (I.hok.fresh (Nat.le_refl _))⟩
theorem call_sortedL : CallR X (.builtin "sorted") (fun xs H Q => ∃ (p : Addr) (ns : List Int), xs = [.ref p] ∧ SqL X.K H p (ns.map V.int) ∧ ns.length < 64 ∧ ∀ (l : Addr) (ns' : List Int), H l = none → ns'.Perm ns → ns'.Pairwise (· ≤ ·) → Q (.ref l) (upd H l (.lst (ns'.map V.int)))) := by
  intro pins s σ H xs us Q I r h
  obtain ⟨p, ns, rfl, hq, h64, q⟩ := h
  obtain ⟨u, rfl, rx⟩ := vals1 r
  cases rx
  obtain ⟨its, rv, pl, hz⟩ := I.list hq
  have hl := rv.length
  rw [List.length_map] at hl
  refine sorted_ints (vs := its) pl.isList (intsAre_of rv) (by omega) fun out ns' a1 a2 a3 => ?_
  obtain ⟨e, he⟩ := sortedAll_at s.heap its out
  have hp := a2.length_eq
  exact ⟨.ref (s.heap.objs.size + 1), _, I.laid (t' := s.toks) (fun b o hb => sortedAll_old hb) (Nat.le_succ _) (show ObjOk X.prog X.w _ _ _ (.lst (ns'.map V.int)) from ⟨by rw [List.length_map]; exact Nat.le_of_lt (small1000 (by omega)), out.toList, e, vals_ints a1, by simpa [seqObj] using he⟩), rfl, q _ ns' (I.hok.fresh (Nat.le_succ _)) a2 a3⟩
end
section
variable {X : Cx} {pins : List (Addr × Obj)} {σ : St} {H : Hp} {s : Shared} {a : Addr} {kvs : List (Key × V)} {o : Obj}
def Thaw (H₀ : Hp) (a : Addr) (kvs : List (Key × V)) (H H' : Hp) : Prop := (∀ o u, H₀ a ≠ some (.frz o u)) ∧ (∃ o, H a = some (.frz o (.dK kvs))) ∧ H' = upd H a (.dK kvs)
end
def Itd (a : Addr) (o : Obj) (kvs : List (Key × V)) : It :=
  ⟨fun i H => i < kvs.length ∧ H a = some (.frz o (.dK kvs)), fun i H x H' => H' = H ∧ ∃ kv, kvs[i]? = some kv ∧ x = kV kv.1, fun i H => kvs.length ≤ i ∧ H a = some (.frz o (.dK kvs))⟩
def iDict (tl : TE) : TI := fun σ H R => tl σ H fun x H1 => ∃ a kvs, x = .ref a ∧ H1 a = some (.dK kvs) ∧ ∀ o, R (Itd a o kvs) (upd H1 a (.frz o (.dK kvs)))
def thawE (H₀ : Hp) (D : Ends) : Ends := { nx := fun σ H => D.nx σ H ∨ ∃ a kvs H', Thaw H₀ a kvs H H' ∧ D.nx σ H', rt := fun v H => D.rt v H ∨ ∃ a kvs H', Thaw H₀ a kvs H H' ∧ D.rt v H', bk := D.bk, ct := D.ct }
def tThaw (H₀ : Hp) (t : TS) : TS := fun D σ H => t (thawE H₀ D) σ H
end L2
namespace L2
open PySem PySem.Spec PyProof.Rows
section
variable {prog : Program} {w : World} {A : Around} {E : Value → Shared → Prop} {s : Shared}
theorem collect_dict {d : Addr} {kvs : List (Key × Value)} {ep : Nat} {Q : List Value → Shared → Prop} (hh : A.handled = none) (lo : (d == sysModules) = false) (dat : s.heap.DictAt (mixKind prog w) d kvs ep) (hn : kvs.length ≤ sizeLine)
    (h : ∀ h' tk (vs : List Value), (∀ b o, s.heap.get? b = some o → h'.get? b = some o) → s.heap.objs.size < h'.objs.size → vs.length = kvs.length → (∀ (j : Nat) v, vs[j]? = some v → ∃ k x, kvs[j]? = some (k, x) ∧ (mixKind prog w).is k v = true) → Q vs { s with heap := h', toks := tk }) :
    wpAny (model prog w) A (collect (.ref d)) Q E s := by
  unfold collect
  refine wpAny_bind (wpAny_runValue (codeAny_builtin entry_proto_collect' ?_))
  show wpAny _ _ (do again (.builtin "list.__iadd__" ⟨[← newList [], .ref d], []⟩)) _ _ s
  refine wpAny_bind (wpAny_newList (wpAny_pure ⟨Code.quiet_builtin _ (by decide +kernel), codeAny_builtin entry_list_iadd' ?_⟩))
  show wpAny _ _ (Builtin.List.listExtendWith (.ref s.heap.objs.size) (.ref d) (.ref s.heap.objs.size)) _ _ { s with heap := s.heap.push (seqObj "list" #[] 0) }
  rw [Around.under_plainId (by decide +kernel)]
  have hlt := dat.lt_size
  refine PySem.W.kdl_extend (s := { s with heap := s.heap.push (seqObj "list" #[] 0) }) (R := fun r s' => match r with
    | .ok (.ret v) => wpAny (model prog w) A (match v with
      | .ref a => do
        let o ← load a
        match o.data with
        | .seq xs _ => pure xs.toList
        | _ => unsupported "internal:collect"
      | _ => unsupported "internal:collect") Q E s'
    | .ok _ => False
    | .error e => E e s') (PySem.W.kdl_dict (kvs := kvs) (ep := ep) lo) hh (dat.push _) s.heap.objs.size (Nat.ne_of_gt hlt) (Nat.ne_of_gt hlt) (.ref s.heap.objs.size) 0 (Heap.get?_push_size _ rfl) (fun h' tk acc c kp hS it => ?_) hn
  show wpAny (model prog w) A (do
      let o ← load s.heap.objs.size
      match o.data with
      | .seq xs _ => pure xs.toList
      | _ => unsupported "internal:collect") Q E { s with heap := h', toks := tk }
  refine wpAny_bind (wpAny_load hS ?_)
  exact wpAny_pure (h h' tk acc.toList (fun b o e => kp b o (Nat.ne_of_lt (Heap.lt_size e)) (Heap.get?_push_of_some _ e)) (Heap.lt_size hS) (by rw [Array.length_toList]; exact it.1) fun j v e => it.2 j v (by rw [← Array.getElem?_toList]; exact e))
end
section
variable {X : Cx}
theorem call_sortedD (hc : X.calm = true) : CallR X (.builtin "sorted") (fun xs H Q => ∃ (p : Addr) (kvs : List (Key × V)) (ns : List Int), xs = [.ref p] ∧ Rd H p (.dK kvs) ∧ keysV kvs = ns.map V.int ∧ ns.length < 64 ∧ ∀ (l : Addr) (ns' : List Int), H l = none → ns'.Perm ns → ns'.Pairwise (· ≤ ·) → Q (.ref l) (upd H l (.lst (ns'.map V.int)))) := by
  intro pins s σ H xs us Q I r h
  obtain ⟨p, kvs, ns, rfl, hq, hk, h64, q⟩ := h
  obtain ⟨u, rfl, rx⟩ := vals1 r
  cases rx
  obtain ⟨z, hd, vs, rel, dd⟩ := dk_rd I.hok hq
  obtain ⟨ep, dat⟩ := dd.dictAt
  have hl := rel.length
  have hl2 : kvs.length = ns.length := by
    have := congrArg List.length hk
    simpa [keysV] using this
  refine Calls.call_function_entry kind_sorted plain_sorted entry_sorted (args_sorted1 _) ?_
  unfold Builtin.«sorted»
  refine wpAny_bind (m := checkCount "sorted" 1 1 _) (wpAny_pure ?_)
  refine wpAny_bind (collect_dict (I.ok.hd hc) hd dat (by rw [← hl]; exact z) fun h' tk ws kp hsz hlen hws => ?_)
  refine wpAny_bind (wpAny_newList ?_)
  have hv : Vals (ns.map V.int) ws := by
    rw [← hk]
    exact keys_vals (P := X.prog) (w := X.w) rel hlen hws
  have hI : IntsAre ws ns := intsAre_of hv
  have hoL : (h'.push (seqObj "list" ws.toArray 0)).get? h'.objs.size = some (seqObj "list" ws.toArray 0) := Heap.get?_push_size _ rfl
  refine wpAny_bind (wpAny_holding (wpAny_call_entry slot_list_sort ⟨_, hoL, rfl⟩ entry_list_sort (list_sort_tree hoL hI (by omega) fun out ns' a1 a2 a3 => ⟨_, rfl, ?_⟩) (args_list_sort _)))
  obtain ⟨e, he⟩ := sortedHeap_at (out := out) hoL
  have hp := a2.length_eq
  refine wpAny_pure ⟨_, rfl, ?_⟩
  refine ⟨.ref h'.objs.size, _, I.laid (t' := tk) (fun b o hb => ?_) (Nat.le_of_lt hsz) (show ObjOk X.prog X.w _ _ _ (.lst (ns'.map V.int)) from ⟨by rw [List.length_map]; exact Nat.le_of_lt (small1000 (by omega)), out.toList, e, vals_ints a1, by simpa [seqObj] using he⟩), rfl, q _ ns' (I.hok.fresh (Nat.le_of_lt hsz)) a2 a3⟩
  have hb2 := kp b o hb
  have hlt := Heap.lt_size hb2
  rw [sortedHeap_old (Nat.ne_of_lt hlt) (by rw [Heap.size_push]; exact Nat.lt_succ_of_lt hlt)]
  exact Heap.get?_push_of_some _ hb2
end
section
variable {X : Cx}
theorem mt_indexT : MtR X "tuple.index" (fun x vs H Q => ∃ (p : Addr) (xs : List Str) (z : Str) (j : Nat), x = .ref p ∧ vs = [.str z] ∧ SqT X.K H p (xs.map V.str) ∧ xs[j]? = some z ∧ (∀ (i : Nat) y, i < j → xs[i]? = some y → y ≠ z) ∧ Q (.int (j : Nat)) H) := by
  intro pins s σ H x vs v us Q I rx rv h
  obtain ⟨p, xs, z, j, rfl, rfl, hq, hj, hn, q⟩ := h
  cases rx
  obtain ⟨u, rfl, ru⟩ := rv.one
  obtain ⟨t, rfl⟩ := ru
  obtain ⟨its, r, pl, hz⟩ := I.tuple hq
  obtain ⟨o, ho, hc, n, hd⟩ := id pl
  refine wpAny_call_entry PySem.F.slot_tuple_index ⟨o, ho, hc⟩ PySem.F.entry_tuple_index ?_ (PySem.F.args_tuple_index_2 _ _)
  unfold Builtin.«tuple.index»
  refine wpAny_bind (wpAny_pure ?_)
  dsimp only
  refine wpAny_bind (wpAny_tupleItemsOf ho hd ?_)
  refine wpAny_bind (wpAny_pure ?_)
  refine wpAny_bind (wpAny_pure ?_)
  refine wpAny_bind ?_
  rw [Std.Legacy.Range.forIn_eq_forIn_range']
  have hlen : its.length = xs.length := by
    have := r.length
    rw [List.length_map] at this
    exact this.symm
  have hjl := (List.getElem?_eq_some_iff.mp hj).1
  have hsz : (List.range' [:min its.toArray.size its.toArray.size].start [:min its.toArray.size its.toArray.size].size [:min its.toArray.size its.toArray.size].step) = List.range' 0 xs.length := by
    simp [Std.Legacy.Range.size, hlen]
  rw [hsz]
  refine wpAny_forIn_list _ (fun rest b s' => s' = s ∧ b = (none, ()) ∧ ∃ i, rest = List.range' i (xs.length - i) ∧ i ≤ j) _ ?_ ?_ _ _ ⟨rfl, rfl, 0, rfl, Nat.zero_le _⟩
  · rintro x rest b s' ⟨rfl, rfl, i, hr, hi⟩
    have hil : i < xs.length := by omega
    obtain ⟨rfl, hrest⟩ : x = i ∧ rest = List.range' (i + 1) (xs.length - (i + 1)) := by
      have e : xs.length - i = (xs.length - (i + 1)) + 1 := by omega
      rw [e, List.range'_succ] at hr
      injection hr with h1 h2
      exact ⟨h1, h2⟩
    obtain ⟨u, hu, ru⟩ := r.get (i := x) (x := V.str xs[x]) (by simp [hil])
    obtain ⟨t2, rfl⟩ := ru
    have hu2 : its.toArray[x]? = some (Value.str xs[x] t2) := by simpa using hu
    rw [hu2]
    dsimp only
    refine wpAny_bind (wpAny_eqBool_str ?_)
    by_cases hx : x = j
    · subst hx
      have ez : xs[x] = z := by
        have := List.getElem?_eq_getElem hil
        rw [hj] at this
        exact (Option.some.inj this).symm
      rw [ez, decide_eq_true rfl, if_pos rfl]
      unfold retInt
      refine wpAny_bind (wpAny_bind (wpAny_mkInt ?_))
      refine wpAny_pure (wpAny_pure ?_)
      exact wpAny_pure ⟨_, rfl, .int x, H, I.tok _, ⟨_, rfl⟩, q⟩
    · have hne := hn x xs[x] (by omega) (List.getElem?_eq_getElem hil)
      rw [decide_eq_false hne, if_neg Bool.false_ne_true]
      exact wpAny_pure ⟨rfl, rfl, x + 1, hrest, by omega⟩
  · rintro b s' ⟨rfl, rfl, i, hr, hi⟩
    have := congrArg List.length hr
    simp at this
    omega
end
end L2
namespace L2
open PySem PySem.Spec PyProof.Rows
section
variable {X : Cx}
end
end L2
namespace L2
open PySem PySem.Spec PyProof.Rows
def thawV (H₀ : Hp) (Q : VK) : VK := fun v H => Q v H ∨ ∃ a kvs H', Thaw H₀ a kvs H H' ∧ Q v H'
def tThawV (H₀ : Hp) (t : TE) : TE := fun σ H Q => t σ H (thawV H₀ Q)
section
variable {a D : Addr} {o : Obj} {kvs : List (Key × V)} {fr : List Nat} {tt : TT} {te : TE} {σ : St} {H : Hp} {Q : Hp → Prop}
end
end L2
namespace L2
open PySem PySem.Spec PyProof.Rows
section
variable {X : Cx}
end
end L2
namespace L2
open PySem PySem.Spec PyProof.Rows
section
variable {X : Cx}
def isS (z : Str) : Value → Bool
  | .str s _ => s == z
  | _ => false
theorem mt_indexL : MtM X "list.index" (fun x vs H Q => ∃ (l : Addr) (xs : List Str) (z : Str) (j : Nat), x = .ref l ∧ vs = [.str z] ∧ H l = some (.lst (xs.map V.str)) ∧ xs[j]? = some z ∧ (∀ (i : Nat) y, i < j → xs[i]? = some y → y ≠ z) ∧ xs.length ≤ 1000 ∧ Q (.int (j : Nat)) H) := by
  intro pins s σ H x vs v us Q I rx rv h
  obtain ⟨l, xs, z, j, rfl, rfl, hH, hj, hn, hz, q⟩ := h
  cases rx
  obtain ⟨u, rfl, ru⟩ := rv.one
  obtain ⟨t, rfl⟩ := ru
  obtain ⟨_, its, n, r, hl, e⟩ := I.lstM hH
  have hlen : its.length = xs.length := by
    have := r.length
    rw [List.length_map] at this
    exact this.symm
  have hjl := (List.getElem?_eq_some_iff.mp hj).1
  have hat : ∀ (i : Nat) (hi : i < its.length) (hx : i < xs.length), ∃ t2, its[i] = Value.str xs[i] t2 := fun i hi hx => by
    obtain ⟨u, hu, ru⟩ := r.get (i := i) (x := V.str xs[i]) (by simp [hx])
    obtain ⟨t2, rfl⟩ := ru
    rw [List.getElem?_eq_getElem hi] at hu
    exact ⟨t2, Option.some.inj hu⟩
  refine call_meets F.slot_list_index ⟨_, e, rfl⟩ F.entry_list_index (F.args_list_index_2 _ _) (MeetsSeq.list_index l its.toArray n (.str z t) (isS z) (fun y hy => ?_) j (by rw [List.size_toArray]; omega) (by omega) ?_ ?_) ⟨e, ?_⟩
  · have hy2 : y ∈ its := by simpa using hy
    obtain ⟨i, hi, rfl⟩ := List.mem_iff_getElem.mp hy2
    obtain ⟨t2, e2⟩ := hat i hi (by omega)
    rw [e2]
    exact eqGives_str _ _ _ _
  · obtain ⟨t2, e2⟩ := hat j (by omega) hjl
    have e3 : xs[j] = z := by
      rw [List.getElem?_eq_getElem hjl] at hj
      exact Option.some.inj hj
    show isS z its[j] = true
    rw [e2, e3]
    exact beq_self_eq_true z
  · intro m hm hlt
    have hm2 : m < its.length := by simpa using hm
    obtain ⟨t2, e2⟩ := hat m hm2 (by omega)
    show isS z its[m] = false
    rw [e2]
    have := hn m xs[m] hlt (List.getElem?_eq_getElem (by omega))
    show (xs[m] == z) = false
    rw [beq_eq_false_iff_ne]
    exact this
  · exact ⟨.int j, H, I.tok _, ⟨_, rfl⟩, q⟩
end
end L2
namespace L2
open PySem PySem.Spec PyProof.Rows
end L2
namespace L2
open PySem PySem.Spec PyProof.Rows
open AutoSeq1 (wpAny_loadPart')
section
variable {X : Cx}
end
section
variable {prog : Program} {w : World} {A : Around} {E : Value → Shared → Prop} {s : Shared}
end
section
variable {X : Cx}
end
section
variable {prog : Program} {w : World} {A : Around} {E : Value → Shared → Prop} {s : Shared}
end
section
variable {X : Cx}
def iEnum0 (K : PySem.W.Frag) (tl : TE) : TI := fun σ H R => tl σ H fun x H1 => ∃ a : Addr, x = .ref a ∧ (∃ xs, SqL K H1 a xs) ∧ R (Ite K a 0) H1
end
end L2
namespace L2
open PySem PySem.Spec PyProof.Rows
def lcSlots2 (fr : List Nat) (σ : St) (v v2 : Option V) : St := v :: v2 :: fr.map fun j => (σ[j]?).join
structure LcOk2 (X : Cx) (x x2 : Str) (ns : List Str) (fr : List Nat) (scope : Scope) (cl : List (Str × Addr)) : Prop where
  clos : closureFor scope X.env = pure cl
  nocell : ∀ y ∈ scope.names, y.2 ≠ .cell
  kind : scope.kind = .function
  own : ∀ y ∈ scope.names, y.2 = .local → scope.names.lookup y.1 = some .local
  var : scope.names.lookup x = some .local
  var2 : scope.names.lookup x2 = some .local
  sub : ∀ z c, cl.lookup z = some c → X.env.cells.lookup z = some c
  has : ∀ z, ((relabel scope X.env).names.lookup z = some .cell ∨ (relabel scope X.env).names.lookup z = some .free) → ∃ c, cl.lookup z = some c
  len : ns.length = fr.length
  from_ : ∀ (k : Nat) z j, ns[k]? = some z → fr[k]? = some j → X.N[j]? = some z ∧ X.env.scope.names.lookup z = some .cell ∧ ((relabel scope X.env).names.lookup z = some .cell ∨ (relabel scope X.env).names.lookup z = some .free)
  nd : (x :: x2 :: ns).Nodup
def lcLoop2 (K : PySem.W.Frag) (J : It) (fr : List Nat) (tt : TT) (te : TE) (σ : St) (D : Addr) (Q : Hp → Prop) (H : Hp) : Prop :=
  ∃ W : Nat → Nat → Hp → Prop, (∃ m, W 0 m H) ∧ ∀ i m H2, W i m H2 → (J.stop i H2 ∧ Q H2) ∨ (J.go i H2 ∧ ∀ v H', J.yld i H2 v H' → ∃ t va vb, v = .ref t ∧ SqT K H' t [va, vb] ∧ tt (lcSlots2 fr σ (some va) (some vb)) H' fun b H3 =>
    if b = true then te (lcSlots2 fr σ (some va) (some vb)) H3 fun y H4 => ∃ ys, H4 D = some (.lst ys) ∧ ys.length < sizeLine ∧ ∃ m', m' < m ∧ W (i + 1) m' (upd H4 D (.lst (ys ++ [y]))) else ∃ m', m' < m ∧ W (i + 1) m' H3)
section
variable {X : Cx} {pins : List (Addr × Obj)} {σ : St} {H : Hp} {s : Shared} {x x2 : Str} {ns : List Str} {fr : List Nat} {scope : Scope} {cl : List (Str × Addr)} {fp : List Addr}
def tLc2 (K : PySem.W.Frag) (wi : TI) (fr : List Nat) (tt : TT) (te : TE) : TE := fun σ H Q => wi σ H fun J H1 => ∀ D, H1 D = none → lcLoop2 K J fr tt te σ D (fun H2 => Q (.ref D) H2) (upd H1 D (.lst []))
end
section
variable {X : Cx} {x x2 : Str} {ns : List Str} {fr : List Nat} {scope : Scope} {cl : List (Str × Addr)}
end
end L2
namespace L2
open PySem PySem.Spec PyProof.Rows
open AutoSeq1 (wpAny_loadPart')
section
variable {prog : Program} {w : World} {A : Around} {E : Value → Shared → Prop} {s : Shared}
end
end L2
namespace L2
open PySem PySem.Spec PyProof.Rows
open AutoSeq1 (wpAny_loadPart')
section
variable {prog : Program} {w : World} {A : Around} {E : Value → Shared → Prop} {s : Shared}
end
end L2
namespace L2
open PySem PySem.Spec PyProof.Rows
open AutoSeq1 (wpAny_loadPart')
section
variable {prog : Program} {w : World} {A : Around} {E : Value → Shared → Prop} {s : Shared}
end
end L2
namespace L2
open PySem PySem.Spec PyProof.Rows
def Itz (K : PySem.W.Frag) (l1 l2 : Addr) : It :=
  ⟨fun i H => ∃ xs ys x y, SqL K H l1 xs ∧ SqT K H l2 ys ∧ xs[i]? = some x ∧ ys[i]? = some y,
   fun i H v H' => ∃ t x y, H t = none ∧ v = .ref t ∧ (∀ xs, SqL K H l1 xs → xs[i]? = some x) ∧ (∀ ys, SqT K H l2 ys → ys[i]? = some y) ∧ H' = upd H t (.tup [x, y]),
   fun i H => ∃ xs, SqL K H l1 xs ∧ xs.length = i⟩
section
variable {X : Cx}
def iZip (K : PySem.W.Frag) (tl tp : TE) : TI := fun σ H R => tl σ H fun x H1 => tp σ H1 fun y H2 => ∃ a b : Addr, x = .ref a ∧ y = .ref b ∧ (∃ xs, SqL K H2 a xs) ∧ (∃ ys, SqT K H2 b ys) ∧ R (Itz K a b) H2
end
end L2
namespace L2
open PySem PySem.Spec PyProof.Rows
section
variable {X : Cx}
end
section
variable {X : Cx}
end
end L2
namespace L2
open PySem PySem.Spec PyProof.Rows
open AutoSeq1 (wpAny_loadPart')
section
variable {prog : Program} {w : World} {A : Around} {E : Value → Shared → Prop} {s : Shared}
end
section
variable {X : Cx}
def tGetK (a : Addr) (D : List (Str × Addr)) (td ty : TE) : TE := fun σ H Q => td σ H fun x H1 => x = .ref a ∧ ty σ H1 fun y H2 => ∃ k b, y = .str k ∧ KTD.datumAt k D = some b ∧ Q (.ref b) H2
end
def Its (z : Str) : It := ⟨fun i _ => i < z.cps.size, fun i H v H' => (∃ c, z.cps[i]? = some c ∧ v = .str ⟨#[c]⟩) ∧ H' = H, fun i _ => z.cps.size ≤ i⟩
section
variable {X : Cx}
def iStr (tl : TE) : TI := fun σ H R => tl σ H fun x H1 => ∃ z, x = .str z ∧ (z.cps.all fun x => decide (x < 128)) = true ∧ R (Its z) H1
end
end L2
namespace L2
open PySem PySem.Spec PyProof.Rows
open PySem.NumText (AllDigits digitsVal)
def nt (n : Nat) : Str := Str.ofString (toString (n : Int))
end L2
namespace L2
open PySem PySem.Spec PyProof.Rows
theorem Same.putD {H H3 : Hp} {D : PySem.Addr} {o : HO} (h : Same H H3) (hD : H D = none) : Same H (upd H3 D o) := fun b u e => by
  have n : b ≠ D := fun q => by rw [q, hD] at e; cases e
  rw [upd_ne n]
  exact h b u e
end L2
namespace L2
open PySem PySem.Spec PyProof.Rows
section
variable {X : Cx}
def tFs (c : Str) (te : TE) : TE := fun σ H Q => c.length ≤ sizeLine ∧ te σ H fun v H1 => ∃ n : Int, v = .int n ∧ n.natAbs.log2 < 1920 ∧ (c ++ (Str.ofString (toString n))).length ≤ sizeLine ∧ Q (.str (c ++ Str.ofString (toString n))) H1
end
end L2
namespace L2
open PySem PySem.Spec PyProof.Rows
section
variable {M : Model} {A : Around} {E : Value → Shared → Prop} {s : Shared}
structure Lft (l : List Env) (e : Addr) (oe : Obj) (T0 : Option Addr) (h h' : Heap) : Prop where
  keep : ∀ b o, h.get? b = some o → b ∉ frs l → b ≠ e → some b ≠ T0 → h'.get? b = some o
  slot : ∀ b o, h.get? b = some o → b ∈ frs l → ∃ sl, h'.get? b = some { o with slots := sl }
  there : ∀ b o, h.get? b = some o → ∃ o', h'.get? b = some o'
  at_ : ∃ T oT ts, h.objs.size ≤ T ∧ h'.get? e = some (Obj.mapFields (·.setIfInBounds 1 (.ref T)) oe) ∧ h'.get? T = some oT ∧ oT.data = .fields ts ∧ ts[3]? = some .none
end
end L2
namespace L2
open PySem PySem.Spec PyProof.Rows
section
variable {prog : Program} {w : World} {A : Around} {R : Result → Shared → Prop} {h : Heap} {g : Array GenState} {d : Drawn} {t : Nat} {os : OsState}
variable {nm q : Str} {C N : Addr} {bs bm bmB : List Value} {hdct : Bool} {sn : List Str} {sub : List Value} {ab : Bool} {col : Option Bool} {dd : Option Addr} {k0 k1 k2 k3 k5 : Option Value} {B Bn newId nid initId inN : String} {bmN : List Value}
end
abbrev bmV : List Value := [.type "ValueError", .type "Exception", .type "BaseException", .type "object"]
section
variable {M : Model} {A : Around} {E : Value → Shared → Prop} {env : Env}
variable {nm q : Str} {C N : Addr} {bs bm : List Value} {hdct : Bool} {sn : List Str} {sub : List Value} {ab : Bool} {col : Option Bool} {dd : Option Addr} {k0 k1 k2 k3 k5 : Option Value} {newId : String}
variable {nm2 q2 : Str} {C2 N2 : Addr} {bs2 bm2 : List Value} {hdct2 : Bool} {sn2 : List Str} {sub2 : List Value} {ab2 : Bool} {col2 : Option Bool} {dd2 : Option Addr} {j0 j1 j2 j3 j5 : Option Value} {newId2 : String}
end
section
variable {prog : Program} {w : World} {A : Around} {E : Value → Shared → Prop} {h : Heap} {g : Array GenState} {d : Drawn} {t : Nat} {os : OsState}
variable {nm q : Str} {C N : Addr} {bs bm bmB : List Value} {hdct : Bool} {sn : List Str} {sub : List Value} {ab : Bool} {col : Option Bool} {dd : Option Addr} {k0 k1 k2 k3 k5 : Option Value} {B newId nid initId : String}
end
end L2
namespace L2
open PySem PySem.Spec PyProof.Rows
section
variable {K : PySem.W.Frag} {prog : Program} {w : World} {A : Around} {R : Result → Shared → Prop} {s : Shared} {x C Cb : Addr}
open PySem.W PySem.Builtin PySem.Builtin.ObjectAttr PySem.Builtin.Getset_descriptor in
open PySem.W PySem.Builtin PySem.Builtin.ObjectAttr PySem.Builtin.Getset_descriptor in
open PySem.W PySem.Builtin PySem.Builtin.ObjectAttr PySem.Builtin.Getset_descriptor in
open PySem.W PySem.Builtin PySem.Builtin.ObjectAttr PySem.Builtin.Getset_descriptor in
open PySem.W in
end
end L2
namespace L2
open PySem PySem.Spec PyProof.Rows
structure XCls (K : PySem.W.Frag) (C Cb : Addr) : Prop where
  lk : ∃ nm qn N bs sn sub ab col dd k0 k1 k2 k3 k5, K.lookup C = some (excClassObj nm qn C N bs (.ref Cb :: bmV) true sn sub ab col dd k0 k1 k2 k3 k5 "ValueError.__new__")
  lb : ∃ nm qn N bs hd sn sub ab col dd k0 k1 k2 k3 k5, K.lookup Cb = some (excClassObj nm qn Cb N bs bmV hd sn sub ab col dd k0 k1 k2 k3 k5 "ValueError.__new__")
  xb : PySem.W.excIn K Cb bmV "ValueError.__new__" = true
  sa : PySem.W.findIn K (.ref C) "__setattr__" = some (some (.builtin "object.__setattr__"))
  ga : PySem.W.findIn K (.ref C) "__getattribute__" = some (some (.builtin "BaseException.__getattribute__"))
  gn : PySem.W.findIn K (.ref C) "__getattr__" = some none
  cl : PySem.W.findIn K (.ref C) "__class__" = some (some (.builtin "object.__class__"))
  cg : PySem.W.specialIn K (.builtin "object.__class__") "__get__" = some (some (.builtin "getset_descriptor.__get__"))
  ct : PySem.W.takesIn K (.builtin "object.__class__") = some true
  mo : PySem.W.mroIn K C (.type "object") = some true
  kp : PySem.W.keepIn K (.ref C) = true
def XOc (cb : Bool) (C x : Addr) (dx : Option Addr) (raw : Bool) (h : Heap) : Prop := ∃ vs sl a0, h.get? x = some ⟨.ref C, dx, .fields vs, sl⟩ ∧ vs[0]? = some (.ref a0) ∧ 4 < vs.size ∧ (raw = true → vs[1]? = some .none) ∧ (cb = true → vs[2]? = some .none)
abbrev XO (C x : Addr) (dx : Option Addr) (raw : Bool) : Heap → Prop := XOc true C x dx raw
section
variable {X : Cx} {CX : CXT} {k : Nat} {f C Cb : Addr} {fd : FuncData} {ps : List Str} {sp : Sp} {dvs : List V} {ds : List Value} {E : XK} {x m : Str} {p pos apos : Pos} {e o : Expr} {es : List Expr} {ta : TE} {t : TA}
def tXMake (C : Addr) (sp : Sp) (dvs : List V) (E : XK) (t : TA) : TE := fun σ H Q => t σ H fun vs H1 => vs.length ≤ 1000 ∧ ∀ x, H1 x = none → sp (.ref x :: (vs ++ dvs)) (upd H1 x (.ext (XO C x none true))) (fun v H2 => v = .non ∧ Q (.ref x) H2) E
def sXFld (K : PySem.W.Frag) (ta tv : TE) (f : Str) : TS := fun D σ H => tv σ H fun y H1 => ta σ H1 fun x H2 => ∃ a C Cb, x = .ref a ∧ H2 a = some (.ext (XO C a none true)) ∧ XCls K C Cb ∧ PySem.W.takerIn K C f = some none ∧
  ∀ dx, H2 dx = none → D.nx σ (upd (upd H2 a (.ext (XO C a (some dx) true))) dx (.xd [(f, y)]))
structure XInit (K : PySem.W.Frag) (Cb : Addr) : Prop where
  sp : PySem.W.specialIn K (.ref Cb) "__getattribute__" = some (some (.builtin "type.__getattribute__"))
  rd : PySem.W.readsIn K Cb (.type "type") = true
  fd : PySem.W.findCls K (.ref Cb) (.type "type") "__init__" = some (.val (.builtin "ValueError.__init__"))
def tXInit (K : PySem.W.Frag) (t : TA) : TE := fun σ H Q => t σ H fun vs H1 => ∃ a C Cb z dx, vs = [.ref a, .str z] ∧ H1 a = some (.ext (XO C a dx true)) ∧ XCls K C Cb ∧ Q .non H1
end
end L2
namespace L2
open PySem PySem.Spec PyProof.Rows
def TBk (h : Heap) (H : Hp) (a : Addr) : Prop := ∃ o vs T oT ts, h.get? a = some o ∧ o.data = .fields vs ∧ vs[1]? = some (.ref T) ∧ T ≠ a ∧ h.get? T = some oT ∧ oT.data = .fields ts ∧ ts[3]? = some .none ∧ H T = none
section
variable {P : Program} {w : World} {K : PySem.W.Frag} {mg : Str → Option Value} {base : Heap}
def sRaise (K : PySem.W.Frag) (E : XK) (te : TE) : TS := fun _ σ H => te σ H fun v H1 => ∃ a C Cb dx, v = .ref a ∧ XCls K C Cb ∧ H1 a = some (.ext (XO C a (some dx) true)) ∧ E (.ref C) (some a) (upd H1 a (.ext (XO C a (some dx) false)))
end
end L2
namespace L2
open PySem PySem.Spec PyProof.Rows
section
variable {M : Model} {A : Around} {E : Value → Shared → Prop} {s : Shared}
end
section
variable {X : Cx} {k : Nat} {f C : Addr} {fd : FuncData} {ps : List Str} {sp : Sp} {dvs : List V} {ds : List Value} {E : XK}
def XP (X : Cx) (pins : List (Addr × Obj)) (σ : St) (E : XK) (e : Value) (s' : Shared) : Prop := ∃ a C dx cb H', e = .ref a ∧ Inv X pins σ H' s' ∧ H' a = some (.ext (XOc cb C a (some dx) false)) ∧ TBk s'.heap H' a ∧ E (.ref C) (some a) H'
end
end L2
namespace L2
open PySem PySem.Spec PyProof.Rows
section
variable {prog : Program} {w : World} {A : Around} {E : Value → Shared → Prop} {s : Shared} {env : Env}
end
section
variable {X : Cx} {k : Nat} {f C2 : Addr} {fd : FuncData} {ps : List Str} {sp : Sp} {dvs : List V} {ds : List Value} {x y n cn : Str} {p np pos apos hpos cpos xpos : Pos} {e : Expr} {es : List Expr} {t : TA} {ts : TS} {b0 : Stmt} {suite : List Stmt} {i j : Nat}
def sTry (K : PySem.W.Frag) (C2 : Addr) (i j : Nat) (sp : Sp) (dvs : List V) (t : TA) (ts : TS) : TS := fun D σ H => t σ H fun vs H1 => sp (vs ++ dvs) H1 (fun v H2 => D.nx (σ.set i (some v)) H2)
  (fun cls a H2 => ∃ b C Cb, cls = .ref C ∧ a = some b ∧ XCls K C Cb ∧ (C2 = C ∨ C2 = Cb) ∧ ts { nx := fun σ' H' => D.nx (σ'.set j none) H', rt := D.rt } (σ.set j (some (.ref b))) H2)
def sTry0 (K : PySem.W.Frag) (C2 : Addr) (i : Nat) (sp : Sp) (dvs : List V) (t : TA) (ts : TS) : TS := fun D σ H => t σ H fun vs H1 => sp (vs ++ dvs) H1 (fun v H2 => D.nx (σ.set i (some v)) H2)
  (fun cls a H2 => ∃ b C Cb, cls = .ref C ∧ a = some b ∧ XCls K C Cb ∧ (C2 = C ∨ C2 = Cb) ∧ ts D σ H2)
def tXFld (K : PySem.W.Frag) (ta : TE) (g : Str) : TE := fun σ H Q => ta σ H fun x H1 => ∃ a C Cb dx fs raw i, x = .ref a ∧ H1 a = some (.ext (XO C a (some dx) raw)) ∧ H1 dx = some (.xd fs) ∧ XCls K C Cb ∧ PySem.W.findIn K (.ref C) g = some none ∧ fs.lookup g = some (.int i) ∧ Q (.int i) H1
end
section
variable {prog : Program} {w : World} {A : Around} {E : Value → Shared → Prop} {s : Shared}
end
section
variable {X : Cx}
def tGetK0 (a : Addr) (D : List (Str × Addr)) (td ty : TE) : TE := fun σ H Q => td σ H fun x H1 => x = .ref a ∧ ty σ H1 fun y H2 => ∃ k, y = .str k ∧ ((∃ b, KTD.datumAt k D = some b ∧ Q (.ref b) H2) ∨ (KTD.datumAt k D = none ∧ Q .non H2))
def tFs3 (c c2 : Str) (te : TE) : TE := fun σ H Q => c.length ≤ sizeLine ∧ te σ H fun v H1 => ∃ n : Int, v = .int n ∧ n.natAbs.log2 < 1920 ∧ (c ++ (Str.ofString (toString n))).length ≤ sizeLine ∧ (c ++ (Str.ofString (toString n)) ++ c2).length ≤ sizeLine ∧ Q (.str (c ++ Str.ofString (toString n) ++ c2)) H1
end
end L2
namespace L2
open PySem PySem.Spec PyProof.Rows
section
variable {X : Cx}
end
end L2
namespace L2
open PySem PySem.Spec PyProof.Rows
section
variable {X : Cx}
inductive DispR : List (Option Expr) → List Expr → List (Key × V) → Prop
  | nil : DispR [] [] []
  | int {x n u1 p1 u2 p2 ks vs r} : DispR ks vs r → DispR (some (.Constant (.str x) u1 p1) :: ks) (.Constant (.int n) u2 p2 :: vs) ((.inr x, .int n) :: r)
  | str {x y u1 p1 u2 p2 ks vs r} : DispR ks vs r → DispR (some (.Constant (.str x) u1 p1) :: ks) (.Constant (.str y) u2 p2 :: vs) ((.inr x, .str y) :: r)
end
end L2
namespace L2
open PySem PySem.Spec PyProof.Rows
abbrev calmA (A : Around) : Around := { A with handled := none }
structure FnOkH (P : Program) (w : World) (K : PySem.W.Frag) (mg : Str → Option Value) (base : Heap) (CX : CXT) (k : Nat) (f : Addr) (fd : FuncData) (ps : List Str) (sp : Sp) : Prop where
  len : ∀ vs H Q E, sp vs H Q E → vs.length = ps.length
  run : ∀ (A : Around) (outer : List Env) (s : Shared) (H : Hp) (args : Args) (us : List Value) (vs : List V) (Q : VK) (E : XK), Room k (calmA A) → Env0 P w K mg base A outer s H → BindsTo s fd args (ps.zip us) → Vals vs us → sp vs H Q E →
    codeAny (model P w) A (.call (.ref f) args) (CR CX outer P w H s Q E) s
section
variable {P : Program} {w : World} {K : PySem.W.Frag} {mg : Str → Option Value} {base : Heap}
end
section
variable {X : Cx} {CX : CXT} {k : Nat} {f C Cb : Addr} {fd : FuncData} {ps : List Str} {sp : Sp} {dvs : List V} {ds : List Value} {E : XK} {x m : Str} {p pos apos : Pos} {e o : Expr} {es : List Expr} {ta : TE} {t : TA}
end
section
variable {prog : Program} {w : World} {A : Around} {E : Value → Shared → Prop} {s : Shared} {env : Env}
end
section
variable {P : Program} {w : World} {K : PySem.W.Frag} {mg : Str → Option Value} {base : Heap}
end
section
variable {prog : Program} {w : World} {A : Around} {E : Value → Shared → Prop} {s : Shared} {env : Env}
end
section
variable {X : Cx} {k : Nat} {f C2 : Addr} {fd : FuncData} {ps : List Str} {sp : Sp} {dvs : List V} {ds : List Value} {x y n cn : Str} {p np pos apos hpos cpos xpos : Pos} {e : Expr} {es : List Expr} {t : TA} {b0 : Stmt} {body suite : List Stmt} {i j : Nat}
end
section
variable {X : Cx} {pos : Pos}
end
end L2
namespace L2
open PySem PySem.Spec PyProof.Rows
theorem ns_one {h : Heap} {L : Addr} {m m' : Str → Option Value} (a : h.Ns L m) (b : h.Ns L m') : m = m' := by
  obtain ⟨o, es, ep, e, d, k, f⟩ := a
  obtain ⟨o', es', ep', e', d', k', f'⟩ := b
  rw [e] at e'
  cases e'
  rw [d] at d'
  cases d'
  funext x
  rw [← f, ← f']
def led (h : Heap) (T : List Addr) : List (Addr × Obj) := (List.range h.objs.size).filterMap fun a => if a ∈ T then none else (h.get? a).map fun o => (a, o)
theorem mem_led {h : Heap} {T : List Addr} {a : Addr} {o : Obj} : (a, o) ∈ led h T ↔ a ∉ T ∧ h.get? a = some o := by
  unfold led
  rw [List.mem_filterMap]
  constructor
  · rintro ⟨b, _, e⟩
    split at e
    · cases e
    · next hb =>
      obtain ⟨o', ho, e'⟩ := Option.map_eq_some_iff.mp e
      cases e'
      exact ⟨hb, ho⟩
  · rintro ⟨n, ho⟩
    refine ⟨a, List.mem_range.mpr (Heap.lt_size ho), ?_⟩
    rw [if_neg n, ho]
    rfl
section
variable {X : Cx} {pins : List (Addr × Obj)} {σ : St} {H : Hp} {s : Shared}
structure Newer (X : Cx) (pins : List (Addr × Obj)) (b : Addr) : Prop where
  sz : X.s₀.heap.objs.size ≤ b
  loc : b ≠ X.env.locals
  cell : ∀ x c, X.env.cells.lookup x = some c → c ≠ b
  pin : ∀ p ∈ X.pn ++ pins, p.1 ≠ b
  fs : b ∉ X.fs
theorem Inv.newer {b : Addr} (I : Inv X pins σ H s) (h : s.heap.objs.size ≤ b) : Newer X pins b where
  sz := Nat.le_trans I.sz h
  loc := Nat.ne_of_gt (Nat.lt_of_lt_of_le I.lt h)
  cell := fun x c e => by
    obtain ⟨v, o, ho, _⟩ := I.cell x c e
    exact Nat.ne_of_lt (Nat.lt_of_lt_of_le (Heap.lt_size ho) h)
  pin := fun p hp => Nat.ne_of_lt (Nat.lt_of_lt_of_le (Heap.lt_size (I.pin p hp).1) h)
  fs := I.nofs h
theorem Inv.adopt {T : List Addr} {a : Addr} {o : HO} {h' : Heap} {t' : Nat} (I : Inv X pins σ H s) (hT : ∀ b ∈ T, Newer X pins b ∧ H b = none) (ha : a ∈ T)
    (k : ∀ b u, b ∉ T → b ≠ X.env.locals → s.heap.get? b = some u → h'.get? b = some u) (hL : ∀ m, s.heap.Ns X.env.locals m → h'.Ns X.env.locals m)
    (new : ObjOk X.prog X.w (upd H a o) h' a o) : Inv X pins σ (upd H a o) { s with heap := h', toks := t' } := by
  have nT : ∀ b u, H b = some u → b ∉ T := fun b u e z => by rw [(hT b z).2] at e; cases e
  have na : ∀ b u, H b = some u → b ≠ a := fun b u e z => nT b u e (z ▸ ha)
  have nL : ∀ b u, H b = some u → b ≠ X.env.locals := fun b u e z => by rw [z, I.free] at e; cases e
  obtain ⟨m, hn, _⟩ := id I.loc
  refine I.step (g' := s.gens) (d' := s.drawn) (ch := T) (fun b hb => ⟨.inr (hT b hb).1.sz, (hT b hb).1.loc, (hT b hb).1.cell, (hT b hb).1.pin⟩) (fun b u h1 _ h2 e _ => k b u h2 h1 e) (fun b u h1 _ h2 e _ => ⟨u.slots, k b u h2 h1 e⟩)
    (fun b u h2 e n => by rw [upd_ne (fun z : b = a => h2 (by rw [z]; exact ha))]; exact n) (fun b u h2 e => ?_) (fun b xs e => by rw [upd_ne (na b _ e)]; exact e) (fun b u xs e => by rw [upd_ne (na b _ e)]; exact e) (fun b ps e => ⟨#[], by rw [upd_ne (na b _ e), e]; simp⟩) hL (fun b u e => ?_) I.bare
  · by_cases z : b = X.env.locals
    · subst z
      obtain ⟨o', _, _, ho, _⟩ := hL m hn
      exact ⟨o', ho⟩
    · exact ⟨u, k b u h2 z e⟩
  · by_cases z : b = a
    · subst z
      rw [upd_same] at e
      cases e
      exact new
    · rw [upd_ne z] at e
      refine (I.hok b u e).stay (fun c v hc q => ?_) (fun c q => by rw [upd_ne (na c _ q)]; exact q) fun c xs q => by rw [upd_ne (na c _ q)]; exact q
      rcases hc with rfl | hc
      · exact k c v (nT _ _ e) (nL _ _ e) q
      · exact k c v (nT _ _ hc) (nL _ _ hc) q
theorem ksk_outs {its out : List Value} {ns : List Int} {g : Int → Int} (hi : IntsAre its ns) (ko : KskOut false (ns.map g) its out) : ∃ ns' : List Int, IntsAre out ns' ∧ ns'.Perm ns ∧ ns'.Pairwise (fun x y => g x ≤ g y) := by
  obtain ⟨ps, hp, rfl, hs⟩ := ko
  have hrel : ∀ p ∈ (ns.map g).zip its, p.1 = g (numOf p.2) ∧ p.2 ∈ its := by
    rw [← hi.nums, List.map_map, List.zip_map_left]
    intro p hp
    obtain ⟨⟨u, v⟩, hq, rfl⟩ := List.mem_map.mp hp
    obtain ⟨h1, h2⟩ := mem_zip_self hq
    have h1 : u = v := h1
    have h2 : u ∈ its := h2
    subst h1
    exact ⟨rfl, h2⟩
  refine ⟨(ps.map Prod.snd).map numOf, intsAre_map _ fun v hv => ?_, ?_, ?_⟩
  · obtain ⟨p, hp', rfl⟩ := List.mem_map.mp hv
    exact hi.all _ (hrel p (hp.mem_iff.mp hp')).2
  · have h1 := (hp.map Prod.snd).map numOf
    have hl := hi.length
    rw [List.map_snd_zip (by rw [List.length_map]; omega), hi.nums] at h1
    exact h1
  · rw [List.pairwise_map, List.pairwise_map]
    refine hs.imp_of_mem fun {p q} hp' hq' hr => ?_
    have hr' : p.1 ≤ q.1 := by simpa using hr
    rw [(hrel p (hp.mem_iff.mp hp')).1, (hrel q (hp.mem_iff.mp hq')).1] at hr'
    exact hr'
theorem sort_key {l f : Addr} {ns : List Int} {g : Int → Int} {Q : VK} {E : Value → Shared → Prop} {fp : List (Addr × Obj)} (I : Inv X (fp ++ pins) σ H s) (hl : SqL X.K H l (ns.map V.int)) (h64 : ns.length < 64)
    (turn : ∀ (n : Int) (t : Tok) (pins' : List (Addr × Obj)) (s' : Shared), n ∈ ns → Inv X (pins' ++ (fp ++ pins)) σ H s' → wpAny (model X.prog X.w) X.A.in1.in1 (call (.ref f) [.int n t]) (EP X (pins' ++ (fp ++ pins)) σ (fun v H2 => v = .int (g n) ∧ H2 = H)) (fun _ _ => False) s')
    (q : ∀ (D : Addr) (ns' : List Int), H D = none → ns'.Perm ns → ns'.Pairwise (fun x y => g x ≤ g y) → Q (.ref D) (upd H D (.lst (ns'.map V.int)))) :
    wpAny (model X.prog X.w) X.A (call (.builtin "sorted") [.ref l] [(Str.ofString "key", .ref f)]) (EP X pins σ Q) E s := by
  obtain ⟨its, rv, pl, hz⟩ := I.list hl
  have hI := intsAre_of rv
  have hlen := hI.length
  have hi64 : its.length < 64 := by omega
  refine call_function_entry_kw kind_sorted plain_sorted entry_sorted (ksk_s1 _ _) ?_
  unfold Builtin.«sorted»
  refine wpAny_bind (m := checkCount "sorted" 1 1 _) (wpAny_pure ?_)
  refine wpAny_bind (collect_list pl.isList ?_ (by rw [sizeLine_eq]; omega))
  refine wpAny_bind (wpAny_newList ?_ (by rw [sizeLine_eq]; omega))
  have hsz : ((s.heap.push (seqObj "list" #[] 0)).update s.heap.objs.size (Obj.mapSeq (· ++ its.toArray))).objs.size = s.heap.objs.size + 1 := by
    rw [Heap.size_update, size_push']
  have hoL : (((s.heap.push (seqObj "list" #[] 0)).update s.heap.objs.size (Obj.mapSeq (· ++ its.toArray))).push (seqObj "list" its.toArray 0)).get? (s.heap.objs.size + 1) = some (seqObj "list" its.toArray 0) := by
    rw [← hsz]; exact Heap.get?_push_size _ rfl
  have keep : ∀ b o, s.heap.get? b = some o → (((s.heap.push (seqObj "list" #[] 0)).update s.heap.objs.size (Obj.mapSeq (· ++ its.toArray))).push (seqObj "list" its.toArray 0)).get? b = some o := fun b o q => by
    have hlt : b < s.heap.objs.size := Heap.lt_size q
    rw [Heap.get?_push_ne _ _ _ (by rw [hsz]; exact Nat.ne_of_lt (Nat.lt_succ_of_lt hlt)), Heap.get?_update_ne _ _ _ _ (Nat.ne_of_lt hlt), Heap.get?_push_ne _ _ _ (Nat.ne_of_lt hlt)]
    exact q
  have sz1 : (((s.heap.push (seqObj "list" #[] 0)).update s.heap.objs.size (Obj.mapSeq (· ++ its.toArray))).push (seqObj "list" its.toArray 0)).objs.size = s.heap.objs.size + 2 := by
    rw [size_push', hsz]
  show wpAny _ _ _ _ _ { s with heap := ((s.heap.push (seqObj "list" #[] 0)).update s.heap.objs.size (Obj.mapSeq (· ++ its.toArray))).push (seqObj "list" its.toArray 0) }
  rw [hsz]
  have hna : H (s.heap.objs.size + 1) = none := I.hok.fresh (Nat.le_succ _)
  have newA := I.newer (b := s.heap.objs.size + 1) (Nat.le_succ _)
  have I1 := I.kept (t' := s.toks) keep
  generalize ((s.heap.push (seqObj "list" #[] 0)).update s.heap.objs.size (Obj.mapSeq (· ++ its.toArray))).push (seqObj "list" its.toArray 0) = hA at hoL sz1 I1
  refine wpAny_bind (wpAny_holding (wpAny_call_entry_kw slot_list_sort ⟨_, hoL, rfl⟩ entry_list_sort ?body (ksk_l1 _ _)))
  case body =>
    show wpAny (model X.prog X.w) X.A.in1.in1 (Builtin.«list.sort» ⟨[.ref (s.heap.objs.size + 1)], [(Str.ofString "key", .ref f)]⟩) _ _ _
    rw [ksk_t1]
    unfold ksk_tree
    refine wpAny_bind (listItems_at hoL rfl ?_)
    refine wpAny_bind (listUpdate_at hoL rfl ?_ (by rw [List.size_toArray, sizeLine_eq]; omega) (Nat.zero_le _))
    have s1 := Heap.SameBut.update hA (s.heap.objs.size + 1) (Obj.mapSeq fun _ => (#[] : Array Value))
    obtain ⟨e1, ho1⟩ : ∃ e1, (hA.update (s.heap.objs.size + 1) (Obj.mapSeq fun _ => (#[] : Array Value))).get? (s.heap.objs.size + 1) = some (seqObj "list" #[] e1) := ⟨_, get?_update_seq hoL fun _ => #[]⟩
    have I2 := I1.turned (t' := s.toks) (it := s.heap.objs.size + 1) (h' := hA.update (s.heap.objs.size + 1) (Obj.mapSeq fun _ => (#[] : Array Value))) (fun b o n e => (s1.2 b n).trans e) hna newA.loc (.inr newA.sz) newA.cell newA.pin
    have sz2 : (hA.update (s.heap.objs.size + 1) (Obj.mapSeq fun _ => (#[] : Array Value))).objs.size = s.heap.objs.size + 2 := by rw [Heap.size_update, sz1]
    generalize hA.update (s.heap.objs.size + 1) (Obj.mapSeq fun _ => (#[] : Array Value)) = hB at ho1 I2 sz2
    refine wpAny_bind (seqEpoch_at ho1 rfl ?_)
    refine wpAny_bind (wpAny_newTuple ?_ (by show its.length ≤ _; rw [sizeLine_eq]; omega))
    refine wpAny_bind (wpAny_newList ?_ (Nat.zero_le _))
    refine wpAny_holding ?_
    have hkS : (hB.push (seqObj "tuple" its.toArray 0)).objs.size = s.heap.objs.size + 3 := by rw [size_push', sz2]
    have k3 : ∀ b o, hB.get? b = some o → ((hB.push (seqObj "tuple" its.toArray 0)).push (seqObj "list" #[] 0)).get? b = some o := fun b o e => Heap.get?_push_of_some _ (Heap.get?_push_of_some _ e)
    have ho3 : ((hB.push (seqObj "tuple" its.toArray 0)).push (seqObj "list" #[] 0)).get? (s.heap.objs.size + 3) = some (seqObj "list" #[] 0) := by
      rw [← hkS]
      exact Heap.get?_push_size _ rfl
    have I3 := I2.kept (t' := s.toks) k3
    have ho2 := k3 _ _ ho1
    have hnk : H (s.heap.objs.size + 3) = none := I.hok.fresh (by omega)
    have newK := I.newer (b := s.heap.objs.size + 3) (by omega)
    show wpAny (model X.prog X.w) X.A.in1.in1 (ksk_rest _ _ _ _ _ (.ref (hB.push (seqObj "tuple" its.toArray 0)).objs.size)) _ _ { s with heap := (hB.push (seqObj "tuple" its.toArray 0)).push (seqObj "list" #[] 0) }
    rw [hkS]
    generalize (hB.push (seqObj "tuple" its.toArray 0)).push (seqObj "list" #[] 0) = hC at I3 ho2 ho3
    have hka : s.heap.objs.size + 3 ≠ s.heap.objs.size + 1 := by omega
    generalize s.heap.objs.size + 3 = kS at ho3 hnk newK hka
    generalize s.heap.objs.size + 1 = a at ho2 hna newA hka
    have pin2 : ∀ {s' : Shared} {kA : Array Value} {e : Nat}, Inv X (fp ++ pins) σ H s' → s'.heap.get? kS = some (seqObj "list" kA e) → s'.heap.get? a = some (seqObj "list" #[] e1) → Inv X ([(kS, seqObj "list" kA e), (a, seqObj "list" #[] e1)] ++ (fp ++ pins)) σ H s' := fun {s' kA e} J h1 h2 => by
      refine J.pins_of fun p hp => ?_
      rcases List.mem_append.mp hp with hp | hp
      · rcases List.mem_cons.mp hp with rfl | hp
        · exact ⟨h1, hnk, newK.loc, newK.fs, fun v z => by cases z⟩
        · rw [List.mem_singleton.mp hp]
          exact ⟨h2, hna, newA.loc, newA.fs, fun v z => by cases z⟩
      · exact J.pin p (List.mem_append_right _ hp)
    have drop2 : ∀ {s' : Shared} {kA : Array Value} {e : Nat}, Inv X ([(kS, seqObj "list" kA e), (a, seqObj "list" #[] e1)] ++ (fp ++ pins)) σ H s' → Inv X (fp ++ pins) σ H s' ∧ s'.heap.get? kS = some (seqObj "list" kA e) ∧ s'.heap.get? a = some (seqObj "list" #[] e1) := fun {s' kA e} J =>
      ⟨J.pins_of fun p hp => J.pin p (List.mem_append_right _ (List.mem_append_right _ hp)), (J.pin (kS, seqObj "list" kA e) (List.mem_append_right _ (by simp))).1, (J.pin (a, seqObj "list" #[] e1) (List.mem_append_right _ (by simp))).1⟩
    unfold ksk_rest
    refine wpAny_bind (wpAny_rule ?_)
    first
      | rw [List.forIn_toArray]
      | (rw [← Array.forIn_toList]; simp only [List.toList_toArray])
      | rw [← Array.forIn_toList]
    refine wpAny_bind (ksk_fold (fun i s' => ∃ kA e, Inv X ([(kS, seqObj "list" kA e), (a, seqObj "list" #[] e1)] ++ (fp ++ pins)) σ H s' ∧ IntsAre kA.toList ((ns.map g).take i)) its 0 _ ⟨#[], 0, pin2 I3 ho3 ho2, by simpa using IntsAre.nil⟩ ?step ?done)
    case step =>
      rintro j x s' hx ⟨kA, e, J, hk⟩
      simp only [Nat.zero_add] at hk ⊢
      have hj : j < its.length := (List.getElem?_eq_some_iff.mp hx).1
      obtain ⟨n, t, rfl, hn⟩ := hI.at j x hx
      have hz : kA.size ≤ its.length := by
        have h1 := hk.length
        rw [Array.length_toList, List.length_take, List.length_map] at h1
        omega
      refine wpAny_bind (wpAny_attempt (wpAny_mono (turn n t _ s' (List.mem_of_getElem? hn) J) (fun v s2 he => ?_) fun _ _ hF => hF.elim))
      obtain ⟨v', H2, J2, rv, ev, eH⟩ := he
      subst ev
      subst eH
      obtain ⟨t2, rfl⟩ := rv
      try dsimp only
      obtain ⟨J3, nk, na⟩ := drop2 J2
      have s1 := Heap.SameBut.update s2.heap kS (Obj.mapSeq (·.push (.int (g n) t2)))
      obtain ⟨c2, hc2⟩ : ∃ c2, (s2.heap.update kS (Obj.mapSeq (·.push (.int (g n) t2)))).get? kS = some (seqObj "list" (kA.push (.int (g n) t2)) c2) := ⟨_, get?_update_seq nk (·.push (.int (g n) t2))⟩
      have ek : (ns.map g).take (j + 1) = (ns.map g).take j ++ [g n] := by rw [List.take_add_one, List.getElem?_map, hn]; rfl
      have ea : (kA.push (Value.int (g n) t2)).toList = kA.toList ++ [Value.int (g n) t2] := by simp
      refine wpAny_bind (listUpdate_at nk rfl ?_ (by rw [sizeLine_eq]; omega) (Nat.le_trans (Nat.le_of_eq (Array.size_push ..)) (by rw [sizeLine_eq]; omega)))
      refine wpAny_pure ⟨rfl, kA.push (.int (g n) t2), c2, pin2 (J3.turned (t' := s2.toks) (it := kS) (fun b o n e => (s1.2 b n).trans e) hnk newK.loc (.inr newK.sz) newK.cell newK.pin) hc2 ((s1.2 a hka.symm).trans na), by rw [ea, ek]; exact ksk_snoc hk⟩
    case done =>
      rintro s' ⟨kA, e, J, hk⟩
      have hk' : IntsAre kA.toList (ns.map g) := by
        have e3 : (ns.map g).take (0 + its.length) = ns.map g := List.take_of_length_le (by rw [List.length_map]; omega)
        rw [e3] at hk
        exact hk
      obtain ⟨J3, nk, na⟩ := drop2 J
      try dsimp only
      refine wpAny_bind (listItems_at nk rfl ?_)
      obtain ⟨m, hn, _⟩ := id J3.loc
      refine ksk_end_ (e := e) (e1 := e1) (h₀ := Att.noObjs s'.heap) (L := X.env.locals) (m := m) (news := led s'.heap [X.env.locals, kS, a]) (Att.fr_all hn) (fun p hp => ?_) hka (fun p hp => ?_) (fun p hp => ?_) hk' (by rw [List.length_map, hlen]) hi64 fun h' tk out c F3 N3 ko => ⟨_, rfl, ?_⟩
      · rcases List.mem_append.mp hp with hp | hp
        · obtain ⟨b, o⟩ := p
          obtain ⟨n1, n2⟩ := mem_led.mp hp
          exact ⟨n2, fun z => n1 (by simp [show b = _ from z]), Att.noObjs_get _ _⟩
        · rcases List.mem_cons.mp hp with rfl | hp
          · exact ⟨nk, newK.loc, Att.noObjs_get _ _⟩
          · rw [List.mem_singleton.mp hp]
            exact ⟨na, newA.loc, Att.noObjs_get _ _⟩
      · obtain ⟨b, o⟩ := p
        exact fun z => (mem_led.mp hp).1 (by simp [show b = _ from z])
      · obtain ⟨b, o⟩ := p
        exact fun z => (mem_led.mp hp).1 (by simp [show b = _ from z])
      obtain ⟨ns', o1, o2, o3⟩ := ksk_outs hI ko
      have hlo := o2.length_eq
      have J4 : Inv X pins σ H s' := J3.pins_of fun p hp => J3.pin p (List.mem_append_right _ (List.mem_append_right _ hp))
      have newA' : Newer X pins a := ⟨newA.sz, newA.loc, newA.cell, fun p hp => newA.pin p ((List.mem_append.mp hp).elim (fun z => List.mem_append_left _ z) fun z => List.mem_append_right _ (List.mem_append_right _ z)), newA.fs⟩
      have newK' : Newer X pins kS := ⟨newK.sz, newK.loc, newK.cell, fun p hp => newK.pin p ((List.mem_append.mp hp).elim (fun z => List.mem_append_left _ z) fun z => List.mem_append_right _ (List.mem_append_right _ z)), newK.fs⟩
      have J5 := J4.adopt (T := [kS, a]) (a := a) (o := .lst (ns'.map V.int)) (h' := h') (t' := tk) (fun b hb => by
        rcases List.mem_cons.mp hb with rfl | hb
        · exact ⟨newK', hnk⟩
        · rw [List.mem_singleton.mp hb]
          exact ⟨newA', hna⟩) (by simp) (fun b u n1 n2 e => (N3 (b, u) (List.mem_cons_of_mem _ (mem_led.mpr ⟨by simp only [List.mem_cons, List.not_mem_nil, or_false, not_or] at n1 ⊢; exact ⟨n2, n1⟩, e⟩))).1) (fun m' hm' => by rw [ns_one hm' hn]; exact F3.ns)
        ⟨by rw [List.length_map, sizeLine_eq]; omega, out.toList, c, vals_ints o1, by rw [Array.toArray_toList]; exact (N3 _ (List.mem_cons_self ..)).1⟩
      exact wpAny_pure ⟨_, rfl, .ref a, _, J5, rfl, q a ns' hna o2 o3⟩
structure LamSc (scope : Scope) (p fv : Str) : Prop where
  kind : scope.kind = .function
  co : scope.isCoroutine = false
  gen : scope.isGenerator = false
  par : scope.names.lookup p = some .local
  free : scope.names.lookup fv = some .free
  only : ∀ x ∈ scope.names, x.2 = .free → x.1 = fv
  cell : ∀ x ∈ scope.names, x.2 ≠ .cell
  ne : p ≠ fv
def lamCx (X : Cx) (p fv : Str) (env : Env) (s : Shared) (H : Hp) : Cx := { X with A := X.A.in1.in1.deeper env, N := [p, fv], s₀ := s, H₀ := H, env := env, outer := X.stack, stack := env :: X.stack, ex := [], fn := fun _ => false, pn := [], xe := fun _ _ => False }
theorem inv_lam {p fv qual : Str} {scope : Scope} {f cv : Addr} {cd : Value} {i : Nat} {v vf : V} {u : Value} {h1 : Heap} {tk : Nat} (I : Inv X pins σ H s) (S : LamSc scope p fv) (hi : X.N[i]? = some fv) (hσ : σ[i]? = some (some vf)) (hk : X.env.scope.names.lookup fv = some .cell) (hc : X.env.cells.lookup fv = some cv) (ru : RelV v u)
    (hns : h1.Ns s.heap.objs.size (fun x => [(p, u)].reverse.lookup x)) (hsb : Heap.SameBut s.heap.objs.size (s.heap.push { cls := .type "frame", data := .dict #[] }) h1) :
    Inv (lamCx X p fv (PySem.W.envX qual scope s.heap.objs.size f cd [(fv, cv)]) s H) [] [some v, some vf] H { s with heap := h1, toks := tk } := by
  have all : ∀ b o, s.heap.get? b = some o → h1.get? b = some o := fun b o e => (hsb.2 b (Nat.ne_of_lt (Heap.lt_size e))).trans (Heap.get?_push_of_some _ e)
  have one : ∀ x c, List.lookup x [(fv, cv)] = some c → x = fv ∧ c = cv := fun x c e => by
    rw [List.lookup_cons] at e
    split at e
    · next z => exact ⟨by simpa using z, by cases e; rfl⟩
    · cases e
  have onl : ∀ x, scope.names.lookup x = some .free → x = fv := fun x e => S.only _ (PySem.mem_of_lookup e) rfl
  have ncl : ∀ x, scope.names.lookup x ≠ some .cell := fun x e => S.cell _ (PySem.mem_of_lookup e) rfl
  obtain ⟨m, hm, hl⟩ := I.loc
  obtain ⟨uf, rf, l⟩ := hl i fv vf hi hσ (.inr (.inl hk))
  have hcell : s.heap.IsCell cv (some uf) := by
    rcases l with ⟨z, _⟩ | ⟨_, c, e, z⟩
    · rw [show X.env.kindOf fv = some .cell from hk] at z
      cases z
    · rw [hc] at e
      cases e
      exact z
  have hcell1 : h1.IsCell cv (some uf) := by
    obtain ⟨o, ho, hd⟩ := hcell
    exact ⟨o, all _ _ ho, hd⟩
  refine ⟨⟨I.ok.mod, S.kind, rfl, rfl, Nat.le_refl _, fun x y c e1 e2 => by rw [(one x c e1).1, (one y c e2).1], fun x hx => ?_, (fun x c z => by cases z), I.ok.hd, Around.frames_deeper I.ok.frames, .inr ⟨rfl, rfl⟩, (fun b z => nomatch z), I.bs, Nat.le_trans I.ok.bsz I.sz, (fun b o e z => nomatch z), (fun b z => nomatch z), I.stack, I.stkFree⟩,
    rfl, I.bare, Un.kept all, ⟨_, hns, fun j x w e1 e2 e3 => ?_⟩, fun x c e => ?_, I.hok.fresh (Nat.le_refl _), fun x c e => ?_, (fun q z => nomatch z), I.hok.kept all, rfl⟩
  · rcases hx with hx | hx
    · exact absurd hx (ncl x)
    · rw [onl x hx]
      exact ⟨cv, by show List.lookup fv [(fv, cv)] = _; simp [List.lookup]⟩
  · match j, e1, e2 with
    | 0, e1, e2 =>
      cases e1
      cases e2
      exact ⟨u, ru, .inl ⟨S.par, by show List.lookup p [(p, u)] = _; simp [List.lookup]⟩⟩
    | 1, e1, e2 =>
      cases e1
      cases e2
      exact ⟨uf, rf, .inr ⟨.inr S.free, cv, by show List.lookup fv [(fv, cv)] = _; simp [List.lookup], hcell1⟩⟩
  · obtain ⟨rfl, rfl⟩ := one x c e
    exact ⟨_, hcell1⟩
  · obtain ⟨rfl, rfl⟩ := one x c e
    exact I.freeC _ _ hc
theorem lam_call {p fv name qual : Str} {params : Arguments} {body : Expr} {scope : Scope} {pm ctv : Value} {f cv c' : Addr} {i k : Nat} {v vf : V} {u : Value} {tb : TE} {Q : VK} (I : Inv X pins σ H s) (hr : Room (k + 2) X.A) (S : LamSc scope p fv) (hi : X.N[i]? = some fv) (hσ : σ[i]? = some (some vf)) (hk : X.env.scope.names.lookup fv = some .cell) (hc : X.env.cells.lookup fv = some cv)
    (ho : s.heap.get? f = some (PySem.W.kla_obj name qual params body scope [(fv, cv)] pm c' ctv)) (hcd : s.heap.CodeRec (.ref c') qual) (hbind : bindArgs (PySem.W.kla_fn name qual params body scope [(fv, cv)] pm (.ref c') ctv) ⟨[u], []⟩ = pure [(p, u)]) (ru : RelV v u)
    (hb : PE (lamCx X p fv (PySem.W.envX qual scope s.heap.objs.size f (.ref c') [(fv, cv)]) s H) body tb) (h : tb [some v, some vf] H Q) :
    wpAny (model X.prog X.w) X.A.in1.in1 (call (.ref f) [u]) (EP X pins σ Q) (fun _ _ => False) s := by
  refine wpAny_call (PySem.W.kla_callFunE (by have := hr.in1.in1; exact this.depth) ho rfl S.co S.gen rfl hcd ?_)
  rw [hbind]
  refine wpAny_pure (wpAny_newFunctionEnv S.cell (fun y hy => by rw [List.mem_singleton.mp hy]; exact S.par) (fun h1 hns hsb => ⟨?_, ?_⟩) S.kind)
  · exact I.nolimit.keeps fun b o e => (hsb.2 b (Nat.ne_of_lt (Heap.lt_size e))).trans (Heap.get?_push_of_some _ e)
  have J := inv_lam (qual := qual) (f := f) (cd := .ref c') (tk := s.toks + [(p, u)].length) I S hi hσ hk hc ru hns hsb
  refine PySem.W.kla_codeExpr (wpAny_mono (hb [] _ _ H _ J h) (fun w s2 ⟨x, H2, J2, rx, q⟩ => ?_) fun _ _ z => z.elim)
  exact I.after ⟨x, H2, J2.os, J2.bare, J2.base, J2.hok, rx, q⟩
class BM (mg : Str → Option Value) (base : Heap) : Prop where
  ex : ∃ bm ob, mg "__builtins__" = some (.ref bm) ∧ bm ≠ builtinsNs ∧ bm ≠ mainGlobals ∧ base.get? bm = some ob ∧ ob.cls = .type "module" ∧ ob.dict = some builtinsNs ∧ ob.data = .plain
def SameT (P : Addr) (H H' : Hp) : Prop := ∀ b o, b ≠ P → H b = some o → H' b = some o
theorem SameT.refl (P : Addr) (H : Hp) : SameT P H H := fun _ _ _ e => e
theorem SameT.trans {P : Addr} {H H' H2 : Hp} (a : SameT P H H') (b : SameT P H' H2) : SameT P H H2 := fun c o n e => b c o n (a c o n e)
theorem SameT.of {P : Addr} {H H' : Hp} (s : Same H H') : SameT P H H' := fun b o _ e => s b o e
def Tb (P : Addr) (lpos : Pos) (lq : Str) (H : Hp) : Prop := H P = some (.tbl #[]) ∨ ∃ c', H P = some (.tbl #[rawInt lpos.line, rawInt lpos.col, .ref c']) ∧ H c' = some (.ext fun h => h.CodeRec (.ref c') lq)
theorem Tb.tbl {P : Addr} {lpos : Pos} {lq : Str} {H : Hp} (t : Tb P lpos lq H) : ∃ ps, H P = some (.tbl ps) := by
  rcases t with t | ⟨c', t, _⟩
  · exact ⟨_, t⟩
  · exact ⟨_, t⟩
theorem Tb.same {P : Addr} {lpos : Pos} {lq : Str} {H H' : Hp} (t : Tb P lpos lq H) (s : Same H H') : Tb P lpos lq H' := by
  rcases t with t | ⟨c', t, u⟩
  · exact .inl (s _ _ t)
  · exact .inr ⟨c', s _ _ t, s _ _ u⟩
theorem SameT.seq {P : Addr} {K : PySem.W.Frag} {H H' : Hp} {a : Addr} {xs : List V} {ps : Array Value} (s : SameT P H H') (t : H P = some (.tbl ps)) (h : SqL K H a xs) : SqL K H' a xs := by
  rcases h with h | h
  · refine .inl ?_
    rcases h with h | ⟨o, h⟩
    · exact .inl (s _ _ (fun z => by rw [z, t] at h; cases h) h)
    · exact .inr ⟨o, s _ _ (fun z => by rw [z, t] at h; cases h) h⟩
  · exact .inr h
theorem codeRec_ok {P : Program} {w : World} {H : Hp} {h : Heap} {c' : Addr} {lq : Str} (e : h.CodeRec (.ref c') lq) : ObjOk P w H h c' (.ext fun h => h.CodeRec (.ref c') lq) := by
  refine ⟨e, ?_, fun h1 h2 z k => ?_⟩
  · obtain ⟨c, oc, vs, tq, e1, e2, _⟩ := e
    cases e1
    exact ⟨_, e2⟩
  · obtain ⟨c, oc, vs, tq, e1, e2, r⟩ := z
    cases e1
    exact ⟨_, oc, vs, tq, rfl, k _ e2, r⟩
theorem mk_lam {P c cv : Addr} {fv name qual : Str} {params : Arguments} {body : Expr} {scope : Scope} {lpos : Pos} {fl : Nat} {Q : Value → Shared → Prop} {E : Value → Shared → Prop} [B : BM X.mg X.base] (I : Inv X pins σ H s) (hcode : X.env.code = .ref c) (C : PySem.W.codeHdIn X.K c P = true) (tb : Tb P lpos qual H) (hcl : closureFor scope X.env = pure [(fv, cv)])
    (h : ∀ f c' ctv H' s', Inv X ([(f, PySem.W.kla_obj name qual params body scope [(fv, cv)] ((X.mg "__name__").getD .none) c' ctv)] ++ pins) σ H' s' → SameT P H H' → Tb P lpos qual H' → H' c' = some (.ext fun h => h.CodeRec (.ref c') qual) → Q (.ref f) s') :
    wpAny (model X.prog X.w) X.A (makeFunction name qual params (.expr body) scope X.env [] [] [] lpos fl) Q E s := by
  obtain ⟨ps, eP⟩ := tb.tbl
  have hP : s.heap.get? P = some (PySem.W.tabObj ps) := I.hok P _ eP
  have CH : PySem.W.CodeHd s.heap c P := PySem.W.codeHd_of_K I.kIn C
  have nP : ∀ b o, X.base.get? b = some o → b ≠ P := fun b o e z => by
    have := (I.bs b o e).2
    rw [z, eP] at this
    cases this
  have hg : s.heap.Ns mainGlobals X.mg := I.mod.glob.keeps I.bk
  have hgP : mainGlobals ≠ P := by
    obtain ⟨o, _, _, e, _⟩ := I.mod.glob
    exact nP _ _ e
  obtain ⟨bm, ob, b1, b2, b3, b4, b5⟩ := B.ex
  have hb : s.heap.BuiltinsAt X.mg P := ⟨bm, ob, b1, b2, b3, nP _ _ b4, I.bk _ _ b4, b5⟩
  have pinF : ∀ {h2 : Heap} {f : Addr} {o : Obj} {H' : Hp} {tk : Nat}, Inv X pins σ H' { s with heap := h2, toks := tk } → h2.get? f = some o → H' f = none → s.heap.objs.size ≤ f → (∀ v, o.data ≠ .cell v) → Inv X ([(f, o)] ++ pins) σ H' { s with heap := h2, toks := tk } := fun {h2 f o H' tk} J e n hf hd => by
    have nw := I.newer hf
    refine J.pins_of fun p hp => ?_
    rcases List.mem_append.mp hp with hp | hp
    · rw [List.mem_singleton.mp hp]
      exact ⟨e, n, nw.loc, nw.fs, hd⟩
    · exact J.pin p (List.mem_append_right _ hp)
  rcases tb with t | ⟨c', t, u⟩
  · rw [t] at eP
    cases eP
    refine PySem.W.kla_makeFunction (mg := X.mg) hcl I.ok.glob hg hcode CH hP trivial rfl hgP hb fun c' ctv h' tk hx hge hlt hrec htb => ?_
    have hcn : H c' = none := I.hok.fresh hge
    have hfn : H h'.objs.size = none := I.hok.fresh (Nat.le_of_lt (Nat.lt_of_le_of_lt hge hlt))
    have ncP : c' ≠ P := fun z => by rw [z, t] at hcn; cases hcn
    have nfP : h'.objs.size ≠ P := fun z => by rw [z, t] at hfn; cases hfn
    have k : ∀ b o, b ≠ P → s.heap.get? b = some o → (h'.push (PySem.W.kla_obj name qual params body scope [(fv, cv)] ((X.mg "__name__").getD .none) c' ctv)).get? b = some o := fun b o n e => Heap.get?_push_of_some _ (hx b o n e)
    have old : ∀ b o, s.heap.get? b = some o → b ≠ c' := fun b o e => Nat.ne_of_lt (Nat.lt_of_lt_of_le (Heap.lt_size e) hge)
    have nn : ∀ b, H b = none → b ≠ P := fun b e z => by rw [z, t] at e; cases e
    have nc : ∀ b o, H b = some o → b ≠ c' := fun b o e z => by rw [z, hcn] at e; cases e
    have np : ∀ b o, H b = some o → (∀ ps, o ≠ .tbl ps) → b ≠ P := fun b o e n z => by rw [z, t] at e; cases e; exact n _ rfl
    have hP2 : (h'.push (PySem.W.kla_obj name qual params body scope [(fv, cv)] ((X.mg "__name__").getD .none) c' ctv)).get? P = some (PySem.W.tabObj #[rawInt lpos.line, rawInt lpos.col, .ref c']) := Heap.get?_push_of_some _ (by simpa using htb)
    have hrec2 : (h'.push (PySem.W.kla_obj name qual params body scope [(fv, cv)] ((X.mg "__name__").getD .none) c' ctv)).CodeRec (.ref c') qual := by
      obtain ⟨c2, oc, vs, tq, e1, e2, r⟩ := hrec
      exact ⟨c2, oc, vs, tq, e1, Heap.get?_push_of_some _ e2, r⟩
    have J : Inv X pins σ (upd (upd H P (.tbl #[rawInt lpos.line, rawInt lpos.col, .ref c'])) c' (.ext fun h => h.CodeRec (.ref c') qual)) { s with heap := h'.push (PySem.W.kla_obj name qual params body scope [(fv, cv)] ((X.mg "__name__").getD .none) c' ctv), toks := tk } := by
      refine I.un ⟨fun b o e n _ _ => k b o (nn b n) e, fun b o e n _ _ => ⟨o.slots, k b o (nn b n) e⟩, fun b o e n _ => by rw [upd_ne (old b o e), upd_ne (nn b n)]; exact n, fun b o e _ => ?_, fun b xs e => by rw [upd_ne (nc b _ e), upd_ne (np b _ e (fun _ z => by cases z))]; exact e, fun b o xs e => by rw [upd_ne (nc b _ e), upd_ne (np b _ e (fun _ z => by cases z))]; exact e, fun b ps e => ?_⟩ fun b o e => ?_
      · by_cases z : b = P
        · subst z
          exact ⟨_, hP2⟩
        · exact ⟨o, k b o z e⟩
      · by_cases z : b = P
        · subst z
          rw [t] at e
          cases e
          exact ⟨#[rawInt lpos.line, rawInt lpos.col, .ref c'], by rw [upd_ne ncP.symm, upd_same]; simp⟩
        · exact ⟨#[], by rw [upd_ne (nc b _ e), upd_ne z, e]; simp⟩
      · by_cases z1 : b = c'
        · subst z1
          rw [upd_same] at e
          cases e
          exact codeRec_ok hrec2
        · rw [upd_ne z1] at e
          by_cases z2 : b = P
          · subst z2
            rw [upd_same] at e
            cases e
            exact hP2
          · rw [upd_ne z2] at e
            refine (I.hok b o e).stay (fun d v hd r => k d v ?_ r) (fun d r => by rw [upd_ne (nc d _ r), upd_ne (np d _ r (fun _ z => by cases z))]; exact r) fun d xs r => by rw [upd_ne (nc d _ r), upd_ne (np d _ r (fun _ z => by cases z))]; exact r
            rcases hd with rfl | hd
            · exact z2
            · exact np d _ hd (fun _ z => by cases z)
    have hf' : upd (upd H P (.tbl #[rawInt lpos.line, rawInt lpos.col, .ref c'])) c' (.ext fun h => h.CodeRec (.ref c') qual) h'.objs.size = none := by rw [upd_ne (Nat.ne_of_gt hlt), upd_ne nfP]; exact hfn
    exact h _ c' ctv _ _ (pinF J (Heap.get?_push_size _ rfl) hf' (Nat.le_of_lt (Nat.lt_of_le_of_lt hge hlt)) (fun v z => by cases z)) (fun b o n e => by rw [upd_ne (nc b _ e), upd_ne n]; exact e) (.inr ⟨c', by rw [upd_ne ncP.symm, upd_same], upd_same⟩) upd_same
  · rw [t] at eP
    cases eP
    have hcu : s.heap.CodeRec (.ref c') qual := (show ObjOk X.prog X.w H s.heap c' (.ext fun h => h.CodeRec (.ref c') qual) from I.hok c' _ u).1
    refine PySem.W.kla_makeFunctionHit (mg := X.mg) hcl I.ok.glob hg hcode CH hP ?_ (cv := .ref c') ?_ hb fun ctv h' tk hk hsz => ?_
    · simp [TriplesOk, rawInt]
    · simp [codeAmong, rawInt]
    · have J := I.kept (t' := tk) (h' := h'.push (PySem.W.kla_obj name qual params body scope [(fv, cv)] ((X.mg "__name__").getD .none) c' ctv)) fun b o e => Heap.get?_push_of_some _ (hk b o e)
      exact h _ c' ctv H _ (pinF J (Heap.get?_push_size _ rfl) (I.hok.fresh hsz) hsz (fun v z => by cases z)) (.refl _ _) (.inr ⟨c', t, u⟩) u
def tSortLam (K : PySem.W.Frag) (P : Addr) (lpos : Pos) (lq : Str) (i : Nat) (tb tl : TE) : TE := fun σ H Q => tl σ H fun x H1 => ∃ (a : Addr) (ns : List Int) (vf : V) (g : Int → Int), x = .ref a ∧ SqL K H1 a (ns.map V.int) ∧ ns.length < 64 ∧ σ[i]? = some (some vf) ∧ Tb P lpos lq H1 ∧
  (∀ H2, SameT P H1 H2 → ∀ n ∈ ns, tb [some (.int n), some vf] H2 fun v H3 => v = .int (g n) ∧ H3 = H2) ∧
  ∀ (D : Addr) (H2 : Hp) (ns' : List Int), H1 D = none → SameT P H1 H2 → Tb P lpos lq H2 → H2 D = some (.lst (ns'.map V.int)) → ns'.Perm ns → ns'.Pairwise (fun x y => g x ≤ g y) → Q (.ref D) H2
theorem pe_sortLam {l body : Expr} {tl tb : TE} {p fv : Str} {np kp lpos pos : Pos} {params : Arguments} {scope : Scope} {P c cv : Addr} {i k : Nat} [B : BM X.mg X.base] (hg : Gl X "sorted") (hm : X.mg "sorted" = none) (hl : PE X l tl) (hr : Room (k + 2) X.A) (S : LamSc scope p fv) (hi : X.N[i]? = some fv) (hk : X.env.scope.names.lookup fv = some .cell) (hc : X.env.cells.lookup fv = some cv)
    (hcode : X.env.code = .ref c) (C : PySem.W.codeHdIn X.K c P = true) (hcl : closureFor scope X.env = pure [(fv, cv)]) (hdef : defaultsOf params X.env = ([], []))
    (hbind : ∀ (pm cd ctv u : Value), bindArgs (PySem.W.kla_fn "<lambda>" (X.env.qual ++ "<lambda>") params body scope [(fv, cv)] pm cd ctv) ⟨[u], []⟩ = pure [(p, u)])
    (hb : ∀ (s : Shared) (f c' : Addr) (H2 : Hp), PE (lamCx X p fv (PySem.W.envX (X.env.qual ++ "<lambda>") scope s.heap.objs.size f (.ref c') [(fv, cv)]) s H2) body tb)
    (he : starEach [l] X.env = [(false, eval l X.env)] := by rfl) :
    PE X (.Call (.Name "sorted" np) [l] [⟨some "key", .Lambda params body scope lpos, kp⟩] pos) (tSortLam X.K P lpos (X.env.qual ++ "<lambda>") i tb tl) := by
  intro pins s σ H Q I h
  refine wpAny_Call_Name_kw (ld_blt I hg hm bt_sorted (callWith_kw ?_ (by rw [he]; rfl) (by rw [he]; rfl) rfl rfl))
  have hA : PA X [l] (tCons tl tNil) := pa_cons hl pa_nil he
  refine thn (hA pos pins s σ H (fun vs H1 => match vs with
    | [x] => ∃ (a : Addr) (ns : List Int) (vf : V) (g : Int → Int), x = .ref a ∧ SqL X.K H1 a (ns.map V.int) ∧ ns.length < 64 ∧ σ[i]? = some (some vf) ∧ Tb P lpos (X.env.qual ++ "<lambda>") H1 ∧
      (∀ H2, SameT P H1 H2 → ∀ n ∈ ns, tb [some (.int n), some vf] H2 fun v H3 => v = .int (g n) ∧ H3 = H2) ∧
      ∀ (D : Addr) (H2 : Hp) (ns' : List Int), H1 D = none → SameT P H1 H2 → Tb P lpos (X.env.qual ++ "<lambda>") H2 → H2 D = some (.lst (ns'.map V.int)) → ns'.Perm ns → ns'.Pairwise (fun x y => g x ≤ g y) → Q (.ref D) H2
    | _ => False) I h) fun us s1 ⟨vs, H1, I1, r1, q1⟩ => ?_
  match vs, r1, q1 with
  | [x], .cons (b := u) ra .nil, q1 =>
    obtain ⟨a, ns, vf, g, ex, hL, h64, hσ, ht, hbt, hq⟩ := q1
    subst ex
    obtain rfl : u = Value.ref a := ra
    refine kws_cons (PySem.W.kla_eval hdef (mk_lam I1 hcode C ht hcl fun f c' ctv H2 s2 J hS ht2 hc' => kws_nil ?_))
    obtain ⟨ps, eP⟩ := ht.tbl
    show wpAny (model X.prog X.w) X.A (call (.builtin "sorted") [.ref a] [(Str.ofString "key", .ref f)]) _ _ _
    refine sort_key (g := g) J (hS.seq eP hL) h64 (fun n t pins' s' hn J' => ?_) fun D ns' hD h1 h2 => ?_
    · have hcr : s'.heap.CodeRec (.ref c') (X.env.qual ++ "<lambda>") := (show ObjOk X.prog X.w H2 s'.heap c' (.ext fun h => h.CodeRec (.ref c') (X.env.qual ++ "<lambda>")) from J'.hok c' _ hc').1
      exact lam_call (v := .int n) J' hr S hi hσ hk hc (J'.pin (f, PySem.W.kla_obj "<lambda>" (X.env.qual ++ "<lambda>") params body scope [(fv, cv)] ((X.mg "__name__").getD .none) c' ctv) (by simp)).1 hcr (hbind _ _ _ _) ⟨t, rfl⟩ (hb s' f c' H2) (hbt H2 hS n hn)
    · have sD := Same.put (o := .lst (ns'.map V.int)) hD
      refine hq D _ ns' ?_ (hS.trans (.of sD)) (ht2.same sD) upd_same h1 h2
      cases e : H1 D with
      | none => rfl
      | some o =>
        by_cases z : D = P
        · obtain ⟨ps2, e2⟩ := ht2.tbl
          rw [z, e2] at hD
          cases hD
        · rw [hS D o z e] at hD
          cases hD
end
section
variable {P : Program} {w : World} {K : PySem.W.Frag} {mg : Str → Option Value} {base : Heap}
theorem Fun.okC {x qual : Str} {st : Stmt} {f : Addr} {fd : FuncData} {N ps : List Str} {k : Nat} {sp : Sp} (F : Fun K x qual st f fd) (S : FnScope N ps (defScope st)) (len : ∀ vs H Q E, sp vs H Q E → vs.length = ps.length)
    (hbody : ∀ (cdv : Value) (A : Around) (outer : List Env) (s : Shared) (H : Hp) (vs : List V) (Q : VK) (E : XK), fd.code = cdv → Room k (A.deeper (envOfC qual (defScope st) s.heap.objs.size f cdv)) → sp vs H Q E →
      ∃ t, PSs (cxOf CX0 P w K mg base N qual (defScope st) f cdv A outer s H E).nox (defBody st) t ∧ t { nx := fun _ H' => Q .non H', rt := Q } (start N vs) H) : FnOk P w K mg base CX0 (k + 1) f fd ps sp := by
  obtain ⟨oc, od, kV, doc, pm, an, cdv, ct, osl, rfl, lk, hcd⟩ := F.ex
  refine fn_of lk hcd S len fun A outer s H vs Q E hr hsp => ?_
  obtain ⟨t, h, q⟩ := hbody cdv A outer s H vs Q E rfl hr hsp
  exact ⟨t, h.nox, q⟩
end
def OnlyT (ts : List Addr) (H : Hp) : Prop := (∀ b, H b = none ∨ (∃ o xs, H b = some (.frz o (.lst xs))) ∨ (b ∈ ts ∧ H b = some (.tbl #[]))) ∧ ∀ b ∈ ts, H b = some (.tbl #[])
theorem law_callT {P : Program} {w : World} {K : PySem.W.Frag} {mg mb : Str → Option Value} {CX : CXT} {k : Nat} {fa a : Addr} {fd : FuncData} {x : Str} {sp : Sp} {s₁ : Shared} {vs : List Value} {ns : List Int} {ts : List Addr}
    (KX : K.In s₁.heap) (hns : s₁.heap.Ns mainGlobals mg) (hb : s₁.heap.Ns builtinsNs mb) (hbb : ∀ x : Str, x ≠ "__name__" → mb x = bootBuiltins x) (hlim : s₁.heap.NoLimit) (hg : s₁.gens = #[])
    (hts : ∀ b ∈ ts, s₁.heap.get? b = some (PySem.W.tabObj #[])) (hKt : ∀ b ∈ ts, K.lookup b = none) (hct : ∀ b ∈ ts, ∃ c, s₁.heap.TableAt c b #[]) (hst : ∀ b ∈ ts, b ≠ cStatics)
    (hB : ∃ bm ob, mg "__builtins__" = some (.ref bm) ∧ bm ≠ builtinsNs ∧ bm ≠ mainGlobals ∧ s₁.heap.get? bm = some ob ∧ ob.cls = .type "module" ∧ ob.dict = some builtinsNs ∧ ob.data = .plain)
    (ha : s₁.heap.get? a = some { cls := .type "list", data := .seq vs.toArray }) (hi : IntsAre vs ns) (hl : ns.length ≤ sizeLine) (hr : Room k callerA)
    (F : ∀ base : Heap, K.In base → base.Ns mainGlobals mg → BM mg base → FnOk P w K mg base CX k fa fd [x] sp) (hbind : ∀ (s : Shared) (u : Value), BindsTo s fd ⟨[u], []⟩ [(x, u)])
    (hsp : ∀ H : Hp, OnlyT ts H → SqL K H a (ns.map V.int) → sp [.ref a] H (fun v _ => v = .bl true) fun _ _ _ => False)
    (hCX : ∀ H e s', CX [] H s₁ (fun _ _ _ => False) e s' → False) :
    codeAny (model P w) callerA (.call (.ref fa) ⟨[.ref a], []⟩) (fun r s' => r = .ok (.ret (.bool true)) ∧ OldK s₁.heap s'.heap ∧ s'.os = s₁.os ∧ AllBare s'.gens) s₁ := by
  have rv := vals_ints hi
  have lenV := hi.length
  have nat : ∀ b ∈ ts, b ≠ a := fun b hb z => by
    have := hts b hb
    rw [z, ha] at this
    cases this
  have core : ∀ H : Hp, OnlyT ts H → SqL K H a (ns.map V.int) → HOk P w H s₁.heap → (∀ b, H b ≠ none → b = a ∨ b ∈ ts) → (H a ≠ none → K.lookup a = none) →
      codeAny (model P w) callerA (.call (.ref fa) ⟨[.ref a], []⟩) (fun r s' => r = .ok (.ret (.bool true)) ∧ OldK s₁.heap s'.heap ∧ s'.os = s₁.os ∧ AllBare s'.gens) s₁ := by
    intro H hO hS hok hA hK
    have base_of : ∀ {b : Addr} {o : Obj}, s₁.heap.get? b = some o → H b = none → (hidT s₁.heap H).get? b = some o := fun e n => hidT_get e n
    have free : ∀ {b : Addr} {o : Obj}, s₁.heap.get? b = some o → (∀ xs n, o.data ≠ .seq xs n) → (∀ xs, o.data ≠ .fields xs) → H b = none := fun {b o} e d1 d2 => by
      cases q : H b with
      | none => rfl
      | some u =>
        rcases hA b (by rw [q]; simp) with z | z
        · subst z
          rw [ha] at e
          cases e
          exact absurd rfl (d1 _ _)
        · rw [hts b z] at e
          cases e
          exact absurd rfl (d2 _)
    have nsK : ∀ {b : Addr} {m : Str → Option Value}, s₁.heap.Ns b m → (hidT s₁.heap H).Ns b m := fun {b m} ⟨o, es, ep, e, d, r⟩ => ⟨o, es, ep, base_of e (free e (fun _ _ z => by rw [d] at z; cases z) (fun _ z => by rw [d] at z; cases z)), d, r⟩
    have hKb : K.In (hidT s₁.heap H) := fun b o e => base_of (KX b o e) (by
      cases q : H b with
      | none => rfl
      | some u =>
        rcases hA b (by rw [q]; simp) with z | z
        · subst z
          rw [hK (by rw [q]; simp)] at e
          cases e
        · rw [hKt b z] at e
          cases e)
    have hM : Mod K mg (hidT s₁.heap H) := ⟨hKb, nsK hns, ⟨mb, nsK hb, hbb⟩, let ⟨mc, h1, h2⟩ := hlim; ⟨mc, nsK h1, h2⟩⟩
    have hBM : BM mg (hidT s₁.heap H) := by
      obtain ⟨bm, ob, b1, b2, b3, b4, b5, b6, b7⟩ := hB
      exact ⟨bm, ob, b1, b2, b3, base_of b4 (free b4 (fun _ _ z => by rw [b7] at z; cases z) (fun _ z => by rw [b7] at z; cases z)), b5, b6, b7⟩
    have e0 : Env0 P w K mg (hidT s₁.heap H) callerA [] s₁ H := ⟨rfl, hM, fun b o e => of_hidT e, Nat.le_of_eq (hidT_size _ _), trivial, fun b hb => absurd (show b ∈ ([] : List Addr) from hb) (by simp), hok, .of_eq hg⟩
    refine codeAny_mono ((F _ hKb (nsK hns) hBM).run callerA [] s₁ H ⟨[.ref a], []⟩ [.ref a] [.ref a] _ _ hr e0 (hbind s₁ (.ref a)) (.cons rfl .nil) (hsp H hO hS)) fun r s' h => ?_
    cases r with
    | error e => exact (hCX H e s' h).elim
    | ok fl =>
      cases fl with
      | next => exact False.elim h
      | brk => exact False.elim h
      | cont => exact False.elim h
      | ret u =>
        obtain ⟨v, H', os, bare, un, hok', r', q⟩ := h
        have q' : v = .bl true := q
        subst q'
        obtain rfl : u = Value.bool true := r'
        have one : ∀ b o, s₁.heap.get? b = some o → b ∉ ts → s'.heap.get? b = some o := fun b o e nt => by
          cases q : H b with
          | none => exact un.keep b o e q (by intro z; exact absurd (show b ∈ ([] : List Addr) from z) (by simp)) (by simp)
          | some u =>
            rcases hO.1 b with z | ⟨ob, xs, z⟩ | ⟨z, _⟩
            · rw [q] at z
              cases z
            · have z2 := un.frzs b ob _ z
              obtain ⟨e1, _⟩ := hok b _ z
              obtain ⟨e2, _⟩ := hok' b _ z2
              rw [e] at e1
              cases e1
              exact e2
            · exact absurd z nt
        have two : ∀ b ∈ ts, ∃ more, s'.heap.get? b = some (PySem.W.tabObj (#[] ++ more)) := fun b hb => by
          obtain ⟨more, z⟩ := un.tbls b _ (hO.2 b hb)
          exact ⟨more, hok' b _ z⟩
        refine ⟨rfl, ⟨fun b o e => ?_, fun b o e => ?_⟩, os, bare⟩
        · by_cases nt : b ∈ ts
          · obtain ⟨more, z⟩ := two b nt
            have e2 := hts b nt
            rw [e] at e2
            cases e2
            obtain ⟨c, tc⟩ := hct b nt
            exact .inr (.inl ⟨tc.isCodeTable, rfl, #[], more, rfl, z⟩)
          · exact .inl (one b o e nt)
        · by_cases nt : b ∈ ts
          · obtain ⟨more, z⟩ := two b nt
            exact ⟨_, z⟩
          · exact ⟨o, one b o e nt⟩
  cases hk : K.lookup a with
  | some o =>
    have e := KX a o hk
    rw [ha] at e
    cases e
    refine core (fun b => if b ∈ ts then some (.tbl #[]) else none) ⟨fun b => ?_, fun b hb => if_pos hb⟩ (.inr ⟨_, vs.toArray, _, hk, rfl, rfl, rfl, by rw [List.size_toArray, lenV]; exact hl, by simpa using rv⟩) (fun b u z => ?_) (fun b z => ?_) fun z => absurd (if_neg (fun h => nat a h rfl)) z
    · by_cases hb : b ∈ ts
      · exact .inr (.inr ⟨hb, if_pos hb⟩)
      · exact .inl (if_neg hb)
    · by_cases hb : b ∈ ts
      · have z' := (if_pos hb).symm.trans z
        cases z'
        exact hts b hb
      · have z' := (if_neg hb).symm.trans z
        cases z'
    · by_cases hb : b ∈ ts
      · exact .inr hb
      · exact absurd (if_neg hb) z
  | none =>
    refine core (fun b => if b = a then some (.frz { cls := .type "list", data := .seq vs.toArray } (.lst (ns.map V.int))) else if b ∈ ts then some (.tbl #[]) else none) ⟨fun b => ?_, fun b hb => ?_⟩ (.inl (.inr ⟨{ cls := .type "list", data := .seq vs.toArray }, if_pos rfl⟩)) (fun b u z => ?_) (fun b z => ?_) fun _ => hk
    · by_cases hb : b = a
      · exact .inr (.inl ⟨_, _, if_pos hb⟩)
      · by_cases hb2 : b ∈ ts
        · exact .inr (.inr ⟨hb2, (if_neg hb).trans (if_pos hb2)⟩)
        · exact .inl ((if_neg hb).trans (if_neg hb2))
    · exact (if_neg (nat b hb)).trans (if_pos hb)
    · have z : (if b = a then some (HO.frz { cls := .type "list", data := .seq vs.toArray } (.lst (ns.map V.int))) else if b ∈ ts then some (.tbl #[]) else none) = some u := z
      by_cases hb : b = a
      · rw [if_pos hb] at z
        cases z
        subst hb
        exact ⟨ha, by rw [List.length_map]; exact hl, vs, _, rv, ha⟩
      · rw [if_neg hb] at z
        by_cases hb2 : b ∈ ts
        · rw [if_pos hb2] at z
          cases z
          exact hts b hb2
        · rw [if_neg hb2] at z
          cases z
    · by_cases hb : b = a
      · exact .inl hb
      · by_cases hb2 : b ∈ ts
        · exact .inr hb2
        · exact absurd ((if_neg hb).trans (if_neg hb2)) z
theorem walk_ofT {l : PySem.W.OpenLaw} {n k : Nat} {q : Program} {loose : List Str} {XP : (Str → Option Value) → Heap → Prop} {YP : World → Heap → Prop} {d : DefRec} {K : Params → PySem.W.Frag} {CX : CXT} {sp : PySem.W.Frag → Sp} {x : Str} {ts : List Addr}
    (hn : l.most = some n) (hn2 : n ≤ sizeLine) (hdf : d.params.defaults = []) (hr : Room k callerA)
    (hY : ∀ (w : World) (h : Heap), YP w h → (K w.params).In h) (hY2 : ∀ (w : World) (h : Heap), YP w h → ∀ b ∈ ts, h.get? b = some (PySem.W.tabObj #[]))
    (hKt : ∀ (w : World), ∀ b ∈ ts, (K w.params).lookup b = none) (hst : ∀ b ∈ ts, b ≠ cStatics)
    (F : ∀ (w : World) (mg : Str → Option Value) (fa : Addr) (h : Heap), (K w.params).In h → h.Ns mainGlobals mg → mg d.name = some (.ref fa) →
      ∃ fd : FuncData, (∀ (s : Shared) (u : Value), BindsTo s fd ⟨[u], []⟩ [(x, u)]) ∧ (∀ b ∈ ts, ∃ c, PySem.W.codeHdIn (K w.params) c b = true) ∧
        ∀ base : Heap, (K w.params).In base → base.Ns mainGlobals mg → BM mg base → FnOk l.prog w (K w.params) mg base CX k fa fd [x] (sp (K w.params)))
    (hsp : ∀ (K : PySem.W.Frag) (H : Hp) (a : Addr) (ns : List Int), ns.length ≤ n → OnlyT ts H → SqL K H a (ns.map V.int) → sp K [.ref a] H (fun v _ => v = .bl true) fun _ _ _ => False)
    (hCX : ∀ (H : Hp) (s : Shared) (e : Value) (s' : Shared), CX [] H s (fun _ _ _ => False) e s' → False) :
    PySem.W.WalkO q loose XP YP l.row.toRowW d [] (fun f vs => PySem.call f vs) := by
  refine Att.attach_call hn hdf fun w s₀ s₁ mg mb fa o pm cd doc a vs ns G Y ho hd hcd hmg hobj hints hlen hg => ?_
  have KX := hY w _ Y
  have YT := hY2 w _ Y
  obtain ⟨fd, hb, hcs, hF⟩ := F w mg fa _ KX G.T.g hmg
  have hB : ∃ bm ob, mg "__builtins__" = some (.ref bm) ∧ bm ≠ builtinsNs ∧ bm ≠ mainGlobals ∧ s₁.heap.get? bm = some ob ∧ ob.cls = .type "module" ∧ ob.dict = some builtinsNs ∧ ob.data = .plain := by
    obtain ⟨bm, ob, b1, b2, b3, b4, b5, b6⟩ := G.T.bmain
    refine ⟨bm, ob, b1, b2, fun z => ?_, b3, b4, b5, b6⟩
    obtain ⟨o2, es, ep, e, hd2, _⟩ := G.T.g
    rw [z, e] at b3
    cases b3
    rw [hd2] at b6
    cases b6
  exact law_callT (ts := ts) KX G.T.g G.T.b G.T.builtins G.T.nolimit hg YT (hKt w) (fun b hb => (hcs b hb).elim fun c hc => ⟨c, (PySem.W.codeHd_of_K KX hc).tab (YT b hb)⟩) hst hB hobj hints (Nat.le_trans hlen hn2) hr hF hb (fun H hO hS => hsp _ H a ns hlen hO hS) fun H e s' => hCX H s₁ e s'
end L2
set_option Elab.async false
set_option linter.all false
set_option maxRecDepth 100000
set_option maxHeartbeats 4000000
namespace K37
open PySem L2
local macro_rules | `(tactic| dsimp! [$xs,*]) => `(tactic| simp only [tSeq, tNext, tRet, tRetN, tIfS, tIf, tB, tTest, tOp, tUn, tVar, tC, rI0, rI, rU, tAsg, gName, gNil, gCons, gLst, gTup, gSub, tDrop, tCons, tNil, tCall, tCB, tBM, tBM0, tMeth, tMake, tSl, tPart, tNoPart, tFld, sFld, tAnd, tOr, tNot, tAndV, tOrV, tNotV, L2.start, rEq, rNe, scal_ii, scal_bb, scal_ss, scal_in, scal_ni, tLst, tTup, cxOf_K, List.map_cons, List.map_nil, List.length_cons, List.length_nil, List.replicate_succ, List.replicate_zero, Nat.reduceAdd, Nat.reduceSub, Nat.zero_add, Nat.sub_self, Nat.zero_le, List.cons_append, List.nil_append, List.append_nil, List.set_cons_zero, List.set_cons_succ, List.getElem?_cons_zero, List.getElem?_cons_succ, Option.some.injEq, V.int.injEq, V.bl.injEq, V.ref.injEq, V.ty.injEq, V.str.injEq, List.cons.injEq, exists_eq_left', exists_eq_left, exists_eq_right, exists_and_left, exists_const, true_and, and_true, Bool.not_true, Bool.not_false, Bool.false_eq_true, if_true, if_false, reduceCtorEq, false_and, and_false, false_or, or_false, exists_false, decide_true, decide_false, eq_self, and_assoc, Int.toNat_natCast, tLc, tForW, tWhileW, iRng1, iRng2, iList, iTup, iEnum, iEnum0, iZip, iStr, tLc2, tGetK, tNever, tChain, tAug, ipI, tMethV, tDGet, tDIn, tDNotIn, sDPut, tDNewK, tDGet1, tDGet2, tDPop1, tDPop2, iDict, tThaw, tThawV, tFs, tFs3, tGetK0, tXMake, tXInit, sXFld, sRaise, sTry, sTry0, tXFld, tDisp, tPairs, tSortLam, $xs,*])
def top (i : Nat) : Stmt := PySem.Challenge.pw_heapsafe_k37_drained.main.body.getD i (.Pass ⟨0, 0, 0, 0⟩)
abbrev s_z48 : Stmt := top 3
abbrev s_z57 : Stmt := top 4
abbrev s_z39 : Stmt := inClass (top 5) 0
abbrev s_z40 : Stmt := inClass (top 5) 1
abbrev s_z37 : Stmt := inClass (top 5) 2
abbrev s_z38 : Stmt := inClass (top 5) 3
abbrev s_z41 : Stmt := inClass (top 5) 4
abbrev s_z42 : Stmt := inClass (top 5) 5
abbrev s_z28 : Stmt := inClass (top 6) 0
abbrev s_z27 : Stmt := inClass (top 6) 1
abbrev s_z29 : Stmt := inClass (top 6) 2
abbrev s_z25 : Stmt := inClass (top 7) 0
abbrev s_z26 : Stmt := inClass (top 7) 1
abbrev s_z59 : Stmt := top 8
abbrev s_z62 : Stmt := top 9
abbrev s_z58 : Stmt := top 10
abbrev s_z4 : Stmt := inClass (top 12) 0
abbrev s_z6 : Stmt := inClass (top 12) 1
abbrev s_z7 : Stmt := inClass (top 12) 2
abbrev s_z3 : Stmt := inClass (top 12) 3
abbrev s_z10 : Stmt := inClass (top 12) 4
abbrev s_z0 : Stmt := inClass (top 12) 5
abbrev s_z1 : Stmt := inClass (top 12) 6
abbrev s_z5 : Stmt := inClass (top 12) 7
abbrev s_z9 : Stmt := inClass (top 12) 8
abbrev s_z8 : Stmt := inClass (top 12) 9
abbrev s_z2 : Stmt := inClass (top 12) 10
abbrev s_z46 : Stmt := top 18
abbrev s_z49 : Stmt := top 19
abbrev s_z60 : Stmt := top 20
abbrev s_z47 : Stmt := top 21
abbrev s_z45 : Stmt := top 22
abbrev s_z64 : Stmt := top 23
abbrev s_z65 : Stmt := top 24
abbrev s_z63 : Stmt := top 25
abbrev s_z33 : Stmt := inClass (top 27) 0
abbrev s_z31 : Stmt := inClass (top 27) 1
abbrev s_z32 : Stmt := inClass (top 27) 2
abbrev s_z30 : Stmt := inClass (top 27) 3
abbrev s_z34 : Stmt := inClass (top 27) 5
abbrev s_z36 : Stmt := inClass (top 27) 6
abbrev s_z35 : Stmt := inClass (top 27) 7
abbrev s_z44 : Stmt := top 32
abbrev s_z61 : Stmt := top 33
abbrev s_z66 : Stmt := top 34
abbrev s_z43 : Stmt := top 35
abbrev s_z13 : Stmt := inClass (top 36) 0
abbrev s_z17 : Stmt := inClass (top 36) 1
abbrev s_z11 : Stmt := inClass (top 36) 2
abbrev s_z12 : Stmt := inClass (top 36) 3
abbrev s_z23 : Stmt := inClass (top 36) 4
abbrev s_z24 : Stmt := inClass (top 36) 5
abbrev s_z18 : Stmt := inClass (top 36) 6
abbrev s_z21 : Stmt := inClass (top 36) 7
abbrev s_z22 : Stmt := inClass (top 36) 8
abbrev s_z14 : Stmt := inClass (top 36) 9
abbrev s_z20 : Stmt := inClass (top 36) 10
abbrev s_z19 : Stmt := inClass (top 36) 11
abbrev s_z15 : Stmt := inClass (top 36) 15
abbrev s_z16 : Stmt := inClass (top 36) 16
abbrev s_z51 : Stmt := top 38
abbrev s_z55 : Stmt := top 39
abbrev s_z54 : Stmt := top 40
abbrev s_z56 : Stmt := top 41
abbrev s_z52 : Stmt := top 42
abbrev s_z53 : Stmt := top 43
abbrev s_law : Stmt := top 44
theorem sc_z48 : FnScope ["value"] ["value"] (defScope s_z48) := ⟨rfl, rfl, rfl, by decide +kernel, rfl, by decide +kernel, by decide +kernel⟩
theorem sc_z57 : FnScope ["some"] ["some"] (defScope s_z57) := ⟨rfl, rfl, rfl, by decide +kernel, rfl, by decide +kernel, by decide +kernel⟩
theorem sc_z39 : FnScope ["self", "sort", "some"] ["self", "sort", "some"] (defScope s_z39) := ⟨rfl, rfl, rfl, by decide +kernel, rfl, by decide +kernel, by decide +kernel⟩
theorem sc_z40 : FnScope ["self"] ["self"] (defScope s_z40) := ⟨rfl, rfl, rfl, by decide +kernel, rfl, by decide +kernel, by decide +kernel⟩
theorem sc_z37 : FnScope ["self"] ["self"] (defScope s_z37) := ⟨rfl, rfl, rfl, by decide +kernel, rfl, by decide +kernel, by decide +kernel⟩
theorem sc_z38 : FnScope ["self"] ["self"] (defScope s_z38) := ⟨rfl, rfl, rfl, by decide +kernel, rfl, by decide +kernel, by decide +kernel⟩
theorem sc_z41 : FnScope ["self"] ["self"] (defScope s_z41) := ⟨rfl, rfl, rfl, by decide +kernel, rfl, by decide +kernel, by decide +kernel⟩
theorem sc_z42 : FnScope ["self"] ["self"] (defScope s_z42) := ⟨rfl, rfl, rfl, by decide +kernel, rfl, by decide +kernel, by decide +kernel⟩
theorem sc_z28 : FnScope ["self", "some", "last_words"] ["self", "some", "last_words"] (defScope s_z28) := ⟨rfl, rfl, rfl, by decide +kernel, rfl, by decide +kernel, by decide +kernel⟩
theorem sc_z27 : FnScope ["self"] ["self"] (defScope s_z27) := ⟨rfl, rfl, rfl, by decide +kernel, rfl, by decide +kernel, by decide +kernel⟩
theorem sc_z29 : FnScope ["self"] ["self"] (defScope s_z29) := ⟨rfl, rfl, rfl, by decide +kernel, rfl, by decide +kernel, by decide +kernel⟩
theorem sc_z25 : FnScope ["self", "key", "value"] ["self", "key", "value"] (defScope s_z25) := ⟨rfl, rfl, rfl, by decide +kernel, rfl, by decide +kernel, by decide +kernel⟩
theorem sc_z26 : FnScope ["self"] ["self"] (defScope s_z26) := ⟨rfl, rfl, rfl, by decide +kernel, rfl, by decide +kernel, by decide +kernel⟩
theorem sc_z59 : FnScope ["fields", "words"] ["fields", "words"] (defScope s_z59) := ⟨rfl, rfl, rfl, by decide +kernel, rfl, by decide +kernel, by decide +kernel⟩
theorem sc_z62 : FnScope ["field"] ["field"] (defScope s_z62) := ⟨rfl, rfl, rfl, by decide +kernel, rfl, by decide +kernel, by decide +kernel⟩
theorem sc_z58 : FnScope ["key", "value"] ["key", "value"] (defScope s_z58) := ⟨rfl, rfl, rfl, by decide +kernel, rfl, by decide +kernel, by decide +kernel⟩
theorem sc_z4 : FnScope ["self", "memory"] ["self", "memory"] (defScope s_z4) := ⟨rfl, rfl, rfl, by decide +kernel, rfl, by decide +kernel, by decide +kernel⟩
theorem sc_z6 : FnScope ["self", "place"] ["self", "place"] (defScope s_z6) := ⟨rfl, rfl, rfl, by decide +kernel, rfl, by decide +kernel, by decide +kernel⟩
theorem sc_z7 : FnScope ["self", "places", "place"] ["self", "places"] (defScope s_z7) := ⟨rfl, rfl, rfl, by decide +kernel, rfl, by decide +kernel, by decide +kernel⟩
theorem sc_z3 : FnScope ["self"] ["self"] (defScope s_z3) := ⟨rfl, rfl, rfl, by decide +kernel, rfl, by decide +kernel, by decide +kernel⟩
theorem sc_z10 : FnScope ["self", "place"] ["self"] (defScope s_z10) := ⟨rfl, rfl, rfl, by decide +kernel, rfl, by decide +kernel, by decide +kernel⟩
theorem sc_z0 : FnScope ["self", "pairs"] ["self"] (defScope s_z0) := ⟨rfl, rfl, rfl, by decide +kernel, rfl, by decide +kernel, by decide +kernel⟩
theorem sc_z1 : FnScope ["self"] ["self"] (defScope s_z1) := ⟨rfl, rfl, rfl, by decide +kernel, rfl, by decide +kernel, by decide +kernel⟩
theorem sc_z5 : FnScope ["self", "places"] ["self"] (defScope s_z5) := ⟨rfl, rfl, rfl, by decide +kernel, rfl, by decide +kernel, by decide +kernel⟩
theorem sc_z9 : FnScope ["self", "pairs", "place"] ["self", "pairs"] (defScope s_z9) := ⟨rfl, rfl, rfl, by decide +kernel, rfl, by decide +kernel, by decide +kernel⟩
theorem sc_z8 : FnScope ["self", "place", "key", "value"] ["self", "place"] (defScope s_z8) := ⟨rfl, rfl, rfl, by decide +kernel, rfl, by decide +kernel, by decide +kernel⟩
theorem sc_z2 : FnScope ["self"] ["self"] (defScope s_z2) := ⟨rfl, rfl, rfl, by decide +kernel, rfl, by decide +kernel, by decide +kernel⟩
theorem sc_z46 : FnScope ["kind", "marked", "words", "size", "bare"] ["kind", "marked", "words", "size"] (defScope s_z46) := ⟨rfl, rfl, rfl, by decide +kernel, rfl, by decide +kernel, by decide +kernel⟩
theorem sc_z49 : FnScope ["number"] ["number"] (defScope s_z49) := ⟨rfl, rfl, rfl, by decide +kernel, rfl, by decide +kernel, by decide +kernel⟩
theorem sc_z60 : FnScope ["number"] ["number"] (defScope s_z60) := ⟨rfl, rfl, rfl, by decide +kernel, rfl, by decide +kernel, by decide +kernel⟩
theorem sc_z47 : FnScope ["number"] ["number"] (defScope s_z47) := ⟨rfl, rfl, rfl, by decide +kernel, rfl, by decide +kernel, by decide +kernel⟩
theorem sc_z45 : FnScope ["number"] ["number"] (defScope s_z45) := ⟨rfl, rfl, rfl, by decide +kernel, rfl, by decide +kernel, by decide +kernel⟩
theorem sc_z64 : FnScope ["number", "marked"] ["number", "marked"] (defScope s_z64) := ⟨rfl, rfl, rfl, by decide +kernel, rfl, by decide +kernel, by decide +kernel⟩
theorem sc_z65 : FnScope ["number", "words"] ["number", "words"] (defScope s_z65) := ⟨rfl, rfl, rfl, by decide +kernel, rfl, by decide +kernel, by decide +kernel⟩
theorem sc_z63 : FnScope ["number", "bit", "is_set"] ["number", "bit", "is_set"] (defScope s_z63) := ⟨rfl, rfl, rfl, by decide +kernel, rfl, by decide +kernel, by decide +kernel⟩
theorem sc_z33 : FnScope ["self", "many", "cells"] ["self", "many", "cells"] (defScope s_z33) := ⟨rfl, rfl, rfl, by decide +kernel, rfl, by decide +kernel, by decide +kernel⟩
theorem sc_z31 : FnScope ["self", "length", "room", "place"] ["self", "length"] (defScope s_z31) := ⟨rfl, rfl, rfl, by decide +kernel, rfl, by decide +kernel, by decide +kernel⟩
theorem sc_z32 : FnScope ["self", "room", "length", "first", "free", "place"] ["self", "room", "length"] (defScope s_z32) := ⟨rfl, rfl, rfl, by decide +kernel, rfl, by decide +kernel, by decide +kernel⟩
theorem sc_z30 : FnScope ["self", "place", "some", "at", "value"] ["self", "place", "some"] (defScope s_z30) := ⟨rfl, rfl, rfl, by decide +kernel, rfl, by decide +kernel, by decide +kernel⟩
theorem sc_z34 : FnScope ["self", "place"] ["self", "place"] (defScope s_z34) := ⟨rfl, rfl, rfl, by decide +kernel, rfl, by decide +kernel, by decide +kernel⟩
theorem sc_z36 : FnScope ["self", "place", "value"] ["self", "place", "value"] (defScope s_z36) := ⟨rfl, rfl, rfl, by decide +kernel, rfl, by decide +kernel, by decide +kernel⟩
theorem sc_z35 : FnScope ["self", "place"] ["self", "place"] (defScope s_z35) := ⟨rfl, rfl, rfl, by decide +kernel, rfl, by decide +kernel, by decide +kernel⟩
theorem sc_z44 : FnScope ["sort"] ["sort"] (defScope s_z44) := ⟨rfl, rfl, rfl, by decide +kernel, rfl, by decide +kernel, by decide +kernel⟩
theorem sc_z61 : FnScope ["thing"] ["thing"] (defScope s_z61) := ⟨rfl, rfl, rfl, by decide +kernel, rfl, by decide +kernel, by decide +kernel⟩
theorem sc_z66 : FnScope ["words"] ["words"] (defScope s_z66) := ⟨rfl, rfl, rfl, by decide +kernel, rfl, by decide +kernel, by decide +kernel⟩
theorem sc_z43 : FnScope ["thing", "serial", "marked", "words", "head", "between"] ["thing", "serial", "marked"] (defScope s_z43) := ⟨rfl, rfl, rfl, by decide +kernel, rfl, by decide +kernel, by decide +kernel⟩
theorem sc_z13 : FnScope ["self", "many", "cells"] ["self", "many", "cells"] (defScope s_z13) := ⟨rfl, rfl, rfl, by decide +kernel, rfl, by decide +kernel, by decide +kernel⟩
theorem sc_z17 : FnScope ["self", "thing", "serial", "marked", "place"] ["self", "thing", "serial", "marked"] (defScope s_z17) := ⟨rfl, rfl, rfl, by decide +kernel, rfl, by decide +kernel, by decide +kernel⟩
theorem sc_z11 : FnScope ["self", "place", "some"] ["self", "place", "some"] (defScope s_z11) := ⟨rfl, rfl, rfl, by decide +kernel, rfl, by decide +kernel, by decide +kernel⟩
theorem sc_z12 : FnScope ["self", "place"] ["self", "place"] (defScope s_z12) := ⟨rfl, rfl, rfl, by decide +kernel, rfl, by decide +kernel, by decide +kernel⟩
theorem sc_z23 : FnScope ["self", "place", "sort", "some"] ["self", "place"] (defScope s_z23) := ⟨rfl, rfl, rfl, by decide +kernel, rfl, by decide +kernel, by decide +kernel⟩
theorem sc_z24 : FnScope ["self", "place"] ["self", "place"] (defScope s_z24) := ⟨rfl, rfl, rfl, by decide +kernel, rfl, by decide +kernel, by decide +kernel⟩
theorem sc_z18 : FnScope ["self", "place"] ["self", "place"] (defScope s_z18) := ⟨rfl, rfl, rfl, by decide +kernel, rfl, by decide +kernel, by decide +kernel⟩
theorem sc_z21 : FnScope ["self", "place"] ["self", "place"] (defScope s_z21) := ⟨rfl, rfl, rfl, by decide +kernel, rfl, by decide +kernel, by decide +kernel⟩
theorem sc_z22 : FnScope ["self", "place"] ["self", "place"] (defScope s_z22) := ⟨rfl, rfl, rfl, by decide +kernel, rfl, by decide +kernel, by decide +kernel⟩
theorem sc_z14 : FnScope ["self", "place"] ["self", "place"] (defScope s_z14) := ⟨rfl, rfl, rfl, by decide +kernel, rfl, by decide +kernel, by decide +kernel⟩
theorem sc_z20 : FnScope ["self", "place", "marked"] ["self", "place", "marked"] (defScope s_z20) := ⟨rfl, rfl, rfl, by decide +kernel, rfl, by decide +kernel, by decide +kernel⟩
theorem sc_z19 : FnScope ["self", "place", "at", "value"] ["self", "place", "at", "value"] (defScope s_z19) := ⟨rfl, rfl, rfl, by decide +kernel, rfl, by decide +kernel, by decide +kernel⟩
theorem sc_z15 : FnScope ["self", "told", "room"] ["self"] (defScope s_z15) := ⟨rfl, rfl, rfl, by decide +kernel, rfl, by decide +kernel, by decide +kernel⟩
theorem sc_z16 : FnScope ["self", "room"] ["self", "room"] (defScope s_z16) := ⟨rfl, rfl, rfl, by decide +kernel, rfl, by decide +kernel, by decide +kernel⟩
theorem sc_z51 : FnScope ["_law_script", "_law_k"] ["_law_script", "_law_k"] (defScope s_z51) := ⟨rfl, rfl, rfl, by decide +kernel, rfl, by decide +kernel, by decide +kernel⟩
theorem sc_z55 : FnScope ["_law_cell", "_law_number_here"] ["_law_cell"] (defScope s_z55) := ⟨rfl, rfl, rfl, by decide +kernel, rfl, by decide +kernel, by decide +kernel⟩
theorem sc_z54 : FnScope ["_law_script", "_law_memory", "_law_start", "_law_rows", "_law_places", "_law_cell", "_law_number_here", "_law_sort", "_law_size", "_law_words", "_law_fields", "_law_place", "_law_k", "_law_at", "_law_value"] ["_law_script", "_law_memory", "_law_start"] (defScope s_z54) := ⟨rfl, rfl, rfl, by decide +kernel, rfl, by decide +kernel, by decide +kernel⟩
theorem sc_z56 : FnScope ["_law_sort", "_law_fields", "_law_words"] ["_law_sort", "_law_fields", "_law_words"] (defScope s_z56) := ⟨rfl, rfl, rfl, by decide +kernel, rfl, by decide +kernel, by decide +kernel⟩
theorem sc_z52 : FnScope ["_law_rows", "_law_some", "_law_there", "_law_going", "_law_k", "_law_sort", "_law_fields", "_law_words", "_law_number_here", "_law_more", "_law_other"] ["_law_rows", "_law_some"] (defScope s_z52) := ⟨rfl, rfl, rfl, by decide +kernel, rfl, by decide +kernel, by decide +kernel⟩
theorem sc_z53 : FnScope ["_law_memory", "_law_places"] ["_law_memory", "_law_places"] (defScope s_z53) := ⟨rfl, rfl, rfl, by decide +kernel, rfl, by decide +kernel, by decide +kernel⟩
theorem sc_law : FnScope ["_law_script", "_law_cell", "_law_memory", "_law_rows", "_law_places", "_law_marking", "_law_k", "_law_due", "_law_fields", "_law_again", "_law_thing_here"] ["_law_script"] (defScope s_law) := ⟨rfl, rfl, rfl, by decide +kernel, rfl, by decide +kernel, by decide +kernel⟩
set_option genInjectivity false in
set_option genSizeOfSpec false in
structure Adr where
  a_z48 : Addr
  d_z48 : FuncData
  a_z57 : Addr
  d_z57 : FuncData
  a_z39 : Addr
  d_z39 : FuncData
  a_z40 : Addr
  d_z40 : FuncData
  a_z37 : Addr
  d_z37 : FuncData
  a_z38 : Addr
  d_z38 : FuncData
  a_z41 : Addr
  d_z41 : FuncData
  a_z42 : Addr
  d_z42 : FuncData
  a_z28 : Addr
  d_z28 : FuncData
  a_z27 : Addr
  d_z27 : FuncData
  a_z29 : Addr
  d_z29 : FuncData
  a_z25 : Addr
  d_z25 : FuncData
  a_z26 : Addr
  d_z26 : FuncData
  a_z59 : Addr
  d_z59 : FuncData
  a_z62 : Addr
  d_z62 : FuncData
  a_z58 : Addr
  d_z58 : FuncData
  a_z4 : Addr
  d_z4 : FuncData
  a_z6 : Addr
  d_z6 : FuncData
  a_z7 : Addr
  d_z7 : FuncData
  a_z3 : Addr
  d_z3 : FuncData
  a_z10 : Addr
  d_z10 : FuncData
  a_z0 : Addr
  d_z0 : FuncData
  a_z1 : Addr
  d_z1 : FuncData
  a_z5 : Addr
  d_z5 : FuncData
  a_z9 : Addr
  d_z9 : FuncData
  a_z8 : Addr
  d_z8 : FuncData
  a_z2 : Addr
  d_z2 : FuncData
  a_z46 : Addr
  d_z46 : FuncData
  a_z49 : Addr
  d_z49 : FuncData
  a_z60 : Addr
  d_z60 : FuncData
  a_z47 : Addr
  d_z47 : FuncData
  a_z45 : Addr
  d_z45 : FuncData
  a_z64 : Addr
  d_z64 : FuncData
  a_z65 : Addr
  d_z65 : FuncData
  a_z63 : Addr
  d_z63 : FuncData
  a_z33 : Addr
  d_z33 : FuncData
  a_z31 : Addr
  d_z31 : FuncData
  a_z32 : Addr
  d_z32 : FuncData
  a_z30 : Addr
  d_z30 : FuncData
  a_z34 : Addr
  d_z34 : FuncData
  a_z36 : Addr
  d_z36 : FuncData
  a_z35 : Addr
  d_z35 : FuncData
  a_z44 : Addr
  d_z44 : FuncData
  a_z61 : Addr
  d_z61 : FuncData
  a_z66 : Addr
  d_z66 : FuncData
  a_z43 : Addr
  d_z43 : FuncData
  a_z13 : Addr
  d_z13 : FuncData
  a_z17 : Addr
  d_z17 : FuncData
  a_z11 : Addr
  d_z11 : FuncData
  a_z12 : Addr
  d_z12 : FuncData
  a_z23 : Addr
  d_z23 : FuncData
  a_z24 : Addr
  d_z24 : FuncData
  a_z18 : Addr
  d_z18 : FuncData
  a_z21 : Addr
  d_z21 : FuncData
  a_z22 : Addr
  d_z22 : FuncData
  a_z14 : Addr
  d_z14 : FuncData
  a_z20 : Addr
  d_z20 : FuncData
  a_z19 : Addr
  d_z19 : FuncData
  a_z15 : Addr
  d_z15 : FuncData
  a_z16 : Addr
  d_z16 : FuncData
  a_z51 : Addr
  d_z51 : FuncData
  a_z55 : Addr
  d_z55 : FuncData
  a_z54 : Addr
  d_z54 : FuncData
  a_z56 : Addr
  d_z56 : FuncData
  a_z52 : Addr
  d_z52 : FuncData
  a_z53 : Addr
  d_z53 : FuncData
  a_law : Addr
  d_law : FuncData
  c_Thing : Addr
  c_PlainThing : Addr
  c_PairThing : Addr
  c_Marking : Addr
  c_Rooms : Addr
  c_Memory : Addr
  t_NOTHING : Addr
  t_KIND_BITS : Tok
  t_MARK_BIT : Tok
  t_WORDS_BIT : Tok
  t_SIZE_FROM : Tok
  t_SORTS : Addr
  t_SERIAL_AT : Tok
  t_WORDS_AT : Tok
  kc_z5 : Addr
  pc_z5 : Addr
structure Txt (K : PySem.W.Frag) (mg : Str → Option Value) (a : Adr) : Prop where
  lc_z5 : a.d_z5.code = .ref a.kc_z5
  lh_z5 : PySem.W.codeHdIn K a.kc_z5 a.pc_z5 = true
  f_z48 : Fun K "is_thing" "is_thing" s_z48 a.a_z48 a.d_z48
  b_z48 : Binds K a.d_z48 ["value"] []
  m_z48 : mg "is_thing" = some (.ref a.a_z48)
  f_z57 : Fun K "names_in" "names_in" s_z57 a.a_z57 a.d_z57
  b_z57 : Binds K a.d_z57 ["some"] []
  m_z57 : mg "names_in" = some (.ref a.a_z57)
  f_z39 : Fun K "__init__" "Thing.__init__" s_z39 a.a_z39 a.d_z39
  b_z39 : Binds K a.d_z39 ["self", "sort", "some"] []
  mk_Thing : Mk K a.c_Thing a.a_z39
  f_z40 : Fun K "sort_of" "Thing.sort_of" s_z40 a.a_z40 a.d_z40
  b_z40 : Binds K a.d_z40 ["self"] []
  me_z40 : Meth K a.c_Thing "sort_of" a.a_z40
  f_z37 : Fun K "fields" "Thing.fields" s_z37 a.a_z37 a.d_z37
  b_z37 : Binds K a.d_z37 ["self"] []
  me_z37 : Meth K a.c_Thing "fields" a.a_z37
  f_z38 : Fun K "holds" "Thing.holds" s_z38 a.a_z38 a.d_z38
  b_z38 : Binds K a.d_z38 ["self"] []
  me_z38 : Meth K a.c_Thing "holds" a.a_z38
  f_z41 : Fun K "waits" "Thing.waits" s_z41 a.a_z41 a.d_z41
  b_z41 : Binds K a.d_z41 ["self"] []
  me_z41 : Meth K a.c_Thing "waits" a.a_z41
  f_z42 : Fun K "words" "Thing.words" s_z42 a.a_z42 a.d_z42
  b_z42 : Binds K a.d_z42 ["self"] []
  me_z42 : Meth K a.c_Thing "words" a.a_z42
  f_z28 : Fun K "__init__" "PlainThing.__init__" s_z28 a.a_z28 a.d_z28
  b_z28 : Binds K a.d_z28 ["self", "some", "last_words"] []
  mk_PlainThing : Mk K a.c_PlainThing a.a_z28
  f_z27 : Fun K "holds" "PlainThing.holds" s_z27 a.a_z27 a.d_z27
  b_z27 : Binds K a.d_z27 ["self"] []
  me_z27 : Meth K a.c_PlainThing "holds" a.a_z27
  f_z29 : Fun K "words" "PlainThing.words" s_z29 a.a_z29 a.d_z29
  b_z29 : Binds K a.d_z29 ["self"] []
  me_z29 : Meth K a.c_PlainThing "words" a.a_z29
  f_z25 : Fun K "__init__" "PairThing.__init__" s_z25 a.a_z25 a.d_z25
  b_z25 : Binds K a.d_z25 ["self", "key", "value"] []
  mk_PairThing : Mk K a.c_PairThing a.a_z25
  f_z26 : Fun K "waits" "PairThing.waits" s_z26 a.a_z26 a.d_z26
  b_z26 : Binds K a.d_z26 ["self"] []
  me_z26 : Meth K a.c_PairThing "waits" a.a_z26
  f_z59 : Fun K "plain" "plain" s_z59 a.a_z59 a.d_z59
  b_z59 : Binds K a.d_z59 ["fields", "words"] []
  m_z59 : mg "plain" = some (.ref a.a_z59)
  f_z62 : Fun K "weak" "weak" s_z62 a.a_z62 a.d_z62
  b_z62 : Binds K a.d_z62 ["field"] []
  m_z62 : mg "weak" = some (.ref a.a_z62)
  f_z58 : Fun K "pair" "pair" s_z58 a.a_z58 a.d_z58
  b_z58 : Binds K a.d_z58 ["key", "value"] []
  m_z58 : mg "pair" = some (.ref a.a_z58)
  f_z4 : Fun K "__init__" "Marking.__init__" s_z4 a.a_z4 a.d_z4
  b_z4 : Binds K a.d_z4 ["self", "memory"] []
  mk_Marking : Mk K a.c_Marking a.a_z4
  f_z6 : Fun K "shade" "Marking.shade" s_z6 a.a_z6 a.d_z6
  b_z6 : Binds K a.d_z6 ["self", "place"] []
  me_z6 : Meth K a.c_Marking "shade" a.a_z6
  f_z7 : Fun K "shade_all" "Marking.shade_all" s_z7 a.a_z7 a.d_z7
  b_z7 : Binds K a.d_z7 ["self", "places"] []
  me_z7 : Meth K a.c_Marking "shade_all" a.a_z7
  f_z3 : Fun K "has_grey" "Marking.has_grey" s_z3 a.a_z3 a.d_z3
  b_z3 : Binds K a.d_z3 ["self"] []
  me_z3 : Meth K a.c_Marking "has_grey" a.a_z3
  f_z10 : Fun K "step" "Marking.step" s_z10 a.a_z10 a.d_z10
  b_z10 : Binds K a.d_z10 ["self"] []
  me_z10 : Meth K a.c_Marking "step" a.a_z10
  f_z0 : Fun K "drain" "Marking.drain" s_z0 a.a_z0 a.d_z0
  b_z0 : Binds K a.d_z0 ["self"] []
  me_z0 : Meth K a.c_Marking "drain" a.a_z0
  f_z1 : Fun K "empty_row" "Marking.empty_row" s_z1 a.a_z1 a.d_z1
  b_z1 : Binds K a.d_z1 ["self"] []
  me_z1 : Meth K a.c_Marking "empty_row" a.a_z1
  f_z5 : Fun K "pairs_by_serial" "Marking.pairs_by_serial" s_z5 a.a_z5 a.d_z5
  b_z5 : Binds K a.d_z5 ["self"] []
  me_z5 : Meth K a.c_Marking "pairs_by_serial" a.a_z5
  f_z9 : Fun K "shade_values" "Marking.shade_values" s_z9 a.a_z9 a.d_z9
  b_z9 : Binds K a.d_z9 ["self", "pairs"] []
  me_z9 : Meth K a.c_Marking "shade_values" a.a_z9
  f_z8 : Fun K "shade_value" "Marking.shade_value" s_z8 a.a_z8 a.d_z8
  b_z8 : Binds K a.d_z8 ["self", "place"] []
  me_z8 : Meth K a.c_Marking "shade_value" a.a_z8
  f_z2 : Fun K "grey" "Marking.grey" s_z2 a.a_z2 a.d_z2
  b_z2 : Binds K a.d_z2 ["self"] []
  me_z2 : Meth K a.c_Marking "grey" a.a_z2
  f_z46 : Fun K "header" "header" s_z46 a.a_z46 a.d_z46
  b_z46 : Binds K a.d_z46 ["kind", "marked", "words", "size"] []
  m_z46 : mg "header" = some (.ref a.a_z46)
  f_z49 : Fun K "kind_in" "kind_in" s_z49 a.a_z49 a.d_z49
  b_z49 : Binds K a.d_z49 ["number"] []
  m_z49 : mg "kind_in" = some (.ref a.a_z49)
  f_z60 : Fun K "size_in" "size_in" s_z60 a.a_z60 a.d_z60
  b_z60 : Binds K a.d_z60 ["number"] []
  m_z60 : mg "size_in" = some (.ref a.a_z60)
  f_z47 : Fun K "is_marked" "is_marked" s_z47 a.a_z47 a.d_z47
  b_z47 : Binds K a.d_z47 ["number"] []
  m_z47 : mg "is_marked" = some (.ref a.a_z47)
  f_z45 : Fun K "has_words" "has_words" s_z45 a.a_z45 a.d_z45
  b_z45 : Binds K a.d_z45 ["number"] []
  m_z45 : mg "has_words" = some (.ref a.a_z45)
  f_z64 : Fun K "with_mark" "with_mark" s_z64 a.a_z64 a.d_z64
  b_z64 : Binds K a.d_z64 ["number", "marked"] []
  m_z64 : mg "with_mark" = some (.ref a.a_z64)
  f_z65 : Fun K "with_words" "with_words" s_z65 a.a_z65 a.d_z65
  b_z65 : Binds K a.d_z65 ["number", "words"] []
  m_z65 : mg "with_words" = some (.ref a.a_z65)
  f_z63 : Fun K "with_bit" "with_bit" s_z63 a.a_z63 a.d_z63
  b_z63 : Binds K a.d_z63 ["number", "bit", "is_set"] []
  m_z63 : mg "with_bit" = some (.ref a.a_z63)
  f_z33 : Fun K "__init__" "Rooms.__init__" s_z33 a.a_z33 a.d_z33
  b_z33 : Binds K a.d_z33 ["self", "many", "cells"] []
  mk_Rooms : Mk K a.c_Rooms a.a_z33
  f_z31 : Fun K "gap" "Rooms.gap" s_z31 a.a_z31 a.d_z31
  b_z31 : Binds K a.d_z31 ["self", "length"] []
  me_z31 : Meth K a.c_Rooms "gap" a.a_z31
  f_z32 : Fun K "gap_in" "Rooms.gap_in" s_z32 a.a_z32 a.d_z32
  b_z32 : Binds K a.d_z32 ["self", "room", "length"] []
  me_z32 : Meth K a.c_Rooms "gap_in" a.a_z32
  f_z30 : Fun K "fill_in" "Rooms.fill_in" s_z30 a.a_z30 a.d_z30
  b_z30 : Binds K a.d_z30 ["self", "place", "some"] []
  me_z30 : Meth K a.c_Rooms "fill_in" a.a_z30
  f_z34 : Fun K "read" "Rooms.read" s_z34 a.a_z34 a.d_z34
  b_z34 : Binds K a.d_z34 ["self", "place"] []
  me_z34 : Meth K a.c_Rooms "read" a.a_z34
  f_z36 : Fun K "write" "Rooms.write" s_z36 a.a_z36 a.d_z36
  b_z36 : Binds K a.d_z36 ["self", "place", "value"] []
  me_z36 : Meth K a.c_Rooms "write" a.a_z36
  f_z35 : Fun K "room_of" "Rooms.room_of" s_z35 a.a_z35 a.d_z35
  b_z35 : Binds K a.d_z35 ["self", "place"] []
  me_z35 : Meth K a.c_Rooms "room_of" a.a_z35
  f_z44 : Fun K "first_field" "first_field" s_z44 a.a_z44 a.d_z44
  b_z44 : Binds K a.d_z44 ["sort"] []
  m_z44 : mg "first_field" = some (.ref a.a_z44)
  f_z61 : Fun K "size_of" "size_of" s_z61 a.a_z61 a.d_z61
  b_z61 : Binds K a.d_z61 ["thing"] []
  m_z61 : mg "size_of" = some (.ref a.a_z61)
  f_z66 : Fun K "words_cell" "words_cell" s_z66 a.a_z66 a.d_z66
  b_z66 : Binds K a.d_z66 ["words"] []
  m_z66 : mg "words_cell" = some (.ref a.a_z66)
  f_z43 : Fun K "cells_of" "cells_of" s_z43 a.a_z43 a.d_z43
  b_z43 : Binds K a.d_z43 ["thing", "serial", "marked"] []
  m_z43 : mg "cells_of" = some (.ref a.a_z43)
  f_z13 : Fun K "__init__" "Memory.__init__" s_z13 a.a_z13 a.d_z13
  b_z13 : Binds K a.d_z13 ["self", "many", "cells"] []
  mk_Memory : Mk K a.c_Memory a.a_z13
  f_z17 : Fun K "put_in" "Memory.put_in" s_z17 a.a_z17 a.d_z17
  b_z17 : Binds K a.d_z17 ["self", "thing", "serial", "marked"] []
  me_z17 : Meth K a.c_Memory "put_in" a.a_z17
  f_z11 : Fun K "fill_from" "Memory.fill_from" s_z11 a.a_z11 a.d_z11
  b_z11 : Binds K a.d_z11 ["self", "place", "some"] []
  me_z11 : Meth K a.c_Memory "fill_from" a.a_z11
  f_z12 : Fun K "head_at" "Memory.head_at" s_z12 a.a_z12 a.d_z12
  b_z12 : Binds K a.d_z12 ["self", "place"] []
  me_z12 : Meth K a.c_Memory "head_at" a.a_z12
  f_z23 : Fun K "thing_at" "Memory.thing_at" s_z23 a.a_z23 a.d_z23
  b_z23 : Binds K a.d_z23 ["self", "place"] []
  me_z23 : Meth K a.c_Memory "thing_at" a.a_z23
  f_z24 : Fun K "words_at" "Memory.words_at" s_z24 a.a_z24 a.d_z24
  b_z24 : Binds K a.d_z24 ["self", "place"] []
  me_z24 : Meth K a.c_Memory "words_at" a.a_z24
  f_z18 : Fun K "serial_at" "Memory.serial_at" s_z18 a.a_z18 a.d_z18
  b_z18 : Binds K a.d_z18 ["self", "place"] []
  me_z18 : Meth K a.c_Memory "serial_at" a.a_z18
  f_z21 : Fun K "size_at" "Memory.size_at" s_z21 a.a_z21 a.d_z21
  b_z21 : Binds K a.d_z21 ["self", "place"] []
  me_z21 : Meth K a.c_Memory "size_at" a.a_z21
  f_z22 : Fun K "sort_at" "Memory.sort_at" s_z22 a.a_z22 a.d_z22
  b_z22 : Binds K a.d_z22 ["self", "place"] []
  me_z22 : Meth K a.c_Memory "sort_at" a.a_z22
  f_z14 : Fun K "marked_at" "Memory.marked_at" s_z14 a.a_z14 a.d_z14
  b_z14 : Binds K a.d_z14 ["self", "place"] []
  me_z14 : Meth K a.c_Memory "marked_at" a.a_z14
  f_z20 : Fun K "set_mark" "Memory.set_mark" s_z20 a.a_z20 a.d_z20
  b_z20 : Binds K a.d_z20 ["self", "place", "marked"] []
  me_z20 : Meth K a.c_Memory "set_mark" a.a_z20
  f_z19 : Fun K "set_field" "Memory.set_field" s_z19 a.a_z19 a.d_z19
  b_z19 : Binds K a.d_z19 ["self", "place", "at", "value"] []
  me_z19 : Meth K a.c_Memory "set_field" a.a_z19
  f_z15 : Fun K "places" "Memory.places" s_z15 a.a_z15 a.d_z15
  b_z15 : Binds K a.d_z15 ["self"] []
  me_z15 : Meth K a.c_Memory "places" a.a_z15
  f_z16 : Fun K "places_in" "Memory.places_in" s_z16 a.a_z16 a.d_z16
  b_z16 : Binds K a.d_z16 ["self", "room"] []
  me_z16 : Meth K a.c_Memory "places_in" a.a_z16
  f_z51 : Fun K "_law_cell_at" "_law_cell_at" s_z51 a.a_z51 a.d_z51
  b_z51 : Binds K a.d_z51 ["_law_script", "_law_k"] []
  m_z51 : mg "_law_cell_at" = some (.ref a.a_z51)
  f_z55 : Fun K "_law_number" "_law_number" s_z55 a.a_z55 a.d_z55
  b_z55 : Binds K a.d_z55 ["_law_cell"] []
  m_z55 : mg "_law_number" = some (.ref a.a_z55)
  f_z54 : Fun K "_law_graph" "_law_graph" s_z54 a.a_z54 a.d_z54
  b_z54 : Binds K a.d_z54 ["_law_script", "_law_memory", "_law_start"] []
  m_z54 : mg "_law_graph" = some (.ref a.a_z54)
  f_z56 : Fun K "_law_thing" "_law_thing" s_z56 a.a_z56 a.d_z56
  b_z56 : Binds K a.d_z56 ["_law_sort", "_law_fields", "_law_words"] []
  m_z56 : mg "_law_thing" = some (.ref a.a_z56)
  f_z52 : Fun K "_law_closed" "_law_closed" s_z52 a.a_z52 a.d_z52
  b_z52 : Binds K a.d_z52 ["_law_rows", "_law_some"] []
  m_z52 : mg "_law_closed" = some (.ref a.a_z52)
  f_z53 : Fun K "_law_dark" "_law_dark" s_z53 a.a_z53 a.d_z53
  b_z53 : Binds K a.d_z53 ["_law_memory", "_law_places"] []
  m_z53 : mg "_law_dark" = some (.ref a.a_z53)
  f_law : Fun K "law" "law" s_law a.a_law a.d_law
  m_law : mg "law" = some (.ref a.a_law)
  me_PlainThing_sort_of : Meth K a.c_PlainThing "sort_of" a.a_z40
  me_PlainThing_fields : Meth K a.c_PlainThing "fields" a.a_z37
  me_PlainThing_waits : Meth K a.c_PlainThing "waits" a.a_z41
  me_PairThing_sort_of : Meth K a.c_PairThing "sort_of" a.a_z40
  me_PairThing_fields : Meth K a.c_PairThing "fields" a.a_z37
  me_PairThing_holds : Meth K a.c_PairThing "holds" a.a_z38
  me_PairThing_words : Meth K a.c_PairThing "words" a.a_z42
  cf_Thing_init : ClsFn K a.c_Thing "__init__" a.a_z39
  cl_Thing : Cls K a.c_Thing
  mc_Thing : mg "Thing" = some (.ref a.c_Thing)
  na_Thing_called : NoAttr K a.c_Thing "called"
  na_Thing_parts : NoAttr K a.c_Thing "parts"
  cl_PlainThing : Cls K a.c_PlainThing
  mc_PlainThing : mg "PlainThing" = some (.ref a.c_PlainThing)
  na_PlainThing_called : NoAttr K a.c_PlainThing "called"
  na_PlainThing_parts : NoAttr K a.c_PlainThing "parts"
  na_PlainThing_last_words : NoAttr K a.c_PlainThing "last_words"
  cl_PairThing : Cls K a.c_PairThing
  mc_PairThing : mg "PairThing" = some (.ref a.c_PairThing)
  na_PairThing_called : NoAttr K a.c_PairThing "called"
  na_PairThing_parts : NoAttr K a.c_PairThing "parts"
  cl_Marking : Cls K a.c_Marking
  mc_Marking : mg "Marking" = some (.ref a.c_Marking)
  na_Marking_memory : NoAttr K a.c_Marking "memory"
  na_Marking_grey_places : NoAttr K a.c_Marking "grey_places"
  cl_Rooms : Cls K a.c_Rooms
  mc_Rooms : mg "Rooms" = some (.ref a.c_Rooms)
  na_Rooms_many : NoAttr K a.c_Rooms "many"
  na_Rooms_cells : NoAttr K a.c_Rooms "cells"
  na_Rooms_inside : NoAttr K a.c_Rooms "inside"
  cl_Memory : Cls K a.c_Memory
  mc_Memory : mg "Memory" = some (.ref a.c_Memory)
  na_Memory_rooms : NoAttr K a.c_Memory "rooms"
  na_Memory_begins : NoAttr K a.c_Memory "begins"
  c_NOTHING : mg "NOTHING" = some (.ref a.t_NOTHING)
  d_NOTHING : ∃ o, K.lookup a.t_NOTHING = some o ∧ o.cls = .type "tuple" ∧ o.dict = none
  q_NOTHING : ∀ H : Hp, SqT K H a.t_NOTHING [.str "nothing"]
  c_KIND_BITS : mg "KIND_BITS" = some (.int 3 a.t_KIND_BITS)
  c_MARK_BIT : mg "MARK_BIT" = some (.int 4 a.t_MARK_BIT)
  c_WORDS_BIT : mg "WORDS_BIT" = some (.int 8 a.t_WORDS_BIT)
  c_SIZE_FROM : mg "SIZE_FROM" = some (.int 4 a.t_SIZE_FROM)
  c_SORTS : mg "SORTS" = some (.ref a.t_SORTS)
  d_SORTS : ∃ o, K.lookup a.t_SORTS = some o ∧ o.cls = .type "tuple" ∧ o.dict = none
  q_SORTS : ∀ H : Hp, SqT K H a.t_SORTS [.str "plain", .str "weak", .str "pair"]
  c_SERIAL_AT : mg "SERIAL_AT" = some (.int 1 a.t_SERIAL_AT)
  c_WORDS_AT : mg "WORDS_AT" = some (.int 2 a.t_WORDS_AT)
  n_enumerate : mg "enumerate" = none
  n_len : mg "len" = none
  n_list : mg "list" = none
  n_min : mg "min" = none
  n_range : mg "range" = none
  n_sorted : mg "sorted" = none
def AllFree (xs : List V) (p L : Nat) : Prop := ∀ j, j < L → xs[p + j]? = some V.non
def Fits (xs : List V) (c L p : Nat) : Prop := p + L ≤ xs.length ∧ p / c = (p + L - 1) / c ∧ AllFree xs p L
def IsGap (xs : List V) (c L : Nat) : Option Nat → Prop
  | none => ∀ p, ¬ Fits xs c L p
  | some p => Fits xs c L p ∧ ∀ q, q < p → ¬ Fits xs c L q
theorem fits_room {xs : List V} {c L p r : Nat} (hc : 0 < c) (hL : 0 < L) (h : Fits xs c L p) (hr : p / c = r) : r * c ≤ p ∧ p + L ≤ r * c + c := by
  obtain ⟨_, e, _⟩ := h
  have h1 : c * (p / c) ≤ p := Nat.mul_div_le p c
  have h2 : p + L - 1 < c * ((p + L - 1) / c + 1) := Nat.lt_mul_div_succ _ hc
  rw [← e, hr, Nat.mul_add, Nat.mul_one] at h2
  rw [hr] at h1
  rw [Nat.mul_comm r c]
  constructor <;> omega
theorem room_fits {xs : List V} {c L p r m : Nat} (hc : 0 < c) (hL : 0 < L) (hx : xs.length = m * c) (hr : r < m) (h1 : r * c ≤ p) (h2 : p + L ≤ r * c + c) (h : AllFree xs p L) : Fits xs c L p := by
  have e1 : p / c = r := by
    apply Nat.div_eq_of_lt_le <;> (try rw [Nat.succ_mul]) <;> omega
  have e2 : (p + L - 1) / c = r := by
    apply Nat.div_eq_of_lt_le <;> (try rw [Nat.succ_mul]) <;> omega
  refine ⟨?_, by rw [e1, e2], h⟩
  have : (r + 1) * c ≤ m * c := Nat.mul_le_mul_right c hr
  rw [Nat.succ_mul] at this
  omega
structure RunAt (xs : List V) (b i f L : Nat) : Prop where
  le : f ≤ i
  lt : f < L
  free : ∀ j, j < f → xs[b + i - 1 - j]? = some V.non
  stop : f < i → ∃ v, xs[b + i - 1 - f]? = some v ∧ v ≠ V.non
  no : ∀ p, b ≤ p → p + L ≤ b + i → ¬ AllFree xs p L
theorem RunAt.zero {xs : List V} {b L : Nat} (hL : 0 < L) : RunAt xs b 0 0 L :=
  ⟨Nat.le_refl _, hL, fun j h => absurd h (Nat.not_lt_zero _), fun h => absurd h (Nat.lt_irrefl _), fun p h1 h2 _ => by omega⟩
theorem RunAt.free_next {xs : List V} {b i f L : Nat} (h : RunAt xs b i f L) (hx : xs[b + i]? = some V.non) (hne : f + 1 ≠ L) : RunAt xs b (i + 1) (f + 1) L where
  le := by have := h.le; omega
  lt := by have := h.lt; omega
  free := fun j hj => by
    cases j with
    | zero => simpa using hx
    | succ k =>
      have e : b + (i + 1) - 1 - (k + 1) = b + i - 1 - k := by omega
      rw [e]
      exact h.free k (by omega)
  stop := fun hf => by
    have e : b + (i + 1) - 1 - (f + 1) = b + i - 1 - f := by omega
    rw [e]
    exact h.stop (by omega)
  no := fun p h1 h2 ha => by
    by_cases hp : p + L ≤ b + i
    · exact h.no p h1 hp ha
    · have hle := h.le
      have hlt := h.lt
      have hf : f < i := by omega
      obtain ⟨v, hv, hn⟩ := h.stop hf
      have := ha (b + i - 1 - f - p) (by omega)
      have e : p + (b + i - 1 - f - p) = b + i - 1 - f := by omega
      rw [e, hv] at this
      exact hn (Option.some.inj this)
theorem RunAt.full_next {xs : List V} {b i f L : Nat} {v : V} (h : RunAt xs b i f L) (hx : xs[b + i]? = some v) (hv : v ≠ V.non) : RunAt xs b (i + 1) 0 L where
  le := Nat.zero_le _
  lt := by have := h.lt; omega
  free := fun j hj => absurd hj (Nat.not_lt_zero _)
  stop := fun _ => ⟨v, by simpa using hx, hv⟩
  no := fun p h1 h2 ha => by
    by_cases hp : p + L ≤ b + i
    · exact h.no p h1 hp ha
    · have hlt := h.lt
      have := ha (b + i - p) (by omega)
      have e : p + (b + i - p) = b + i := by omega
      rw [e, hx] at this
      exact hv (Option.some.inj this)
theorem RunAt.found {xs : List V} {b i f L : Nat} (h : RunAt xs b i f L) (hx : xs[b + i]? = some V.non) (he : f + 1 = L) : b ≤ b + i + 1 - L ∧ AllFree xs (b + i + 1 - L) L ∧ ∀ p, b ≤ p → p < b + i + 1 - L → ¬ AllFree xs p L := by
  have hle := h.le
  refine ⟨by omega, fun j hj => ?_, fun p h1 h2 => h.no p h1 (by omega)⟩
  by_cases hj2 : j = f
  · have e : b + i + 1 - L + j = b + i := by omega
    rw [e]
    exact hx
  · have := h.free (f - 1 - j) (by omega)
    have e : b + i - 1 - (f - 1 - j) = b + i + 1 - L + j := by omega
    rw [e] at this
    exact this
def setAll : List V → Nat → List V → List V
  | xs, _, [] => xs
  | xs, p, y :: ys => setAll (xs.set p y) (p + 1) ys
theorem setAll_length : ∀ (ys xs : List V) (p : Nat), (setAll xs p ys).length = xs.length
  | [], _, _ => rfl
  | y :: ys, xs, p => by rw [setAll, setAll_length ys, List.length_set]
theorem setAll_snoc (y : V) : ∀ (ys xs : List V) (p : Nat), (setAll xs p ys).set (p + ys.length) y = setAll xs p (ys ++ [y])
  | [], _, _ => rfl
  | z :: ys, xs, p => by
    rw [List.cons_append, setAll, setAll, ← setAll_snoc y ys, List.length_cons]
    congr 1
    omega
theorem setAll_take {ys xs : List V} {p i : Nat} {y : V} (h : ys[i]? = some y) : (setAll xs p (ys.take i)).set (p + i) y = setAll xs p (ys.take (i + 1)) := by
  obtain ⟨hlt, e⟩ := List.getElem?_eq_some_iff.mp h
  have hl : (ys.take i).length = i := by rw [List.length_take]; omega
  have := setAll_snoc y (ys.take i) xs p
  rw [hl] at this
  rw [this, List.take_succ_eq_append_getElem hlt, e]
theorem gap_found {xs : List V} {c m L i q : Nat} (hc : 0 < c) (hL : 0 < L) (hx : xs.length = m * c) (hi : i < m) (inv : ∀ r, r < i → ∀ p, r * c ≤ p → p + L ≤ r * c + c → ¬ AllFree xs p L)
    (h1 : i * c ≤ q) (h2 : q + L ≤ i * c + c) (ha : AllFree xs q L) (least : ∀ p, i * c ≤ p → p < q → ¬ AllFree xs p L) : IsGap xs c L (some q) := by
  refine ⟨room_fits hc hL hx hi h1 h2 ha, fun p hp hf => ?_⟩
  obtain ⟨a1, a2⟩ := fits_room hc hL hf rfl
  by_cases hr : p / c < i
  · exact inv _ hr p a1 a2 hf.2.2
  · have : i * c ≤ p / c * c := Nat.mul_le_mul_right c (by omega)
    exact least p (by omega) hp hf.2.2
theorem gap_none {xs : List V} {c m L : Nat} (hc : 0 < c) (hL : 0 < L) (hx : xs.length = m * c) (inv : ∀ r, r < m → ∀ p, r * c ≤ p → p + L ≤ r * c + c → ¬ AllFree xs p L) : IsGap xs c L none := by
  intro p hf
  obtain ⟨a1, a2⟩ := fits_room hc hL hf rfl
  refine inv (p / c) ?_ p a1 a2 hf.2.2
  have h1 := hf.1
  rw [hx] at h1
  rw [Nat.div_lt_iff_lt_mul hc]
  omega
theorem setAll_out : ∀ (ys xs : List V) (p j : Nat), (j < p ∨ p + ys.length ≤ j) → (setAll xs p ys)[j]? = xs[j]?
  | [], _, _, _, _ => rfl
  | y :: ys, xs, p, j, h => by
    rw [List.length_cons] at h
    rw [setAll, setAll_out ys _ _ j (by omega), List.getElem?_set_ne (by omega)]
theorem setAll_in : ∀ (ys xs : List V) (p i : Nat) (v : V), p + ys.length ≤ xs.length → ys[i]? = some v → (setAll xs p ys)[p + i]? = some v
  | [], _, _, _, _, _, h => by simp at h
  | y :: ys, xs, p, 0, v, hl, h => by
    simp at h
    subst h
    rw [List.length_cons] at hl
    rw [setAll, setAll_out ys _ _ _ (.inl (by omega)), Nat.add_zero, List.getElem?_set_self (by omega)]
  | y :: ys, xs, p, i + 1, v, hl, h => by
    rw [List.length_cons] at hl
    have := setAll_in ys (xs.set p y) (p + 1) i v (by rw [List.length_set]; omega) (by simpa using h)
    rw [setAll, show p + (i + 1) = p + 1 + i by omega]
    exact this
structure Lay (xs : List V) (c : Nat) (es : List (Nat × List V)) : Prop where
  one : ∀ b ∈ es, 0 < b.2.length ∧ b.1 / c = (b.1 + b.2.length - 1) / c
  at_ : ∀ b ∈ es, ∀ (i : Nat) v, b.2[i]? = some v → v ≠ .non ∧ xs[b.1 + i]? = some v
  full : ∀ (j : Nat) v, xs[j]? = some v → v ≠ .non → ∃ b ∈ es, b.1 ≤ j ∧ j < b.1 + b.2.length
  dis : es.Pairwise fun b d => b.1 + b.2.length ≤ d.1 ∨ d.1 + d.2.length ≤ b.1
theorem Lay.nil (n c : Nat) : Lay (List.replicate n V.non) c [] where
  one := fun b hb => (nomatch hb)
  at_ := fun b hb => (nomatch hb)
  full := fun j v h hv => absurd (List.eq_of_mem_replicate (List.mem_of_getElem? h)) hv
  dis := .nil
theorem Lay.le {xs : List V} {c : Nat} {es : List (Nat × List V)} (L : Lay xs c es) {b : Nat × List V} (hb : b ∈ es) : b.1 + b.2.length ≤ xs.length := by
  have h0 := (L.one b hb).1
  have := (L.at_ b hb (b.2.length - 1) _ (List.getElem?_eq_getElem (by omega))).2
  have := (List.getElem?_eq_some_iff.mp this).1
  omega
theorem Lay.apart {xs : List V} {c : Nat} {es : List (Nat × List V)} (L : Lay xs c es) {b : Nat × List V} (hb : b ∈ es) {g n : Nat} (h : AllFree xs g n) (hn : 0 < n) : b.1 + b.2.length ≤ g ∨ g + n ≤ b.1 := by
  have h0 := (L.one b hb).1
  by_cases h1 : b.1 + b.2.length ≤ g
  · exact .inl h1
  · by_cases h2 : g + n ≤ b.1
    · exact .inr h2
    · exfalso
      have key : ∀ i j, i < b.2.length → j < n → b.1 + i = g + j → False := fun i j hi hj e => by
        obtain ⟨hv, hx⟩ := L.at_ b hb i _ (List.getElem?_eq_getElem hi)
        have := h j hj
        rw [← e, hx] at this
        exact hv (Option.some.inj this)
      by_cases h3 : b.1 ≤ g
      · exact key (g - b.1) 0 (by omega) hn (by omega)
      · exact key 0 (b.1 - g) h0 (by omega) (by omega)
theorem Lay.put {xs : List V} {c : Nat} {es : List (Nat × List V)} (L : Lay xs c es) {g : Nat} {ys : List V} (F : Fits xs c ys.length g) (h0 : 0 < ys.length) (hn : ∀ v ∈ ys, v ≠ .non) : Lay (setAll xs g ys) c (es ++ [(g, ys)]) where
  one := fun b hb => by
    rcases List.mem_append.mp hb with h | h
    · exact L.one b h
    · rw [List.mem_singleton.mp h]
      exact ⟨h0, F.2.1⟩
  at_ := fun b hb i v hv => by
    rcases List.mem_append.mp hb with h | h
    · obtain ⟨h1, h2⟩ := L.at_ b h i v hv
      refine ⟨h1, ?_⟩
      have hi := (List.getElem?_eq_some_iff.mp hv).1
      rw [setAll_out]
      · exact h2
      · rcases L.apart h F.2.2 h0 with z | z
        · exact .inl (by omega)
        · exact .inr (by omega)
    · rw [List.mem_singleton.mp h] at hv ⊢
      exact ⟨hn v (List.mem_of_getElem? hv), setAll_in ys xs g i v F.1 hv⟩
  full := fun j v hj hv => by
    by_cases h : j < g ∨ g + ys.length ≤ j
    · rw [setAll_out _ _ _ _ h] at hj
      obtain ⟨b, hb, h1⟩ := L.full j v hj hv
      exact ⟨b, List.mem_append_left _ hb, h1⟩
    · exact ⟨(g, ys), List.mem_append_right _ (List.mem_singleton.mpr rfl), by dsimp only; omega, by dsimp only; omega⟩
  dis := by
    rw [List.pairwise_append]
    refine ⟨L.dis, by simp, fun b hb d hd => ?_⟩
    rw [List.mem_singleton.mp hd]
    exact L.apart hb F.2.2 h0
theorem Lay.same {xs : List V} {c : Nat} {es : List (Nat × List V)} (L : Lay xs c es) {b d : Nat × List V} (hb : b ∈ es) (hd : d ∈ es) (e : b.1 = d.1) : b = d := by
  have h := L.dis
  have hb0 := (L.one b hb).1
  have hd0 := (L.one d hd).1
  have : es.Pairwise fun x y => x ∈ es → y ∈ es → x.1 = y.1 → x = y := h.imp_of_mem (fun {x y} hx hy hxy _ _ e => by
    have h1 := (L.one x hx).1
    have h2 := (L.one y hy).1
    omega)
  by_cases z : b = d
  · exact z
  · exfalso
    rcases List.mem_iff_getElem.mp hb with ⟨i, hi, ei⟩
    rcases List.mem_iff_getElem.mp hd with ⟨j, hj, ej⟩
    rcases Nat.lt_trichotomy i j with q | q | q
    · have := List.pairwise_iff_getElem.mp h i j hi hj q
      rw [ei, ej] at this
      omega
    · subst q
      exact z (ei.symm.trans ej)
    · have := List.pairwise_iff_getElem.mp h j i hj hi q
      rw [ei, ej] at this
      omega
theorem Lay.set {xs : List V} {c : Nat} {es : List (Nat × List V)} (L : Lay xs c es) {b : Nat × List V} (hb : b ∈ es) {i : Nat} {v : V} (hi : i < b.2.length) (hv : v ≠ .non) :
    Lay (xs.set (b.1 + i) v) c (es.map fun d => if d.1 = b.1 then (d.1, d.2.set i v) else d) := by
  have hl := L.le hb
  have len : ∀ d : Nat × List V, (if d.1 = b.1 then (d.1, d.2.set i v) else d).1 = d.1 ∧ (if d.1 = b.1 then (d.1, d.2.set i v) else d).2.length = d.2.length := fun d => by
    split
    · exact ⟨rfl, List.length_set⟩
    · exact ⟨rfl, rfl⟩
  refine ⟨fun d hd => ?_, fun d hd k u hu => ?_, fun j u hj hu => ?_, ?_⟩
  · obtain ⟨e, he, rfl⟩ := List.mem_map.mp hd
    rw [(len e).1, (len e).2]
    exact L.one e he
  · obtain ⟨e, he, rfl⟩ := List.mem_map.mp hd
    by_cases z : e.1 = b.1
    · have := L.same he hb z
      subst this
      rw [if_pos rfl] at hu ⊢
      dsimp only at hu ⊢
      by_cases y : i = k
      · subst y
        rw [List.getElem?_set_self hi] at hu
        cases hu
        exact ⟨hv, by rw [List.getElem?_set_self (by omega)]⟩
      · rw [List.getElem?_set_ne y] at hu
        rw [List.getElem?_set_ne (by omega)]
        exact L.at_ e he k u hu
    · rw [if_neg z] at hu ⊢
      obtain ⟨h1, h2⟩ := L.at_ e he k u hu
      refine ⟨h1, ?_⟩
      rw [List.getElem?_set_ne, h2]
      intro q
      have hk := (List.getElem?_eq_some_iff.mp hu).1
      rcases List.mem_iff_getElem.mp hb with ⟨m, hm, em⟩
      rcases List.mem_iff_getElem.mp he with ⟨j, hj, ej⟩
      rcases Nat.lt_trichotomy m j with w | w | w
      · have := List.pairwise_iff_getElem.mp L.dis m j hm hj w
        rw [em, ej] at this
        omega
      · subst w
        rw [em] at ej
        exact z (by rw [ej])
      · have := List.pairwise_iff_getElem.mp L.dis j m hj hm w
        rw [em, ej] at this
        omega
  · by_cases y : b.1 + i = j
    · refine ⟨_, List.mem_map.mpr ⟨b, hb, rfl⟩, ?_⟩
      rw [(len b).1, (len b).2]
      omega
    · rw [List.getElem?_set_ne y] at hj
      obtain ⟨d, hd, h1⟩ := L.full j u hj hu
      refine ⟨_, List.mem_map.mpr ⟨d, hd, rfl⟩, ?_⟩
      rw [(len d).1, (len d).2]
      exact h1
  · rw [List.pairwise_map]
    refine L.dis.imp fun {x y} h => ?_
    rw [(len x).1, (len x).2, (len y).1, (len y).2]
    exact h
section
variable {P : Program} {w : World} {K : PySem.W.Frag} {mg : Str → Option Value} {base : Heap} {a : Adr}
def wBit (n b : Int) (z : Bool) : Int := if z = true then Builtin.bitOr n b else n - Builtin.bitAnd n b
def hd (k : Int) (m w : Bool) (z : Int) : Int := k + 16 * z + (if m = true then 4 else 0) + (if w = true then 8 else 0)
theorem wBit4 (n : Int) (z : Bool) : wBit n 4 z = n - n / 4 % 2 * 4 + (if z = true then 4 else 0) := by
  unfold wBit
  cases z
  · rw [if_neg Bool.false_ne_true, if_neg Bool.false_ne_true, and_bit2]; omega
  · rw [if_pos rfl, if_pos rfl, or_bit2]; omega
theorem wBit8 (n : Int) (z : Bool) : wBit n 8 z = n - n / 8 % 2 * 8 + (if z = true then 8 else 0) := by
  unfold wBit
  cases z
  · rw [if_neg Bool.false_ne_true, if_neg Bool.false_ne_true, and_bit3]; omega
  · rw [if_pos rfl, if_pos rfl, or_bit3]; omega
theorem hd_made {k z : Int} (m w : Bool) (h0 : 0 ≤ k) (h1 : k < 3) (hz : 0 ≤ z) : wBit (wBit (Builtin.bitOr k (z * 16)) 4 m) 8 w = hd k m w z := by
  rw [or_low16 h0 (by omega) hz, wBit8, wBit4]
  unfold hd
  cases m <;> cases w <;> simp only [if_true, Bool.false_eq_true, if_false] <;> omega
theorem hd_kind {k z : Int} {m w : Bool} (h0 : 0 ≤ k) (h1 : k < 3) : hd k m w z % 4 = k := by
  unfold hd
  cases m <;> cases w <;> simp only [if_true, Bool.false_eq_true, if_false] <;> omega
theorem hd_size {k z : Int} {m w : Bool} (h0 : 0 ≤ k) (h1 : k < 3) : hd k m w z / 16 = z := by
  unfold hd
  cases m <;> cases w <;> simp only [if_true, Bool.false_eq_true, if_false] <;> omega
theorem hd_mark {k z : Int} {m w : Bool} (h0 : 0 ≤ k) (h1 : k < 3) : decide (hd k m w z / 4 % 2 = 1) = m := by
  unfold hd
  cases m <;> cases w <;> simp only [if_true, Bool.false_eq_true, if_false, decide_eq_true_eq, decide_eq_false_iff_not] <;> omega
theorem hd_words {k z : Int} {m w : Bool} (h0 : 0 ≤ k) (h1 : k < 3) : decide (hd k m w z / 8 % 2 = 1) = w := by
  unfold hd
  cases m <;> cases w <;> simp only [if_true, Bool.false_eq_true, if_false, decide_eq_true_eq, decide_eq_false_iff_not] <;> omega
theorem mk_set {k z : Int} (m w y : Bool) (h0 : 0 ≤ k) (h1 : k < 3) : wBit (hd k m w z) 4 y = hd k y w z := by
  rw [wBit4]
  unfold hd
  cases m <;> cases w <;> cases y <;> simp only [if_true, Bool.false_eq_true, if_false] <;> omega
theorem ne_bit2 (n : Int) : (!decide (V.int (Builtin.bitAnd n 4) = V.int 0)) = decide (n / 4 % 2 = 1) := by
  rw [and_bit2]
  by_cases h : n / 4 % 2 = 1
  · rw [h]; rfl
  · have e : n / 4 % 2 = 0 := by omega
    rw [e]; rfl
theorem ne_bit3 (n : Int) : (!decide (V.int (Builtin.bitAnd n 8) = V.int 0)) = decide (n / 8 % 2 = 1) := by
  rw [and_bit3]
  by_cases h : n / 8 % 2 = 1
  · rw [h]; rfl
  · have e : n / 8 % 2 = 0 := by omega
    rw [e]; rfl
theorem big_lt {z : Int} (h0 : 0 ≤ z) (h : z < 10 ^ 60) : z.natAbs < 2 ^ 1000 := by
  have e : z.natAbs < 10 ^ 60 := by
    have e2 : (z.natAbs : Int) < ((10 ^ 60 : Nat) : Int) := by rw [Int.natAbs_of_nonneg h0]; exact h
    exact Int.ofNat_lt.mp e2
  exact Nat.lt_trans e (by decide +kernel)
def sp_z63 : Sp := fun vs H Q _ => ∃ n b z, vs = [.int n, .int b, .bl z] ∧ Q (.int (wBit n b z)) H
theorem ok_z63 (T : Txt K mg a) : FnOk P w K mg base CX0 1 a.a_z63 a.d_z63 ["number", "bit", "is_set"] sp_z63 := by
  refine T.f_z63.ok sc_z63 (fun vs H Q E h => ?_) (fun cdv A outer s H vs Q E hr h => ?_)
  · obtain ⟨_, _, _, rfl, _⟩ := h
    rfl
  · obtain ⟨n, b, z, rfl, q⟩ := h
    refine ⟨_, (pss_one (ps_ret (pe_ifExp (pt_val (pv 2)) (pe_op op_or (pv 0) (pv 1)) (pe_op op_sub (pv 0) (pe_op op_and (pv 0) (pv 1)))))), ?_⟩
    dsimp! []
    unfold wBit at q
    cases z with
    | true => simpa using q
    | false => simpa using q
def sp_z64 : Sp := fun vs H Q _ => ∃ n z, vs = [.int n, .bl z] ∧ Q (.int (wBit n 4 z)) H
theorem ok_z64 (T : Txt K mg a) : FnOk P w K mg base CX0 2 a.a_z64 a.d_z64 ["number", "marked"] sp_z64 := by
  refine T.f_z64.ok sc_z64 (fun vs H Q E h => ?_) (fun cdv A outer s H vs Q E hr h => ?_)
  · obtain ⟨_, _, rfl, _⟩ := h
    rfl
  · obtain ⟨n, z, rfl, q⟩ := h
    refine ⟨_, (pss_one (ps_ret (pe_call (ok_z63 T) (hr.mono (by decide)) rfl T.m_z63 T.f_z63.kp T.b_z63 .nil pass0 (pa_cons (pv 0) (pa_cons (pe_glob (v := .int 4) rfl T.c_MARK_BIT ⟨_, rfl⟩) (pa_cons (pv 1) pa_nil)))))), ?_⟩
    dsimp! []
    exact ⟨_, _, _, rfl, q⟩
def sp_z65 : Sp := fun vs H Q _ => ∃ n z, vs = [.int n, .bl z] ∧ Q (.int (wBit n 8 z)) H
theorem ok_z65 (T : Txt K mg a) : FnOk P w K mg base CX0 2 a.a_z65 a.d_z65 ["number", "words"] sp_z65 := by
  refine T.f_z65.ok sc_z65 (fun vs H Q E h => ?_) (fun cdv A outer s H vs Q E hr h => ?_)
  · obtain ⟨_, _, rfl, _⟩ := h
    rfl
  · obtain ⟨n, z, rfl, q⟩ := h
    refine ⟨_, (pss_one (ps_ret (pe_call (ok_z63 T) (hr.mono (by decide)) rfl T.m_z63 T.f_z63.kp T.b_z63 .nil pass0 (pa_cons (pv 0) (pa_cons (pe_glob (v := .int 8) rfl T.c_WORDS_BIT ⟨_, rfl⟩) (pa_cons (pv 1) pa_nil)))))), ?_⟩
    dsimp! []
    exact ⟨_, _, _, rfl, q⟩
def sp_z46 : Sp := fun vs H Q _ => ∃ k m w z, vs = [.int k, .bl m, .bl w, .int z] ∧ (0 ≤ k ∧ k < 3) ∧ 0 ≤ z ∧ z < 10 ^ 60 ∧ Q (.int (hd k m w z)) H
theorem ok_z46 (T : Txt K mg a) : FnOk P w K mg base CX0 3 a.a_z46 a.d_z46 ["kind", "marked", "words", "size"] sp_z46 := by
  refine T.f_z46.ok sc_z46 (fun vs H Q E h => ?_) (fun cdv A outer s H vs Q E hr h => ?_)
  · obtain ⟨_, _, _, _, rfl, _⟩ := h
    rfl
  · obtain ⟨k, m, w, z, rfl, ⟨h0, h1⟩, hz, hz2, q⟩ := h
    refine ⟨_, (pss_cons (ps_set (i := 4) sc_z46.nd rfl (Or.inl rfl) (pe_op op_or (pv 0) (pe_op op_shlL (pv 3) (pe_glob (v := .int 4) rfl T.c_SIZE_FROM ⟨_, rfl⟩)))) (pss_one (ps_ret (pe_call (ok_z65 T) (hr.mono (by decide)) rfl T.m_z65 T.f_z65.kp T.b_z65 .nil pass0 (pa_cons (pe_call (ok_z64 T) (hr.mono (by decide)) rfl T.m_z64 T.f_z64.kp T.b_z64 .nil pass0 (pa_cons (pv 4) (pa_cons (pv 1) pa_nil))) (pa_cons (pv 2) pa_nil)))))), ?_⟩
    dsimp! []
    have e16 : (2 : Int) ^ (4 : Int).toNat = 16 := by decide
    refine ⟨⟨by decide, by decide, big_lt hz hz2⟩, ?_⟩
    rw [e16]
    refine ⟨_, _, rfl, _, _, rfl, ?_⟩
    rw [hd_made m w h0 h1 hz]
    exact q
def sp_z49 : Sp := fun vs H Q _ => ∃ n, vs = [.int n] ∧ Q (.int (n % 4)) H
theorem ok_z49 (T : Txt K mg a) : FnOk P w K mg base CX0 1 a.a_z49 a.d_z49 ["number"] sp_z49 := by
  refine T.f_z49.ok sc_z49 (fun vs H Q E h => ?_) (fun cdv A outer s H vs Q E hr h => ?_)
  · obtain ⟨_, rfl, _⟩ := h
    rfl
  · obtain ⟨n, rfl, q⟩ := h
    refine ⟨_, (pss_one (ps_ret (pe_op op_and (pv 0) (pe_glob (v := .int 3) rfl T.c_KIND_BITS ⟨_, rfl⟩)))), ?_⟩
    dsimp! []
    rw [and_two]
    exact q
def sp_z60 : Sp := fun vs H Q _ => ∃ n, vs = [.int n] ∧ Q (.int (n / 16)) H
theorem ok_z60 (T : Txt K mg a) : FnOk P w K mg base CX0 1 a.a_z60 a.d_z60 ["number"] sp_z60 := by
  refine T.f_z60.ok sc_z60 (fun vs H Q E h => ?_) (fun cdv A outer s H vs Q E hr h => ?_)
  · obtain ⟨_, rfl, _⟩ := h
    rfl
  · obtain ⟨n, rfl, q⟩ := h
    refine ⟨_, (pss_one (ps_ret (pe_op op_shr (pv 0) (pe_glob (v := .int 4) rfl T.c_SIZE_FROM ⟨_, rfl⟩)))), ?_⟩
    dsimp! []
    have e16 : (2 : Int) ^ (4 : Int).toNat = 16 := by decide
    rw [e16]
    exact ⟨by decide, q⟩
def sp_z47 : Sp := fun vs H Q _ => ∃ n, vs = [.int n] ∧ Q (.bl (decide (n / 4 % 2 = 1))) H
theorem ok_z47 (T : Txt K mg a) : FnOk P w K mg base CX0 1 a.a_z47 a.d_z47 ["number"] sp_z47 := by
  refine T.f_z47.ok sc_z47 (fun vs H Q E h => ?_) (fun cdv A outer s H vs Q E hr h => ?_)
  · obtain ⟨_, rfl, _⟩ := h
    rfl
  · obtain ⟨n, rfl, q⟩ := h
    refine ⟨_, (pss_one (ps_ret (pe_cmpR op_ne (pe_op op_and (pv 0) (pe_glob (v := .int 4) rfl T.c_MARK_BIT ⟨_, rfl⟩)) pe_int (nomark _)))), ?_⟩
    rw [← ne_bit2] at q
    exact ⟨_, rfl, _, _, rfl, rfl, rfl, q⟩
def sp_z45 : Sp := fun vs H Q _ => ∃ n, vs = [.int n] ∧ Q (.bl (decide (n / 8 % 2 = 1))) H
theorem ok_z45 (T : Txt K mg a) : FnOk P w K mg base CX0 1 a.a_z45 a.d_z45 ["number"] sp_z45 := by
  refine T.f_z45.ok sc_z45 (fun vs H Q E h => ?_) (fun cdv A outer s H vs Q E hr h => ?_)
  · obtain ⟨_, rfl, _⟩ := h
    rfl
  · obtain ⟨n, rfl, q⟩ := h
    refine ⟨_, (pss_one (ps_ret (pe_cmpR op_ne (pe_op op_and (pv 0) (pe_glob (v := .int 8) rfl T.c_WORDS_BIT ⟨_, rfl⟩)) pe_int (nomark _)))), ?_⟩
    rw [← ne_bit3] at q
    exact ⟨_, rfl, _, _, rfl, rfl, rfl, q⟩
def flds (m c : Int) (d : Addr) : List (Str × V) := putF "inside" (.ref d) (putF "cells" (.int c) (putF "many" (.int m) []))
theorem n_mc : ¬ (("many" : Str) = "cells") := by decide +kernel
theorem n_mi : ¬ (("many" : Str) = "inside") := by decide +kernel
theorem n_ci : ¬ (("cells" : Str) = "inside") := by decide +kernel
theorem flds_many (m c : Int) (d : Addr) : (flds m c d).lookup ("many" : Str) = some (.int m) := by
  unfold flds
  rw [lookup_putF, if_neg n_mi, lookup_putF, if_neg n_mc, lookup_putF, if_pos rfl]
theorem flds_cells (m c : Int) (d : Addr) : (flds m c d).lookup ("cells" : Str) = some (.int c) := by
  unfold flds
  rw [lookup_putF, if_neg n_ci, lookup_putF, if_pos rfl]
theorem flds_inside (m c : Int) (d : Addr) : (flds m c d).lookup ("inside" : Str) = some (.ref d) := by
  unfold flds
  rw [lookup_putF, if_pos rfl]
theorem flds_no (m c : Int) (d : Addr) {n : Str} (h1 : ¬ n = "inside") (h2 : ¬ n = "cells") (h3 : ¬ n = "many") : (flds m c d).lookup n = none := by
  unfold flds
  rw [lookup_putF, if_neg h1, lookup_putF, if_neg h2, lookup_putF, if_neg h3]
  all_goals rfl
structure RoomsAt (C : Addr) (H : Hp) (p d : Addr) (m c : Nat) (xs : List V) : Prop where
  ob : ∃ dx, H p = some (.ins C dx (flds m c d))
  li : H d = some (.lst xs)
  len : xs.length = m * c
  m0 : 0 < m
  c0 : 0 < c
  sm : m * c ≤ 1000
theorem RoomsAt.ne {C : Addr} {H : Hp} {p d : Addr} {m c : Nat} {xs : List V} (R : RoomsAt C H p d m c xs) : p ≠ d := by
  obtain ⟨dx, h⟩ := R.ob
  exact ne_of h R.li (by intro z; cases z)
theorem RoomsAt.keep {C : Addr} {H H' : Hp} {p d : Addr} {m c : Nat} {xs ys : List V} (R : RoomsAt C H p d m c xs) (k : ∀ b o, b ≠ d → H b = some o → H' b = some o) (h : H' d = some (.lst ys)) (hl : ys.length = xs.length) : RoomsAt C H' p d m c ys where
  ob := by
    obtain ⟨dx, e⟩ := R.ob
    exact ⟨dx, k p _ R.ne e⟩
  li := h
  len := hl.trans R.len
  m0 := R.m0
  c0 := R.c0
  sm := R.sm
theorem RoomsAt.same {C : Addr} {H H' : Hp} {p d : Addr} {m c : Nat} {xs : List V} (R : RoomsAt C H p d m c xs) (k : Same H H') : RoomsAt C H' p d m c xs := R.keep (fun b o _ e => k b o e) (k d _ R.li) rfl
def optV : Option Nat → V
  | none => .non
  | some q => .int q
theorem flds_m {m c : Int} {d : Addr} {n : Str} (h1 : ¬ n = "inside" := by decide +kernel) (h2 : ¬ n = "cells" := by decide +kernel) (h3 : ¬ n = "many" := by decide +kernel) : (flds m c d).lookup n = none := flds_no m c d h1 h2 h3
theorem fl_gap (m c : Int) (d : Addr) : (flds m c d).lookup ("gap" : Str) = none := flds_m
theorem fl_gap_in (m c : Int) (d : Addr) : (flds m c d).lookup ("gap_in" : Str) = none := flds_m
theorem fl_fill_in (m c : Int) (d : Addr) : (flds m c d).lookup ("fill_in" : Str) = none := flds_m
theorem fl_read (m c : Int) (d : Addr) : (flds m c d).lookup ("read" : Str) = none := flds_m
theorem fl_write (m c : Int) (d : Addr) : (flds m c d).lookup ("write" : Str) = none := flds_m
theorem fl_room_of (m c : Int) (d : Addr) : (flds m c d).lookup ("room_of" : Str) = none := flds_m
def sp_z32 (C : Addr) : Sp := fun vs H Q _ => ∃ p d m c xs r L, vs = [.ref p, .int (r : Nat), .int (L : Nat)] ∧ RoomsAt C H p d m c xs ∧ r < m ∧ 0 < L ∧
  ((∀ p, r * c ≤ p → p + L ≤ r * c + c → ¬ AllFree xs p L) → Q .non H) ∧
  (∀ q : Nat, r * c ≤ q → q + L ≤ r * c + c → AllFree xs q L → (∀ p, r * c ≤ p → p < q → ¬ AllFree xs p L) → Q (.int q) H)
theorem ok_z32 (T : Txt K mg a) : FnOk P w K mg base CX0 1 a.a_z32 a.d_z32 ["self", "room", "length"] (sp_z32 a.c_Rooms) := by
  refine T.f_z32.ok sc_z32 (fun vs H Q E h => ?_) (fun cdv A outer s H vs Q E hr h => ?_)
  · obtain ⟨_, _, _, _, _, _, _, rfl, _⟩ := h
    rfl
  · obtain ⟨p, d, m, c, xs, r, L, rfl, R, hrm, hL, k1, k2⟩ := h
    obtain ⟨dx, h1⟩ := R.ob
    have hle : (r + 1) * c ≤ m * c := Nat.mul_le_mul_right c hrm
    rw [Nat.succ_mul] at hle
    have hsm := R.sm
    have hlen := R.len
    have hm1000 : m ≤ 1000 := Nat.le_trans (Nat.le_mul_of_pos_right m R.c0) hsm
    have hc1000 : c ≤ 1000 := Nat.le_trans (Nat.le_mul_of_pos_left c R.m0) hsm
    have erc : (r : Int) * (c : Int) = ((r * c : Nat) : Int) := by simp
    refine ⟨_, (pss_cons (ps_set (i := 3) sc_z32.nd rfl (Or.inl rfl) (pe_op op_mul (pv 1) (pe_fld (pv 0) rfl))) (pss_cons (ps_set (i := 4) sc_z32.nd rfl (Or.inl rfl) pe_int) (pss_cons (ps_forW PassesOwn.never rfl (pi_range2 rfl T.n_range (pa_cons (pv 3) (pa_cons (pe_op op_add (pv 3) (pe_fld (pv 0) rfl)) pa_nil))) (pg_name (i := 5) sc_z32.nd rfl (Or.inl rfl)) pss_bodyT) pss_bodyT))), ?_⟩
    dsimp! [h1, HO.ins.injEq, T.cl_Rooms, T.na_Rooms_cells, flds_cells, erc]
    have e2 : ((((r * c : Nat) : Int) + (c : Int)) - ((r * c : Nat) : Int)).toNat = c := by omega
    rw [e2]
    refine ⟨.inl ⟨by omega, by omega⟩, by omega, by omega, by omega, by omega, fw_range (fun i σ H2 => H2 = H ∧ ∃ (f : Nat) (o5 : Option V), σ = [some (.ref p), some (.int r), some (.int L), some (.int ((r * c : Nat) : Int)), some (.int f), o5] ∧ RunAt xs (r * c) i f L)
      ⟨rfl, 0, none, rfl, .zero hL⟩ ?_ ?_⟩
    · rintro i σ H2 hi ⟨rfl, f, o5, rfl, RA⟩
      have hx : r * c + i < xs.length := by omega
      have ht : atI xs (((r * c : Nat) : Int) + (i : Int)) = some xs[r * c + i] := by
        have := atI_nat (xs := xs) (List.getElem?_eq_getElem hx)
        simpa using this
      refine bodyT.of (pss_cons (ps_set (i := 4) sc_z32.nd rfl (Or.inl rfl) (pe_ifExp (pt_cmpR op_isN (pe_ix ix_list (pe_fld (pv 0) rfl) (pv 5) (fun _ _ => rfl)) pe_non (nomark _)) (pe_op op_add (pv 4) pe_int) pe_int)) (pss_one (ps_if (pt_cmpR op_eq (pv 4) (pv 2) (nomark _)) (pss_one (ps_ret (pe_op op_add (pe_op op_sub (pv 5) (pv 2)) pe_int))) pss_nil))) ?_
      dsimp! [h1, HO.ins.injEq, T.cl_Rooms, T.na_Rooms_inside, flds_inside]
      refine ⟨d, xs, _, _, rfl, rfl, SqL.of R.li, ht, ?_⟩
      have hgx : xs[r * c + i]? = some xs[r * c + i] := List.getElem?_eq_getElem hx
      generalize xs[r * c + i] = v at hgx
      by_cases hv : v = .non
      · subst hv
        dsimp! []
        have hle2 := RA.le
        refine ite2 (fun h => ?_) fun h => ?_
        · have hfl : f + 1 = L := by
            have := of_decide_eq_true h
            omega
          obtain ⟨b1, b2, b3⟩ := RA.found hgx hfl
          have e : ((r * c : Nat) : Int) + (i : Int) - (L : Int) + 1 = ((r * c + i + 1 - L : Nat) : Int) := by omega
          rw [e]
          exact k2 _ b1 (by omega) b2 b3
        · exact ⟨f + 1, by simp, RA.free_next hgx fun z => h (decide_eq_true (by omega))⟩
      · dsimp! [hv]
        refine ite2 (fun h => ?_) fun h => ?_
        · have := of_decide_eq_true h
          omega
        · exact ⟨0, rfl, RA.full_next hgx hv⟩
    · rintro σ H2 ⟨rfl, f, o5, rfl, RA⟩
      refine bodyT.of (pss_one (ps_ret pe_non)) ?_
      dsimp! []
      exact k1 RA.no
def sp_z31 (C : Addr) : Sp := fun vs H Q _ => ∃ p d m c xs L, vs = [.ref p, .int (L : Nat)] ∧ RoomsAt C H p d m c xs ∧ 0 < L ∧ ∀ r, IsGap xs c L r → Q (optV r) H
theorem ok_z31 (T : Txt K mg a) : FnOk P w K mg base CX0 2 a.a_z31 a.d_z31 ["self", "length"] (sp_z31 a.c_Rooms) := by
  refine T.f_z31.ok sc_z31 (fun vs H Q E h => ?_) (fun cdv A outer s H vs Q E hr h => ?_)
  · obtain ⟨_, _, _, _, _, _, rfl, _⟩ := h
    rfl
  · obtain ⟨p, d, m, c, xs, L, rfl, R, hL, k⟩ := h
    obtain ⟨dx, h1⟩ := R.ob
    have hsm := R.sm
    have hm1000 : m ≤ 1000 := Nat.le_trans (Nat.le_mul_of_pos_right m R.c0) hsm
    refine ⟨_, (pss_cons (ps_forW PassesOwn.never rfl (pi_range1 rfl T.n_range (pa_cons (pe_fld (pv 0) rfl) pa_nil)) (pg_name (i := 2) sc_z31.nd rfl (Or.inl rfl)) pss_bodyT) pss_bodyT), ?_⟩
    dsimp! [h1, HO.ins.injEq, T.cl_Rooms, T.na_Rooms_many, flds_many]
    refine ⟨by omega, by omega, fw_range (fun i σ H2 => H2 = H ∧ ∃ (o2 o3 : Option V), σ = [some (.ref p), some (.int L), o2, o3] ∧ ∀ r, r < i → ∀ q, r * c ≤ q → q + L ≤ r * c + c → ¬ AllFree xs q L)
      ⟨rfl, none, none, rfl, fun r h => absurd h (Nat.not_lt_zero _)⟩ ?_ ?_⟩
    · rintro i σ H2 hi ⟨rfl, o2, o3, rfl, inv⟩
      have him : i < m := by omega
      refine bodyT.of (pss_cons (ps_set (i := 3) sc_z31.nd rfl (Or.inl rfl) (pe_meth (pv 0) T.cl_Rooms T.me_z32 (ok_z32 T) (hr.mono (by decide)) T.b_z32 .nil pass0 (pa_cons (pv 2) (pa_cons (pv 1) pa_nil)))) (pss_one (ps_if (pt_cmpR op_notN (pv 3) pe_non (nomark _)) (pss_one (ps_ret (pv 3))) pss_nil))) ?_
      dsimp! [h1, HO.ins.injEq, fl_gap_in]
      refine ⟨p, d, m, c, xs, i, L, by simp, R, him, hL, fun hn => ?_, fun q q1 q2 q3 q4 => ?_⟩
      · dsimp! []
        refine fun r hr2 => ?_
        rcases Nat.lt_succ_iff_lt_or_eq.mp hr2 with h | h
        · exact inv r h
        · subst h
          exact hn
      · dsimp! []
        exact k (some q) (gap_found R.c0 hL R.len him inv q1 q2 q3 q4)
    · rintro σ H2 ⟨rfl, o2, o3, rfl, inv⟩
      refine bodyT.of (pss_one (ps_ret pe_non)) ?_
      dsimp! []
      exact k none (gap_none R.c0 hL R.len (fun r hr2 => inv r (by omega)))
def sp_z34 (C : Addr) : Sp := fun vs H Q _ => ∃ p d m c xs i v, vs = [.ref p, .int (i : Nat)] ∧ RoomsAt C H p d m c xs ∧ xs[i]? = some v ∧ Q v H
theorem ok_z34 (T : Txt K mg a) : FnOk P w K mg base CX0 1 a.a_z34 a.d_z34 ["self", "place"] (sp_z34 a.c_Rooms) := by
  refine T.f_z34.ok sc_z34 (fun vs H Q E h => ?_) (fun cdv A outer s H vs Q E hr h => ?_)
  · obtain ⟨_, _, _, _, _, _, _, rfl, _⟩ := h
    rfl
  · obtain ⟨p, d, m, c, xs, i, v, rfl, R, hv, q⟩ := h
    obtain ⟨dx, h1⟩ := R.ob
    refine ⟨_, (pss_one (ps_ret (pe_ix ix_list (pe_fld (pv 0) rfl) (pv 1) (fun _ _ => rfl)))), ?_⟩
    dsimp! [h1, HO.ins.injEq, T.cl_Rooms, T.na_Rooms_inside, flds_inside]
    exact ⟨d, xs, _, v, rfl, rfl, SqL.of R.li, atI_nat hv, q⟩
theorem ixN_nat {n i : Nat} (h : i < n) : ixN n (i : Int) = some i := by
  unfold ixN
  rw [if_pos (by omega), if_pos (by omega)]
  simp
def Keep (d : Addr) (H H' : Hp) : Prop := ∀ b o, b ≠ d → H b = some o → H' b = some o
theorem Keep.refl (d : Addr) (H : Hp) : Keep d H H := fun _ _ _ h => h
theorem Keep.put {d l : Addr} {H H' : Hp} {o : HO} (k : Keep d H H') (h : H' l = none) : Keep d H (upd H' l o) := fun b u hb e => by
  have := k b u hb e
  rw [upd_ne (ne_of_none this h)]
  exact this
theorem Keep.set {d : Addr} {H H' : Hp} {o : HO} (k : Keep d H H') : Keep d H (upd H' d o) := fun b u hb e => by
  rw [upd_ne hb]
  exact k b u hb e
def sp_z30 (K : PySem.W.Frag) (C : Addr) : Sp := fun vs H Q _ => ∃ p d m c xs i l ys, vs = [.ref p, .int (i : Nat), .ref l] ∧ RoomsAt C H p d m c xs ∧ H l = some (.lst ys) ∧ l ≠ d ∧ i + ys.length ≤ xs.length ∧
  ∀ H', Keep d H H' → H' d = some (.lst (setAll xs i ys)) → Q .non H'
theorem ok_z30 (T : Txt K mg a) : FnOk P w K mg base CX0 1 a.a_z30 a.d_z30 ["self", "place", "some"] (sp_z30 K a.c_Rooms) := by
  refine T.f_z30.ok sc_z30 (fun vs H Q E h => ?_) (fun cdv A outer s H vs Q E hr h => ?_)
  · obtain ⟨_, _, _, _, _, _, _, _, rfl, _⟩ := h
    rfl
  · obtain ⟨p, d, m, c, xs, i, l, ys, rfl, R, hl, hld, hin, k⟩ := h
    have hsm := R.sm
    have hlen := R.len
    refine ⟨_, (pss_one (ps_forW PassesOwn.never rfl (pi_enum rfl T.n_enumerate (pv 2) (pv 1)) (pg_tup (n := 2) rfl (pgs_cons (pg_name (i := 3) sc_z30.nd rfl (Or.inl rfl)) (pgs_cons (pg_name (i := 4) sc_z30.nd rfl (Or.inl rfl)) pgs_nil))) pss_bodyT)), ?_⟩
    dsimp! []
    refine ⟨i, rfl, ⟨ys, SqL.of hl⟩, by omega, fw_enum ys (fun j σ H2 => ∃ (o3 o4 : Option V), σ = [some (.ref p), some (.int i), some (.ref l), o3, o4] ∧ Keep d H H2 ∧ H2 d = some (.lst (setAll xs i (ys.take j))))
      ⟨none, none, rfl, .refl d H, R.li⟩ ?_ ?_ ?_⟩
    · rintro j σ H2 hj ⟨o3, o4, rfl, kp, hd⟩
      exact SqL.of (kp l _ hld hl)
    · rintro j x t σ H2 hx ⟨o3, o4, rfl, kp, hd⟩ ht
      have hjl := (List.getElem?_eq_some_iff.mp hx).1
      have nd : d ≠ t := ne_of_none hd ht
      have R2 := R.keep (kp.put (o := .tup [.int ((i + j : Nat) : Int), x]) ht) (by rw [upd_ne nd]; exact hd) (setAll_length _ _ _)
      obtain ⟨dx, h1⟩ := R2.ob
      refine ⟨t, _, rfl, SqT.of upd_same, rfl, ?_⟩
      dsimp! []
      refine bodyT.of (pss_one (ps_asg (pv 4) (pg_sub (pe_fld (pv 0) rfl) (pv 3) set_list))) ?_
      dsimp! [h1, HO.ins.injEq, T.cl_Rooms, T.na_Rooms_inside, flds_inside]
      have e3 : ixN (setAll xs i (ys.take j)).length ((i + j : Nat) : Int) = some (i + j) := ixN_nat (by rw [setAll_length]; omega)
      refine ⟨d, _, _, _, rfl, rfl, R2.li, e3, (kp.put ht).set, ?_⟩
      rw [upd_same, setAll_take hx]
    · rintro σ H2 ⟨o3, o4, rfl, kp, hd⟩
      dsimp! []
      refine k H2 kp ?_
      rw [hd, List.take_of_length_le (Nat.le_refl _)]
def sp_z36 (C : Addr) : Sp := fun vs H Q _ => ∃ p d m c xs i v, vs = [.ref p, .int (i : Nat), v] ∧ RoomsAt C H p d m c xs ∧ i < xs.length ∧ Q .non (upd H d (.lst (xs.set i v)))
theorem ok_z36 (T : Txt K mg a) : FnOk P w K mg base CX0 1 a.a_z36 a.d_z36 ["self", "place", "value"] (sp_z36 a.c_Rooms) := by
  refine T.f_z36.ok sc_z36 (fun vs H Q E h => ?_) (fun cdv A outer s H vs Q E hr h => ?_)
  · obtain ⟨_, _, _, _, _, _, _, rfl, _⟩ := h
    rfl
  · obtain ⟨p, d, m, c, xs, i, v, rfl, R, hv, q⟩ := h
    obtain ⟨dx, h1⟩ := R.ob
    refine ⟨_, (pss_one (ps_asg (pv 2) (pg_sub (pe_fld (pv 0) rfl) (pv 1) set_list))), ?_⟩
    dsimp! [h1, HO.ins.injEq, T.cl_Rooms, T.na_Rooms_inside, flds_inside]
    exact ⟨d, xs, _, i, rfl, rfl, R.li, ixN_nat hv, q⟩
theorem len1 (f : Str) (v : V) : (putF f v []).length < 1000 := Nat.lt_of_le_of_lt (length_putF f v []) (by decide)
theorem len2 (f g : Str) (v u : V) : (putF g u (putF f v [])).length < 1000 := Nat.lt_of_le_of_lt (length_putF g u _) (Nat.lt_of_le_of_lt (Nat.succ_le_succ (length_putF f v [])) (by decide))
theorem len0 : ([] : List (Str × V)).length < 1000 := by decide
theorem rep_non (n : Nat) : (List.replicate n [V.non]).flatten = List.replicate n V.non := by
  induction n with
  | zero => rfl
  | succ n ih => rw [List.replicate_succ, List.replicate_succ, List.flatten_cons, ih]; rfl
def sp_z33 (C : Addr) : Sp := fun vs H Q _ => ∃ p dx m c, vs = [.ref p, .int (m : Nat), .int (c : Nat)] ∧ H p = some (.ins C dx []) ∧ 0 < m ∧ 0 < c ∧ m * c ≤ 1000 ∧
  ∀ H' d, RoomsAt C H' p d m c (List.replicate (m * c) .non) → (∀ b o, b ≠ p → H b = some o → H' b = some o) → H d = none → Q .non H'
theorem ok_z33 (T : Txt K mg a) : FnOk P w K mg base CX0 1 a.a_z33 a.d_z33 ["self", "many", "cells"] (sp_z33 a.c_Rooms) := by
  refine T.f_z33.ok sc_z33 (fun vs H Q E h => ?_) (fun cdv A outer s H vs Q E hr h => ?_)
  · obtain ⟨_, _, _, _, rfl, _⟩ := h
    rfl
  · obtain ⟨p, dx, m, c, rfl, hp, hm, hc, hmc, k⟩ := h
    refine ⟨_, (pss_cons (ps_fld (pv 0) (pv 1) rfl) (pss_cons (ps_fld (pv 0) (pv 2) rfl) (pss_one (ps_fld (pv 0) (pe_op op_rep (pe_lst (pa_cons pe_non pa_nil)) (pe_op op_mul (pv 1) (pv 2))) rfl)))), ?_⟩
    have hm1000 : m ≤ 1000 := Nat.le_trans (Nat.le_mul_of_pos_right m hc) hmc
    have emc : (m : Int) * (c : Int) = ((m * c : Nat) : Int) := by simp
    dsimp! [hp, upd_same, HO.ins.injEq, T.cl_Rooms, T.na_Rooms_many, T.na_Rooms_cells, T.na_Rooms_inside, len0, len1, len2, emc, upd_upd]
    refine ⟨by decide, by decide, fun l hl => ⟨.inl ⟨by omega, by omega⟩, l, _, [.non], rfl, rfl, upd_same, by omega, by omega, by rw [Int.toNat_natCast, List.length_singleton, Nat.one_mul]; exact Nat.le_of_lt (small1000 hmc), fun d hd => ?_⟩⟩
    have npl : p ≠ l := ne_of_none upd_same hl
    have npd : p ≠ d := ne_of_none (by rw [upd_ne npl]; exact upd_same) hd
    have nld : l ≠ d := ne_of_none upd_same hd
    rw [Int.toNat_natCast, rep_non]
    refine ⟨_, _, _, by rw [upd_ne npd, upd_ne npl, upd_same], T.cl_Rooms, T.na_Rooms_inside, len2 _ _ _ _, k _ d ⟨⟨dx, upd_same⟩, by rw [upd_ne npd.symm, upd_same], by simp, hm, hc, hmc⟩ (fun b o hb e => ?_) ?_⟩
    · have hbl : b ≠ l := fun z => by
        subst z
        rw [upd_ne hb] at hl
        rw [hl] at e
        cases e
      have hbd : b ≠ d := fun z => by
        subst z
        rw [upd_ne hbl, upd_ne hb] at hd
        rw [hd] at e
        cases e
      rw [upd_ne hb, upd_ne hbd, upd_ne hbl, upd_ne hb]
      exact e
    · rw [upd_ne nld.symm, upd_ne npd.symm] at hd
      exact hd
def Kp (S : Addr → Prop) (H H' : Hp) : Prop := ∀ b o, ¬ S b → H b = some o → H' b = some o
theorem Kp.refl (S : Addr → Prop) (H : Hp) : Kp S H H := fun _ _ _ h => h
theorem Kp.trans {S : Addr → Prop} {H H1 H2 : Hp} (k : Kp S H H1) (k2 : Kp S H1 H2) : Kp S H H2 := fun b o n h => k2 b o n (k b o n h)
theorem Kp.mono {S S' : Addr → Prop} {H H' : Hp} (k : Kp S H H') (i : ∀ b, S b → S' b) : Kp S' H H' := fun b o n h => k b o (fun z => n (i b z)) h
theorem Same.kp {S : Addr → Prop} {H H' : Hp} (k : Same H H') : Kp S H H' := fun b o _ h => k b o h
theorem Kp.set {S : Addr → Prop} {H H' : Hp} {l : Addr} {o : HO} (k : Kp S H H') (h : S l) : Kp S H (upd H' l o) := fun b u n e => by
  rw [upd_ne (fun z => n (by rw [z]; exact h))]
  exact k b u n e
theorem Keep.kp {S : Addr → Prop} {d : Addr} {H H' : Hp} (k : Keep d H H') (h : S d) : Kp S H H' := fun b o n e => k b o (fun z => n (by rw [z]; exact h)) e
def Mu (H : Hp) (b : Addr) : Prop := (∃ xs, H b = some (.lst xs)) ∨ ∃ kvs, H b = some (.dK kvs)
theorem Mu.ntup {H : Hp} {b : Addr} (m : Mu H b) {xs : List V} (h : Rd H b (.tup xs)) : False := by
  rcases m with ⟨ys, m⟩ | ⟨ys, m⟩ <;> rcases h with h | ⟨o, h⟩ <;> (rw [m] at h; cases h)
theorem Kp.seqT {K : PySem.W.Frag} {S : Addr → Prop} {H H' : Hp} (k : Kp S H H') (mu : ∀ b, S b → Mu H b) {a : Addr} {xs : List V} (h : SqT K H a xs) : SqT K H' a xs := by
  rcases h with h | h
  · have n : ¬ S a := fun z => (mu a z).ntup h
    rcases h with h | ⟨o, h⟩
    · exact .inl (.inl (k _ _ n h))
    · exact .inl (.inr ⟨o, k _ _ n h⟩)
  · exact .inr h
theorem SqL.ins {K : PySem.W.Frag} {H : Hp} {l p C dx : Addr} {xs : List V} {fs : List (Str × V)} {o : HO} (h : SqL K H l xs) (hp : H p = some (.ins C dx fs)) : SqL K (upd H p o) l xs := by
  rcases h with (h | ⟨u, h⟩) | h
  · exact .inl (.inl (by rw [upd_ne (ne_of h hp (by intro z; cases z))]; exact h))
  · exact .inl (.inr ⟨u, by rw [upd_ne (ne_of h hp (by intro z; cases z))]; exact h⟩)
  · exact .inr h
inductive Vl where
  | no | num (n : Int) | th (n : Int)
def Vl.items : Vl → List V
  | .no => [.str "nothing"]
  | .num n => [.str "number", .int n]
  | .th n => [.str "thing", .int n]
def Vl.word : Vl → Str
  | .no => "nothing"
  | .num _ => "number"
  | .th _ => "thing"
def Vl.isTh : Vl → Bool
  | .th _ => true
  | _ => false
def Vl.nm : Vl → Option V
  | .th n => some (.int n)
  | _ => none
theorem Vl.hd (v : Vl) : atI v.items 0 = some (.str v.word) := by cases v <;> rfl
theorem Vl.is : ∀ v : Vl, decide (v.word = ("thing" : Str)) = v.isTh
  | .no => (by decide +kernel : decide (("nothing" : Str) = "thing") = false)
  | .num _ => (by decide +kernel : decide (("number" : Str) = "thing") = false)
  | .th _ => (by decide +kernel : decide (("thing" : Str) = "thing") = true)
theorem Vl.isnm (v : Vl) : v.nm.isSome = v.isTh := by cases v <;> rfl
def IsVl (K : PySem.W.Frag) (H : Hp) (x : V) (v : Vl) : Prop := ∃ t, x = .ref t ∧ SqT K H t v.items
theorem IsVl.same {K : PySem.W.Frag} {H H' : Hp} {x : V} {v : Vl} (h : IsVl K H x v) (k : Same H H') : IsVl K H' x v := by
  obtain ⟨t, e, h⟩ := h
  exact ⟨t, e, k.seqT h⟩
theorem IsVl.kp {K : PySem.W.Frag} {S : Addr → Prop} {H H' : Hp} {x : V} {v : Vl} (h : IsVl K H x v) (k : Kp S H H') (mu : ∀ b, S b → Mu H b) : IsVl K H' x v := by
  obtain ⟨t, e, h⟩ := h
  exact ⟨t, e, k.seqT mu h⟩
def sp_z48 (K : PySem.W.Frag) : Sp := fun vs H Q _ => ∃ x v, vs = [x] ∧ IsVl K H x v ∧ Q (.bl v.isTh) H
theorem ok_z48 (T : Txt K mg a) : FnOk P w K mg base CX0 1 a.a_z48 a.d_z48 ["value"] (sp_z48 K) := by
  refine T.f_z48.ok sc_z48 (fun vs H Q E h => ?_) (fun cdv A outer s H vs Q E hr h => ?_)
  · obtain ⟨_, _, rfl, _⟩ := h
    rfl
  · obtain ⟨x, v, rfl, ⟨t, rfl, hv⟩, q⟩ := h
    refine ⟨_, (pss_one (ps_ret (pe_cmpR op_eq (pe_ix ix_tup (pv 0) pe_int (fun _ _ => rfl)) pe_str (nomark _)))), ?_⟩
    dsimp! []
    refine ⟨t, _, _, _, rfl, rfl, hv, v.hd, ?_⟩
    dsimp! []
    rw [v.is]
    exact q
def sp_z57 (K : PySem.W.Frag) : Sp := fun vs H Q _ => ∃ (l : Addr) (xs : List V) (vl : List Vl), vs = [.ref l] ∧ SqL K H l xs ∧ xs.length ≤ 1000 ∧ vl.length = xs.length ∧ (∀ (i : Nat) x v, xs[i]? = some x → vl[i]? = some v → IsVl K H x v) ∧
  ∀ r, H r = none → Q (.ref r) (upd H r (.lst (vl.filterMap Vl.nm)))
theorem ok_z57 (T : Txt K mg a) : FnOk P w K mg base CX0 3 a.a_z57 a.d_z57 ["some"] (sp_z57 K) := by
  refine T.f_z57.ok sc_z57 (fun vs H Q E h => ?_) (fun cdv A outer s H vs Q E hr h => ?_)
  · obtain ⟨_, _, _, rfl, _⟩ := h
    rfl
  · obtain ⟨l, xs, vl, rfl, hl, hz, hlen, hv, q⟩ := h
    refine ⟨_, (pss_one (ps_ret (pe_lc rfl (lcok (x := "value") (ns := []) (fr := []) rfl (by decide +kernel) rfl (by decide +kernel) rfl (List.forall_mem_nil _) rfl rfl (List.forall_mem_nil _) (by decide +kernel)) (pi_list (pv 0)) (fun _ _ _ _ => (pe_ix (ix_tupC (K := K) rfl) (pv 0) pe_int (fun _ _ => rfl))) (fun _ _ _ _ => (.one (pt_val (pe_call (ok_z48 T) (hr.mono (by decide)) rfl T.m_z48 T.f_z48.kp T.b_z48 .nil pass0 (pa_cons (pv 0) pa_nil)))))))), ?_⟩
    dsimp! []
    refine ⟨⟨_, hl⟩, fun D hD => lc_listG xs vl Vl.nm hz hlen (fun ys => (Same.put hD).seq hl) ?_ ?_ (q D hD)⟩
    · intro i x v ys R hx hb r
      rw [v.isnm] at r
      have := (hv i x v hx hb).same (Same.put (o := .lst ys) hD)
      dsimp! [lcSlots]
      exact ⟨_, v, rfl, this, _, rfl, r⟩
    · intro i x v y ys R hx hb hy r
      obtain ⟨t, rfl, ht⟩ := (hv i x v hx hb).same (Same.put (o := .lst ys) hD)
      cases v with
      | no => cases hy
      | num n => cases hy
      | th n =>
        cases hy
        dsimp! [lcSlots]
        exact ⟨t, _, _, _, rfl, rfl, ht, rfl, r⟩
inductive Tg where
  | plain (fs : List Vl) (w : Option Int) | weak (f : Vl) | pair (k v : Vl)
def Tg.fs : Tg → List Vl
  | .plain fs _ => fs
  | .weak f => [f]
  | .pair k v => [k, v]
def Tg.sort : Tg → Str
  | .plain _ _ => "plain"
  | .weak _ => "weak"
  | .pair _ _ => "pair"
def Tg.words : Tg → Option Int
  | .plain _ w => w
  | _ => none
def wV : Option Int → V
  | none => .non
  | some n => .int n
def VlL (K : PySem.W.Frag) (H : Hp) (xs : List V) (vl : List Vl) : Prop := vl.length = xs.length ∧ ∀ (i : Nat) x v, xs[i]? = some x → vl[i]? = some v → IsVl K H x v
theorem VlL.same {K : PySem.W.Frag} {H H' : Hp} {xs : List V} {vl : List Vl} (h : VlL K H xs vl) (k : Same H H') : VlL K H' xs vl := ⟨h.1, fun i x v a b => (h.2 i x v a b).same k⟩
theorem VlL.kp {K : PySem.W.Frag} {S : Addr → Prop} {H H' : Hp} {xs : List V} {vl : List Vl} (h : VlL K H xs vl) (k : Kp S H H') (mu : ∀ b, S b → Mu H b) : VlL K H' xs vl := ⟨h.1, fun i x v a b => (h.2 i x v a b).kp k mu⟩
theorem VlL.nil (K : PySem.W.Frag) (H : Hp) : VlL K H [] [] := ⟨rfl, fun i x v a _ => by simp at a⟩
theorem VlL.cons {K : PySem.W.Frag} {H : Hp} {x : V} {v : Vl} {xs : List V} {vl : List Vl} (h : IsVl K H x v) (t : VlL K H xs vl) : VlL K H (x :: xs) (v :: vl) := ⟨by simp [t.1], fun i y u a b => by
  cases i with
  | zero =>
    simp at a b
    subst a b
    exact h
  | succ i => exact t.2 i y u (by simpa using a) (by simpa using b)⟩
def flT (s : Str) (d : Addr) : List (Str × V) := putF "parts" (.ref d) (putF "called" (.str s) [])
def flP (d : Addr) (w : Option Int) : List (Str × V) := putF "last_words" (wV w) (flT "plain" d)
theorem n_cp : ¬ (("called" : Str) = "parts") := by decide +kernel
theorem n_cl : ¬ (("called" : Str) = "last_words") := by decide +kernel
theorem n_pl : ¬ (("parts" : Str) = "last_words") := by decide +kernel
def Tg.cls (a : Adr) : Tg → Addr
  | .plain _ _ => a.c_PlainThing
  | .weak _ => a.c_Thing
  | .pair _ _ => a.c_PairThing
def Tg.fl (d : Addr) : Tg → List (Str × V)
  | .plain _ w => flP d w
  | .weak _ => flT "weak" d
  | .pair _ _ => flT "pair" d
theorem Tg.called (t : Tg) (d : Addr) : (t.fl d).lookup ("called" : Str) = some (.str t.sort) := by
  cases t <;> simp only [Tg.fl, flP, flT, lookup_putF, if_neg n_cl, if_neg n_cp, if_true, Tg.sort]
theorem Tg.parts (t : Tg) (d : Addr) : (t.fl d).lookup ("parts" : Str) = some (.ref d) := by
  cases t <;> simp only [Tg.fl, flP, flT, lookup_putF, if_neg n_pl, if_true]
theorem Tg.no (t : Tg) (d : Addr) {n : Str} (h1 : ¬ n = "called" := by decide +kernel) (h2 : ¬ n = "parts" := by decide +kernel) (h3 : ¬ n = "last_words" := by decide +kernel) : (t.fl d).lookup n = none := by
  cases t <;> simp only [Tg.fl, flP, flT, lookup_putF, if_neg h1, if_neg h2, if_neg h3] <;> rfl
theorem flP_lw (d : Addr) (w : Option Int) : (flP d w).lookup ("last_words" : Str) = some (wV w) := by
  unfold flP
  rw [lookup_putF, if_pos rfl]
structure ThAt (a : Adr) (K : PySem.W.Frag) (H : Hp) (p d : Addr) (t : Tg) : Prop where
  ob : ∃ dx, H p = some (.ins (t.cls a) dx (t.fl d))
  li : ∃ xs, H d = some (.lst xs) ∧ VlL K H xs t.fs ∧ xs.length ≤ 1000
theorem ThAt.same {a : Adr} {K : PySem.W.Frag} {H H' : Hp} {p d : Addr} {t : Tg} (h : ThAt a K H p d t) (k : Same H H') : ThAt a K H' p d t := by
  obtain ⟨⟨dx, h1⟩, xs, h2, h3, h4⟩ := h
  exact ⟨⟨dx, k _ _ h1⟩, xs, k _ _ h2, h3.same k, h4⟩
theorem Tg.na (T : Txt K mg a) (t : Tg) : Cls K (t.cls a) ∧ NoAttr K (t.cls a) "called" ∧ NoAttr K (t.cls a) "parts" := by
  cases t
  · exact ⟨T.cl_PlainThing, T.na_PlainThing_called, T.na_PlainThing_parts⟩
  · exact ⟨T.cl_Thing, T.na_Thing_called, T.na_Thing_parts⟩
  · exact ⟨T.cl_PairThing, T.na_PairThing_called, T.na_PairThing_parts⟩
theorem Tg.mem (t : Tg) (s : Sp) : (t.cls a, s) ∈ [(a.c_Thing, s), (a.c_PlainThing, s), (a.c_PairThing, s)] := by
  cases t
  · exact .tail _ (.head _)
  · exact .head _
  · exact .tail _ (.tail _ (.head _))
def sp_z39 (K : PySem.W.Frag) : Sp := fun vs H Q _ => ∃ p C dx s l xs, vs = [.ref p, .str s, .ref l] ∧ Cls K C ∧ NoAttr K C "called" ∧ NoAttr K C "parts" ∧ H p = some (.ins C dx []) ∧ SqL K H l xs ∧
  ∀ d H', Keep p H H' → H d = none → H' p = some (.ins C dx (flT s d)) → H' d = some (.lst xs) → Q .non H'
theorem ok_z39 (T : Txt K mg a) : FnOk P w K mg base CX0 1 a.a_z39 a.d_z39 ["self", "sort", "some"] (sp_z39 K) := by
  refine T.f_z39.ok sc_z39 (fun vs H Q E h => ?_) (fun cdv A outer s H vs Q E hr h => ?_)
  · obtain ⟨_, _, _, _, _, _, rfl, _⟩ := h
    rfl
  · obtain ⟨p, C, dx, s, l, xs, rfl, hC, hN1, hN2, h1, hl, q⟩ := h
    refine ⟨_, (pss_cons (ps_fld (pv 0) (pv 1) rfl) (pss_one (ps_fld (pv 0) (pe_callTy call_list_of rfl T.n_list bt_list (pa_cons (pv 2) pa_nil)) rfl))), ?_⟩
    dsimp! [h1, HO.ins.injEq, hC, hN1, hN2]
    refine ⟨by decide, xs, .inl (SqL.ins hl h1), fun d hd => ?_⟩
    have npd : p ≠ d := ne_of_none upd_same hd
    refine ⟨C, dx, putF "called" (.str s) [], by rw [upd_ne npd]; exact upd_same, hC, hN2, Nat.lt_of_le_of_lt (length_putF _ _ _) (by decide), q d _ ?_ ?_ upd_same ?_⟩
    · intro b o hb e
      rw [upd_ne hb, upd_ne (ne_of_none (by rw [upd_ne hb]; exact e) hd), upd_ne hb]
      exact e
    · rw [upd_ne npd.symm] at hd
      exact hd
    · rw [upd_ne npd.symm]
      exact upd_same
def sp_z40 (a : Adr) (K : PySem.W.Frag) : Sp := fun vs H Q _ => ∃ p d t, vs = [.ref p] ∧ ThAt a K H p d t ∧ Q (.str t.sort) H
theorem ok_z40 (T : Txt K mg a) : FnOk P w K mg base CX0 1 a.a_z40 a.d_z40 ["self"] (sp_z40 a K) := by
  refine T.f_z40.ok sc_z40 (fun vs H Q E h => ?_) (fun cdv A outer s H vs Q E hr h => ?_)
  · obtain ⟨_, _, _, rfl, _⟩ := h
    rfl
  · obtain ⟨p, d, t, rfl, ⟨⟨dx, h1⟩, _⟩, q⟩ := h
    obtain ⟨hC, hN1, hN2⟩ := t.na T
    refine ⟨_, (pss_one (ps_ret (pe_fld (pv 0) rfl))), ?_⟩
    dsimp! [h1, HO.ins.injEq, hC, hN1, t.called]
    exact q
def sp_z37 (a : Adr) (K : PySem.W.Frag) : Sp := fun vs H Q _ => ∃ p d t, vs = [.ref p] ∧ ThAt a K H p d t ∧ ∀ r xs, H r = none → VlL K H xs t.fs → xs.length ≤ 1000 → Q (.ref r) (upd H r (.lst xs))
theorem ok_z37 (T : Txt K mg a) : FnOk P w K mg base CX0 1 a.a_z37 a.d_z37 ["self"] (sp_z37 a K) := by
  refine T.f_z37.ok sc_z37 (fun vs H Q E h => ?_) (fun cdv A outer s H vs Q E hr h => ?_)
  · obtain ⟨_, _, _, rfl, _⟩ := h
    rfl
  · obtain ⟨p, d, t, rfl, ⟨⟨dx, h1⟩, xs, h2, h3, h4⟩, q⟩ := h
    obtain ⟨hC, hN1, hN2⟩ := t.na T
    refine ⟨_, (pss_one (ps_ret (pe_callTy call_list_of rfl T.n_list bt_list (pa_cons (pe_fld (pv 0) rfl) pa_nil)))), ?_⟩
    dsimp! [h1, HO.ins.injEq, hC, hN2, t.parts]
    exact ⟨xs, .inl (SqL.of h2), fun l hl => q l xs hl h3 h4⟩
def sp_z42 : Sp := fun vs H Q _ => ∃ p, vs = [.ref p] ∧ Q .non H
theorem ok_z42 (T : Txt K mg a) : FnOk P w K mg base CX0 1 a.a_z42 a.d_z42 ["self"] sp_z42 := by
  refine T.f_z42.ok sc_z42 (fun vs H Q E h => ?_) (fun cdv A outer s H vs Q E hr h => ?_)
  · obtain ⟨_, rfl, _⟩ := h
    rfl
  · obtain ⟨p, rfl, q⟩ := h
    refine ⟨_, (pss_one (ps_ret pe_non)), ?_⟩
    dsimp! []
    exact q
def sp_z29 (a : Adr) (K : PySem.W.Frag) : Sp := fun vs H Q _ => ∃ p d fs w, vs = [.ref p] ∧ ThAt a K H p d (.plain fs w) ∧ Q (wV w) H
theorem ok_z29 (T : Txt K mg a) : FnOk P w K mg base CX0 1 a.a_z29 a.d_z29 ["self"] (sp_z29 a K) := by
  refine T.f_z29.ok sc_z29 (fun vs H Q E h => ?_) (fun cdv A outer s H vs Q E hr h => ?_)
  · obtain ⟨_, _, _, _, rfl, _⟩ := h
    rfl
  · obtain ⟨p, d, fs, w, rfl, ⟨⟨dx, h1⟩, _⟩, q⟩ := h
    have h2 : H p = some (.ins a.c_PlainThing dx (flP d w)) := h1
    refine ⟨_, (pss_one (ps_ret (pe_fld (pv 0) rfl))), ?_⟩
    dsimp! [h2, HO.ins.injEq, T.cl_PlainThing, T.na_PlainThing_last_words, flP_lw]
    exact q
theorem words_mem (t : Tg) {p d : Addr} {H : Hp} {Q : VK} {E : XK} (h : ThAt a K H p d t) (q : Q (wV t.words) H) : ∃ sp, (t.cls a, sp) ∈ [(a.c_Thing, sp_z42), (a.c_PlainThing, sp_z29 a K), (a.c_PairThing, sp_z42)] ∧ sp [.ref p] H Q E := by
  cases t with
  | plain fs w => exact ⟨_, .tail _ (.head _), p, d, fs, w, rfl, h, q⟩
  | weak f => exact ⟨_, .head _, p, rfl, q⟩
  | pair k v => exact ⟨_, .tail _ (.tail _ (.head _)), p, rfl, q⟩
def sp_z28 (a : Adr) (K : PySem.W.Frag) : Sp := fun vs H Q _ => ∃ p dx l xs w, vs = [.ref p, .ref l, wV w] ∧ H p = some (.ins a.c_PlainThing dx []) ∧ SqL K H l xs ∧
  ∀ d H', Keep p H H' → H d = none → H' p = some (.ins a.c_PlainThing dx (flP d w)) → H' d = some (.lst xs) → Q .non H'
theorem ok_z28 (T : Txt K mg a) : FnOk P w K mg base CX0 6 a.a_z28 a.d_z28 ["self", "some", "last_words"] (sp_z28 a K) := by
  refine T.f_z28.ok sc_z28 (fun vs H Q E h => ?_) (fun cdv A outer s H vs Q E hr h => ?_)
  · obtain ⟨_, _, _, _, _, rfl, _⟩ := h
    rfl
  · obtain ⟨p, dx, l, xs, w, rfl, h1, hl, q⟩ := h
    refine ⟨_, (pss_cons (ps_expr (pe_clsm (pe_glob (v := .ref a.c_Thing) rfl T.mc_Thing rfl) T.cf_Thing_init (ok_z39 T) (hr.mono (by decide)) T.b_z39 .nil pass0 (pa_cons (pv 0) (pa_cons pe_str (pa_cons (pv 1) pa_nil))))) (pss_one (ps_fld (pv 0) (pv 2) rfl))), ?_⟩
    dsimp! []
    refine ⟨p, _, dx, _, l, xs, rfl, T.cl_PlainThing, T.na_PlainThing_called, T.na_PlainThing_parts, h1, hl, fun d H' k hd hp h2 => ?_⟩
    have npd : d ≠ p := ne_of h2 hp (by intro z; cases z)
    refine ⟨_, dx, _, hp, T.cl_PlainThing, T.na_PlainThing_last_words, ?_, q d _ (fun b o hb e => ?_) hd upd_same ?_⟩
    · refine Nat.lt_of_le_of_lt (length_putF _ _ _) (Nat.lt_of_le_of_lt (Nat.succ_le_succ (length_putF _ _ _)) (by decide))
    · rw [upd_ne hb]
      exact k b o hb e
    · rw [upd_ne npd]
      exact h2
def sp_z25 (a : Adr) (K : PySem.W.Frag) : Sp := fun vs H Q _ => ∃ p dx x y, vs = [.ref p, x, y] ∧ H p = some (.ins a.c_PairThing dx []) ∧
  ∀ d H', Keep p H H' → H d = none → H' p = some (.ins a.c_PairThing dx (flT "pair" d)) → H' d = some (.lst [x, y]) → Q .non H'
theorem none_up {H : Hp} {b l : Addr} {o : HO} (h : upd H l o b = none) : H b = none := by
  by_cases z : b = l
  · rw [z, upd_same] at h
    cases h
  · rw [upd_ne z] at h
    exact h
theorem ok_z25 (T : Txt K mg a) : FnOk P w K mg base CX0 5 a.a_z25 a.d_z25 ["self", "key", "value"] (sp_z25 a K) := by
  refine T.f_z25.ok sc_z25 (fun vs H Q E h => ?_) (fun cdv A outer s H vs Q E hr h => ?_)
  · obtain ⟨_, _, _, _, rfl, _⟩ := h
    rfl
  · obtain ⟨p, dx, x, y, rfl, h1, q⟩ := h
    refine ⟨_, (pss_one (ps_expr (pe_clsm (pe_glob (v := .ref a.c_Thing) rfl T.mc_Thing rfl) T.cf_Thing_init (ok_z39 T) (hr.mono (by decide)) T.b_z39 .nil pass0 (pa_cons (pv 0) (pa_cons pe_str (pa_cons (pe_lst (pa_cons (pv 1) (pa_cons (pv 2) pa_nil))) pa_nil)))))), ?_⟩
    dsimp! []
    refine ⟨by decide, fun l hl => ⟨p, _, dx, _, l, [x, y], rfl, T.cl_PairThing, T.na_PairThing_called, T.na_PairThing_parts, by rw [upd_ne (ne_of_none h1 hl)]; exact h1, SqL.of upd_same, fun d H' k hd hp h2 => ?_⟩⟩
    exact q d H' (fun b o hb e => k b o hb (Same.put hl b o e)) (none_up hd) hp h2
theorem same_new {H H' : Hp} {x dx : Addr} {o u : HO} (h1 : H x = none) (h2 : H dx = none) (k : Keep x (upd (upd H dx o) x u) H') : Same H H' := fun b c e => by
  have n := ne_of_none e h1
  exact k b c n (by rw [upd_ne n, upd_ne (ne_of_none e h2)]; exact e)
def sp_z59 (a : Adr) (K : PySem.W.Frag) : Sp := fun vs H Q _ => ∃ l xs vl w, vs = [.ref l, wV w] ∧ SqL K H l xs ∧ VlL K H xs vl ∧ xs.length ≤ 1000 ∧
  ∀ p d H', Same H H' → H p = none → H d = none → ThAt a K H' p d (.plain vl w) → Q (.ref p) H'
theorem ok_z59 (T : Txt K mg a) : FnOk P w K mg base CX0 8 a.a_z59 a.d_z59 ["fields", "words"] (sp_z59 a K) := by
  refine T.f_z59.ok sc_z59 (fun vs H Q E h => ?_) (fun cdv A outer s H vs Q E hr h => ?_)
  · obtain ⟨_, _, _, _, rfl, _⟩ := h
    rfl
  · obtain ⟨l, xs, vl, w, rfl, hl, hv, hz, q⟩ := h
    refine ⟨_, (pss_one (ps_ret (pe_make T.mk_PlainThing (ok_z28 T) (hr.mono (by decide)) rfl T.mc_PlainThing T.b_z28 .nil pass0 (pa_cons (pv 0) (pa_cons (pv 1) pa_nil))))), ?_⟩
    dsimp! []
    refine fun x dx hx hdx ne => ⟨x, dx, l, xs, w, rfl, upd_same, ?_, fun d H' k hd hp h2 => ?_⟩
    · exact ((Same.put hdx).trans (Same.put (by rw [upd_ne ne.symm]; exact hx))).seq hl
    · have sm := same_new hx hdx k
      exact ⟨rfl, q x d H' sm hx (none_up (none_up hd)) ⟨⟨dx, hp⟩, xs, h2, hv.same sm, hz⟩⟩
def sp_z62 (a : Adr) (K : PySem.W.Frag) : Sp := fun vs H Q _ => ∃ x v, vs = [x] ∧ IsVl K H x v ∧ ∀ p d H', Same H H' → H p = none → H d = none → ThAt a K H' p d (.weak v) → Q (.ref p) H'
theorem ok_z62 (T : Txt K mg a) : FnOk P w K mg base CX0 3 a.a_z62 a.d_z62 ["field"] (sp_z62 a K) := by
  refine T.f_z62.ok sc_z62 (fun vs H Q E h => ?_) (fun cdv A outer s H vs Q E hr h => ?_)
  · obtain ⟨_, _, rfl, _⟩ := h
    rfl
  · obtain ⟨y, v, rfl, hv, q⟩ := h
    refine ⟨_, (pss_one (ps_ret (pe_make T.mk_Thing (ok_z39 T) (hr.mono (by decide)) rfl T.mc_Thing T.b_z39 .nil pass0 (pa_cons pe_str (pa_cons (pe_lst (pa_cons (pv 0) pa_nil)) pa_nil))))), ?_⟩
    dsimp! []
    refine ⟨by decide, fun l hl => fun x dx hx hdx ne => ⟨x, _, dx, _, l, [y], rfl, T.cl_Thing, T.na_Thing_called, T.na_Thing_parts, upd_same, ?_, fun d H' k hd hp h2 => ?_⟩⟩
    · exact ((Same.put hdx).trans (Same.put (by rw [upd_ne ne.symm]; exact hx))).seq (SqL.of upd_same)
    · have sm := (Same.put hl).trans (same_new hx hdx k)
      exact ⟨rfl, q x d H' sm (none_up hx) (none_up (none_up (none_up hd))) ⟨⟨dx, hp⟩, [y], h2, .cons (hv.same sm) (.nil _ _), by simp⟩⟩
def sp_z58 (a : Adr) (K : PySem.W.Frag) : Sp := fun vs H Q _ => ∃ x y u v, vs = [x, y] ∧ IsVl K H x u ∧ IsVl K H y v ∧ ∀ p d H', Same H H' → H p = none → H d = none → ThAt a K H' p d (.pair u v) → Q (.ref p) H'
theorem ok_z58 (T : Txt K mg a) : FnOk P w K mg base CX0 7 a.a_z58 a.d_z58 ["key", "value"] (sp_z58 a K) := by
  refine T.f_z58.ok sc_z58 (fun vs H Q E h => ?_) (fun cdv A outer s H vs Q E hr h => ?_)
  · obtain ⟨_, _, _, _, rfl, _⟩ := h
    rfl
  · obtain ⟨y, z, u, v, rfl, hu, hv, q⟩ := h
    refine ⟨_, (pss_one (ps_ret (pe_make T.mk_PairThing (ok_z25 T) (hr.mono (by decide)) rfl T.mc_PairThing T.b_z25 .nil pass0 (pa_cons (pv 0) (pa_cons (pv 1) pa_nil))))), ?_⟩
    dsimp! []
    refine fun x dx hx hdx ne => ⟨x, dx, y, z, rfl, upd_same, fun d H' k hd hp h2 => ?_⟩
    have sm := same_new hx hdx k
    exact ⟨rfl, q x d H' sm hx (none_up (none_up hd)) ⟨⟨dx, hp⟩, [y, z], h2, .cons (hu.same sm) (.cons (hv.same sm) (.nil _ _)), by simp⟩⟩
structure MA where
  p : Addr
  pr : Addr
  d : Addr
  lb : Addr
  bs : List Addr
  m : Nat
  c : Nat
def flM (pr lb : Addr) : List (Str × V) := putF "begins" (.ref lb) (putF "rooms" (.ref pr) [])
theorem n_rb : ¬ (("rooms" : Str) = "begins") := by decide +kernel
theorem flM_rooms (pr lb : Addr) : (flM pr lb).lookup ("rooms" : Str) = some (.ref pr) := by
  unfold flM
  rw [lookup_putF, if_neg n_rb, lookup_putF, if_pos rfl]
theorem flM_begins (pr lb : Addr) : (flM pr lb).lookup ("begins" : Str) = some (.ref lb) := by
  unfold flM
  rw [lookup_putF, if_pos rfl]
theorem flM_no {pr lb : Addr} {n : Str} (h1 : ¬ n = "begins" := by decide +kernel) (h2 : ¬ n = "rooms" := by decide +kernel) : (flM pr lb).lookup n = none := by
  unfold flM
  rw [lookup_putF, if_neg h1, lookup_putF, if_neg h2]
  all_goals rfl
def begK (es : List (Nat × List V)) (c r : Nat) : List (Key × V) := (es.filter fun b => decide (b.1 / c = r)).map fun b => ((Sum.inl (b.1 : Int) : Key), V.bl true)
theorem begK_has {es : List (Nat × List V)} {c r p : Nat} : (valV (begK es c r) (Sum.inl (p : Int))).isSome = true ↔ ∃ b ∈ es, b.1 = p ∧ p / c = r := by
  rw [← valV_any, List.any_eq_true]
  constructor
  · rintro ⟨x, hx, hk⟩
    obtain ⟨b, hb, rfl⟩ := List.mem_map.mp hx
    obtain ⟨h1, h2⟩ := List.mem_filter.mp hb
    have e : (b.1 : Int) = (p : Int) := Sum.inl.inj (of_decide_eq_true hk)
    have e2 : b.1 = p := by omega
    exact ⟨b, h1, e2, by rw [← e2]; exact of_decide_eq_true h2⟩
  · rintro ⟨b, hb, rfl, hr⟩
    exact ⟨_, List.mem_map.mpr ⟨b, List.mem_filter.mpr ⟨hb, decide_eq_true hr⟩, rfl⟩, decide_eq_true rfl⟩
theorem begK_no {es : List (Nat × List V)} {c r p : Nat} (h : ¬ ∃ b ∈ es, b.1 = p ∧ p / c = r) : valV (begK es c r) (Sum.inl (p : Int)) = none := by
  cases e : valV (begK es c r) (Sum.inl (p : Int)) with
  | none => rfl
  | some v => exact absurd (begK_has.mp (by rw [e]; rfl)) h
theorem begK_add {es : List (Nat × List V)} {c r g : Nat} {cs : List V} : begK (es ++ [(g, cs)]) c r = if g / c = r then begK es c r ++ [(Sum.inl (g : Int), V.bl true)] else begK es c r := by
  unfold begK
  rw [List.filter_append, List.map_append]
  by_cases h : g / c = r
  · rw [if_pos h]
    simp [h]
  · rw [if_neg h]
    simp [h]
theorem begK_len {es : List (Nat × List V)} {c r : Nat} : (begK es c r).length ≤ es.length := by
  unfold begK
  rw [List.length_map]
  exact List.length_filter_le _ _
def MA.own (M : MA) (b : Addr) : Prop := b = M.d ∨ b ∈ M.bs
structure MemAt (a : Adr) (H : Hp) (M : MA) (xs : List V) (es : List (Nat × List V)) : Prop where
  ob : ∃ dx, H M.p = some (.ins a.c_Memory dx (flM M.pr M.lb))
  R : RoomsAt a.c_Rooms H M.pr M.d M.m M.c xs
  li : H M.lb = some (.lst (M.bs.map V.ref))
  nl : M.lb ≠ M.d
  bl : M.bs.length = M.m
  bd : ∀ (r : Nat) b, M.bs[r]? = some b → H b = some (.dK (begK es M.c r))
  bi : M.bs.Nodup
  lay : Lay xs M.c es
  few : es.length ≤ 1000
theorem MemAt.mu {a : Adr} {H : Hp} {M : MA} {xs : List V} {es : List (Nat × List V)} (h : MemAt a H M xs es) (b : Addr) (hb : M.own b) : Mu H b := by
  rcases hb with rfl | hb
  · exact .inl ⟨_, h.R.li⟩
  · obtain ⟨r, hr⟩ := List.mem_iff_getElem?.mp hb
    exact .inr ⟨_, h.bd r b hr⟩
theorem MemAt.same {a : Adr} {H H' : Hp} {M : MA} {xs : List V} {es : List (Nat × List V)} (h : MemAt a H M xs es) (k : Same H H') : MemAt a H' M xs es where
  ob := by
    obtain ⟨dx, e⟩ := h.ob
    exact ⟨dx, k _ _ e⟩
  R := h.R.same k
  li := k _ _ h.li
  nl := h.nl
  bl := h.bl
  bd := fun r b e => k _ _ (h.bd r b e)
  bi := h.bi
  lay := h.lay
  few := h.few
theorem MemAt.off {a : Adr} {S : Addr → Prop} {H H' : Hp} {M : MA} {xs : List V} {es : List (Nat × List V)} (h : MemAt a H M xs es) (k : Kp S H H') (n1 : ¬ S M.p) (n2 : ¬ S M.pr) (n3 : ¬ S M.lb) (n4 : ∀ b, M.own b → ¬ S b) : MemAt a H' M xs es where
  ob := by
    obtain ⟨dx, e⟩ := h.ob
    exact ⟨dx, k _ _ n1 e⟩
  R := by
    obtain ⟨dx, e⟩ := h.R.ob
    exact ⟨⟨dx, k _ _ n2 e⟩, k _ _ (n4 _ (.inl rfl)) h.R.li, h.R.len, h.R.m0, h.R.c0, h.R.sm⟩
  li := k _ _ n3 h.li
  nl := h.nl
  bl := h.bl
  bd := fun r b e => k _ _ (n4 b (.inr (List.mem_of_getElem? e))) (h.bd r b e)
  bi := h.bi
  lay := h.lay
  few := h.few
structure En where
  t : Tg
  ser : Int
  mkd : Bool
def Tg.kn : Tg → Nat
  | .plain _ _ => 0
  | .weak _ => 1
  | .pair _ _ => 2
def Tg.kind (t : Tg) : Int := (t.kn : Int)
def Tg.first : Tg → Nat
  | .plain _ _ => 3
  | _ => 2
theorem Tg.f2 (t : Tg) : 2 ≤ t.first ∧ t.first ≤ 3 := by cases t <;> (constructor <;> simp [Tg.first])
def Tg.size (t : Tg) : Nat := t.first + t.fs.length
def wVl : Option Int → Vl
  | none => .no
  | some n => .num n
structure Cells (K : PySem.W.Frag) (H : Hp) (cs : List V) (e : En) : Prop where
  ex : ∃ mid fx, cs = .int (hd e.t.kind e.mkd e.t.words.isSome (e.t.size : Nat)) :: .int e.ser :: (mid ++ fx) ∧ VlL K H fx e.t.fs ∧ mid.length + 2 = e.t.first ∧ ∀ x ∈ mid, IsVl K H x (wVl e.t.words)
theorem Cells.len {K : PySem.W.Frag} {H : Hp} {cs : List V} {e : En} (h : Cells K H cs e) : cs.length = e.t.size := by
  obtain ⟨mid, fx, rfl, h2, h3, _⟩ := h.ex
  have := h2.1
  simp only [List.length_cons, List.length_append, Tg.size]
  omega
theorem Cells.pos {K : PySem.W.Frag} {H : Hp} {cs : List V} {e : En} (h : Cells K H cs e) : 0 < cs.length := by
  rw [h.len]
  unfold Tg.size
  cases e.t <;> simp [Tg.first] <;> omega
theorem Cells.nn {K : PySem.W.Frag} {H : Hp} {cs : List V} {e : En} (h : Cells K H cs e) : ∀ v ∈ cs, v ≠ .non := by
  obtain ⟨mid, fx, rfl, h2, h3, h4⟩ := h.ex
  intro v hv
  rcases List.mem_cons.mp hv with rfl | hv
  · exact fun z => nomatch z
  · rcases List.mem_cons.mp hv with rfl | hv
    · exact fun z => nomatch z
    · rcases List.mem_append.mp hv with hv | hv
      · obtain ⟨t, rfl, _⟩ := h4 v hv
        exact fun z => nomatch z
      · obtain ⟨i, hi⟩ := List.mem_iff_getElem?.mp hv
        have hl := (List.getElem?_eq_some_iff.mp hi).1
        have := h2.1
        obtain ⟨t, rfl, _⟩ := h2.2 i v _ hi (List.getElem?_eq_getElem (by omega))
        exact fun z => nomatch z
theorem Cells.same {K : PySem.W.Frag} {H H' : Hp} {cs : List V} {e : En} (h : Cells K H cs e) (k : Same H H') : Cells K H' cs e := by
  obtain ⟨mid, fx, e1, h2, h3, h4⟩ := h.ex
  exact ⟨mid, fx, e1, h2.same k, h3, fun x hx => (h4 x hx).same k⟩
theorem Cells.kp {K : PySem.W.Frag} {S : Addr → Prop} {H H' : Hp} {cs : List V} {e : En} (h : Cells K H cs e) (k : Kp S H H') (mu : ∀ b, S b → Mu H b) : Cells K H' cs e := by
  obtain ⟨mid, fx, e1, h2, h3, h4⟩ := h.ex
  exact ⟨mid, fx, e1, h2.kp k mu, h3, fun x hx => (h4 x hx).kp k mu⟩
theorem Tg.k0 (t : Tg) : 0 ≤ t.kind ∧ t.kind < 3 := by cases t <;> (constructor <;> simp [Tg.kind, Tg.kn])
theorem Tg.ix (t : Tg) : (["plain", "weak", "pair"] : List Str)[t.kn]? = some t.sort := by cases t <;> rfl
theorem wV_some (w : Option Int) : (!decide (wV w = V.non)) = w.isSome := by cases w <;> rfl
def sp_z44 : Sp := fun vs H Q _ => ∃ t : Tg, vs = [.str t.sort] ∧ Q (.int (t.first : Nat)) H
theorem n_wp : ¬ (("weak" : Str) = "plain") := by decide +kernel
theorem n_pp : ¬ (("pair" : Str) = "plain") := by decide +kernel
theorem n_pw : ¬ (("pair" : Str) = "weak") := by decide +kernel
theorem n_plw : ¬ (("plain" : Str) = "weak") := by decide +kernel
theorem ok_z44 (T : Txt K mg a) : FnOk P w K mg base CX0 1 a.a_z44 a.d_z44 ["sort"] sp_z44 := by
  refine T.f_z44.ok sc_z44 (fun vs H Q E h => ?_) (fun cdv A outer s H vs Q E hr h => ?_)
  · obtain ⟨_, rfl, _⟩ := h
    rfl
  · obtain ⟨t, rfl, q⟩ := h
    refine ⟨_, (pss_one (ps_ret (pe_ifExp (pt_cmpR op_eq (pv 0) pe_str (nomark _)) pe_int pe_int))), ?_⟩
    cases t with
    | plain fs w =>
      dsimp! [Tg.sort]
      exact q
    | weak f =>
      dsimp! [Tg.sort, n_wp]
      exact q
    | pair k v =>
      dsimp! [Tg.sort, n_pp]
      exact q
theorem Tg.ixn (t : Tg) : ∀ (i : Nat) y, i < t.kn → (["plain", "weak", "pair"] : List Str)[i]? = some y → y ≠ t.sort := by
  intro i y hi hy
  cases t with
  | plain fs w => exact absurd hi (Nat.not_lt_zero _)
  | weak f =>
    have e : i = 0 := Nat.lt_one_iff.mp hi
    subst e
    cases hy
    exact n_plw
  | pair k v =>
    have h2 : i < 2 := hi
    match i, h2, hy with
    | 0, _, hy =>
      cases hy
      exact fun z => n_pp z.symm
    | 1, _, hy =>
      cases hy
      exact fun z => n_pw z.symm
def sp_z61 (a : Adr) (K : PySem.W.Frag) : Sp := fun vs H Q _ => ∃ p d t, vs = [.ref p] ∧ ThAt a K H p d t ∧ ∀ H', Same H H' → Q (.int (t.size : Nat)) H'
theorem ok_z61 (T : Txt K mg a) : FnOk P w K mg base CX0 2 a.a_z61 a.d_z61 ["thing"] (sp_z61 a K) := by
  refine T.f_z61.ok sc_z61 (fun vs H Q E h => ?_) (fun cdv A outer s H vs Q E hr h => ?_)
  · obtain ⟨_, _, _, rfl, _⟩ := h
    rfl
  · obtain ⟨p, d, t, rfl, h, q⟩ := h
    obtain ⟨dx, h1⟩ := h.ob
    refine ⟨_, (pss_one (ps_ret (pe_op op_add (pe_call (ok_z44 T) (hr.mono (by decide)) rfl T.m_z44 T.f_z44.kp T.b_z44 .nil pass0 (pa_cons (pe_methV0 (L := [(a.c_Thing, sp_z40 a K), (a.c_PlainThing, sp_z40 a K), (a.c_PairThing, sp_z40 a K)]) (pv 0) (List.forall_mem_cons.mpr ⟨⟨_, _, _, _, T.cl_Thing, T.me_z40, ok_z40 T, hr.mono (by decide), T.b_z40⟩, List.forall_mem_cons.mpr ⟨⟨_, _, _, _, T.cl_PlainThing, T.me_PlainThing_sort_of, ok_z40 T, hr.mono (by decide), T.b_z40⟩, List.forall_mem_cons.mpr ⟨⟨_, _, _, _, T.cl_PairThing, T.me_PairThing_sort_of, ok_z40 T, hr.mono (by decide), T.b_z40⟩, List.forall_mem_nil _⟩⟩⟩) .nil pass0) pa_nil)) (pe_callB call_len_seq rfl T.n_len bt_len (pa_cons (pe_methV0 (L := [(a.c_Thing, sp_z37 a K), (a.c_PlainThing, sp_z37 a K), (a.c_PairThing, sp_z37 a K)]) (pv 0) (List.forall_mem_cons.mpr ⟨⟨_, _, _, _, T.cl_Thing, T.me_z37, ok_z37 T, hr.mono (by decide), T.b_z37⟩, List.forall_mem_cons.mpr ⟨⟨_, _, _, _, T.cl_PlainThing, T.me_PlainThing_fields, ok_z37 T, hr.mono (by decide), T.b_z37⟩, List.forall_mem_cons.mpr ⟨⟨_, _, _, _, T.cl_PairThing, T.me_PairThing_fields, ok_z37 T, hr.mono (by decide), T.b_z37⟩, List.forall_mem_nil _⟩⟩⟩) .nil pass0) pa_nil))))), ?_⟩
    have f2 := t.no d (n := "sort_of")
    have f3 := t.no d (n := "fields")
    dsimp! [h1, HO.ins.injEq, f2, f3]
    refine ⟨_, t.mem _, p, d, t, rfl, h, t, rfl, _, _, _, h1, f3, _, t.mem _, p, d, t, rfl, h, fun r xs hr2 hv hz => ?_⟩
    refine ⟨r, rfl, xs, .inl (SqL.of upd_same), ?_⟩
    have := q _ (Same.put (o := .lst xs) hr2)
    rw [← hv.1]
    simpa [Tg.size] using this
def sp_z66 (K : PySem.W.Frag) : Sp := fun vs H Q _ => ∃ w, vs = [wV w] ∧ ∀ x H', Same H H' → IsVl K H' x (wVl w) → Q x H'
theorem ok_z66 (T : Txt K mg a) : FnOk P w K mg base CX0 1 a.a_z66 a.d_z66 ["words"] (sp_z66 K) := by
  refine T.f_z66.ok sc_z66 (fun vs H Q E h => ?_) (fun cdv A outer s H vs Q E hr h => ?_)
  · obtain ⟨_, rfl, _⟩ := h
    rfl
  · obtain ⟨w, rfl, q⟩ := h
    refine ⟨_, (pss_one (ps_ret (pe_ifExp (pt_cmpR op_isN (pv 0) pe_non (nomark _)) (pe_glob (v := .ref a.t_NOTHING) rfl T.c_NOTHING rfl) (pe_tup (pa_cons pe_str (pa_cons (pv 0) pa_nil)))))), ?_⟩
    cases w with
    | none =>
      dsimp! [wV]
      exact q _ H (.refl H) ⟨_, rfl, T.q_NOTHING H⟩
    | some n =>
      dsimp! [wV]
      exact ⟨by decide, fun t ht => q _ _ (Same.put ht) ⟨t, rfl, SqT.of upd_same⟩⟩
def sp_z35 (C : Addr) : Sp := fun vs H Q _ => ∃ p d m c xs i, vs = [.ref p, .int (i : Nat)] ∧ RoomsAt C H p d m c xs ∧ Q (.int ((i / c : Nat) : Int)) H
theorem ok_z35 (T : Txt K mg a) : FnOk P w K mg base CX0 1 a.a_z35 a.d_z35 ["self", "place"] (sp_z35 a.c_Rooms) := by
  refine T.f_z35.ok sc_z35 (fun vs H Q E h => ?_) (fun cdv A outer s H vs Q E hr h => ?_)
  · obtain ⟨_, _, _, _, _, _, rfl, _⟩ := h
    rfl
  · obtain ⟨p, d, m, c, xs, i, rfl, R, q⟩ := h
    obtain ⟨dx, h1⟩ := R.ob
    have hc0 := R.c0
    have hcs : c ≤ 1000 := Nat.le_trans (Nat.le_mul_of_pos_left c R.m0) R.sm
    refine ⟨_, (pss_one (ps_ret (pe_op op_fdivL (pv 1) (pe_fld (pv 0) rfl)))), ?_⟩
    dsimp! [h1, HO.ins.injEq, T.cl_Rooms, T.na_Rooms_cells, flds_cells]
    refine ⟨.small (by omega) (by omega), ?_⟩
    rw [← Int.natCast_ediv]
    exact q
theorem cells_end {t : Tg} {ser : Int} {mk : Bool} {H : Hp} {p d l1 l2 : Addr} {mid : List V} {Q : VK} {E : XK} {hdv : Int} (eh : hdv = hd t.kind mk t.words.isSome (t.size : Nat)) (em : mid.length + 2 = t.first) (hf : t.fs.length ≤ 900)
    (f3 : (t.fl d).lookup ("fields" : Str) = none) (h : ThAt a K H p d t) (hl1 : H l1 = none) (hl2 : upd H l1 (.lst mid) l2 = none) (hx : ∀ x ∈ mid, IsVl K H x (wVl t.words)) (hml : mid.length ≤ 1)
    (q : ∀ r cs H', Same H H' → H r = none → H' r = some (.lst cs) → Cells K H' cs (⟨t, ser, mk⟩ : En) → Q (.ref r) H') :
    rCatS K (.ref l2) (.ref l1) (upd (upd H l1 (.lst mid)) l2 (.lst [.int hdv, .int ser])) fun x H1 =>
      ∃ C dx fs, H1 p = some (.ins C dx fs) ∧ fs.lookup ("fields" : Str) = none ∧ ∃ sp, (C, sp) ∈ [(a.c_Thing, sp_z37 a K), (a.c_PlainThing, sp_z37 a K), (a.c_PairThing, sp_z37 a K)] ∧ sp [.ref p] H1 (fun y H2 => rCatS K x y H2 Q) E := by
  have n12 : l1 ≠ l2 := ne_of_none upd_same hl2
  have k1 := (Same.put (o := .lst mid) hl1).trans (Same.put (o := .lst [V.int hdv, V.int ser]) hl2)
  refine ⟨l2, l1, [.int hdv, .int ser], mid, rfl, rfl, SqL.of upd_same, SqL.of (by rw [upd_ne n12]; exact upd_same), Nat.le_of_lt (small1000 (by simp; omega)), fun l3 hl3 => ?_⟩
  have k2 := k1.trans (Same.put (o := .lst ([V.int hdv, V.int ser] ++ mid)) hl3)
  have hl3' : upd (upd (upd H l1 (.lst mid)) l2 (.lst [V.int hdv, V.int ser])) l3 (.lst ([V.int hdv, V.int ser] ++ mid)) l3 = some (.lst ([V.int hdv, V.int ser] ++ mid)) := upd_same
  generalize upd (upd (upd H l1 (.lst mid)) l2 (.lst [V.int hdv, V.int ser])) l3 (.lst ([V.int hdv, V.int ser] ++ mid)) = H3 at k2 hl3'
  have h3 := h.same k2
  obtain ⟨dx, h4⟩ := h3.ob
  refine ⟨_, dx, _, h4, f3, _, t.mem _, p, d, t, rfl, h3, fun l4 fx hl4 hv hz => ?_⟩
  have k4 := Same.put (o := .lst fx) hl4
  have fl : fx.length ≤ 900 := by rw [← hv.1]; exact hf
  refine ⟨l3, l4, _, fx, rfl, rfl, SqL.of (k4 _ _ hl3'), SqL.of upd_same, Nat.le_of_lt (small1000 (by simp; omega)), fun r hr => ?_⟩
  have k5 := Same.put (o := .lst (([V.int hdv, V.int ser] ++ mid) ++ fx)) hr
  have kk := k2.trans (k4.trans k5)
  refine q r _ _ kk (k2.free (none_up hr)) upd_same ⟨mid, fx, by rw [eh]; rfl, hv.same (k4.trans k5), em, fun x hx2 => (hx x hx2).same kk⟩
def sp_z43 (a : Adr) (K : PySem.W.Frag) : Sp := fun vs H Q _ => ∃ p d t ser mk, vs = [.ref p, .int ser, .bl mk] ∧ ThAt a K H p d t ∧ t.fs.length ≤ 900 ∧ ∀ r cs H', Same H H' → H r = none → H' r = some (.lst cs) → Cells K H' cs (⟨t, ser, mk⟩ : En) → Q (.ref r) H'
theorem ok_z43 (T : Txt K mg a) : FnOk P w K mg base CX0 4 a.a_z43 a.d_z43 ["thing", "serial", "marked"] (sp_z43 a K) := by
  refine T.f_z43.ok sc_z43 (fun vs H Q E h => ?_) (fun cdv A outer s H vs Q E hr h => ?_)
  · obtain ⟨_, _, _, _, _, rfl, _⟩ := h
    rfl
  · obtain ⟨p, d, t, ser, mk, rfl, h, hf, q⟩ := h
    obtain ⟨dx, h1⟩ := h.ob
    refine ⟨_, (pss_cons (ps_set (i := 3) sc_z43.nd rfl (Or.inl rfl) (pe_methV0 (L := [(a.c_Thing, sp_z42), (a.c_PlainThing, sp_z29 a K), (a.c_PairThing, sp_z42)]) (pv 0) (List.forall_mem_cons.mpr ⟨⟨_, _, _, _, T.cl_Thing, T.me_z42, ok_z42 T, hr.mono (by decide), T.b_z42⟩, List.forall_mem_cons.mpr ⟨⟨_, _, _, _, T.cl_PlainThing, T.me_z29, ok_z29 T, hr.mono (by decide), T.b_z29⟩, List.forall_mem_cons.mpr ⟨⟨_, _, _, _, T.cl_PairThing, T.me_PairThing_words, ok_z42 T, hr.mono (by decide), T.b_z42⟩, List.forall_mem_nil _⟩⟩⟩) .nil pass0)) (pss_cons (ps_set (i := 4) sc_z43.nd rfl (Or.inl rfl) (pe_call (ok_z46 T) (hr.mono (by decide)) rfl T.m_z46 T.f_z46.kp T.b_z46 .nil pass0 (pa_cons (pe_bm PySem.F.plainAttrs_tuple PySem.F.slot_tuple_index PySem.F.type_tuple_index mt_indexT (pe_glob (v := .ref a.t_SORTS) rfl T.c_SORTS rfl) (pa_cons (pe_methV0 (L := [(a.c_Thing, sp_z40 a K), (a.c_PlainThing, sp_z40 a K), (a.c_PairThing, sp_z40 a K)]) (pv 0) (List.forall_mem_cons.mpr ⟨⟨_, _, _, _, T.cl_Thing, T.me_z40, ok_z40 T, hr.mono (by decide), T.b_z40⟩, List.forall_mem_cons.mpr ⟨⟨_, _, _, _, T.cl_PlainThing, T.me_PlainThing_sort_of, ok_z40 T, hr.mono (by decide), T.b_z40⟩, List.forall_mem_cons.mpr ⟨⟨_, _, _, _, T.cl_PairThing, T.me_PairThing_sort_of, ok_z40 T, hr.mono (by decide), T.b_z40⟩, List.forall_mem_nil _⟩⟩⟩) .nil pass0) pa_nil)) (pa_cons (pv 2) (pa_cons (pe_cmpR op_notN (pv 3) pe_non (nomark _)) (pa_cons (pe_call (ok_z61 T) (hr.mono (by decide)) rfl T.m_z61 T.f_z61.kp T.b_z61 .nil pass0 (pa_cons (pv 0) pa_nil)) pa_nil)))))) (pss_cons (ps_set (i := 5) sc_z43.nd rfl (Or.inl rfl) (pe_ifExp (pt_cmpR op_eq (pe_methV0 (L := [(a.c_Thing, sp_z40 a K), (a.c_PlainThing, sp_z40 a K), (a.c_PairThing, sp_z40 a K)]) (pv 0) (List.forall_mem_cons.mpr ⟨⟨_, _, _, _, T.cl_Thing, T.me_z40, ok_z40 T, hr.mono (by decide), T.b_z40⟩, List.forall_mem_cons.mpr ⟨⟨_, _, _, _, T.cl_PlainThing, T.me_PlainThing_sort_of, ok_z40 T, hr.mono (by decide), T.b_z40⟩, List.forall_mem_cons.mpr ⟨⟨_, _, _, _, T.cl_PairThing, T.me_PairThing_sort_of, ok_z40 T, hr.mono (by decide), T.b_z40⟩, List.forall_mem_nil _⟩⟩⟩) .nil pass0) pe_str (nomark _)) (pe_lst (pa_cons (pe_call (ok_z66 T) (hr.mono (by decide)) rfl T.m_z66 T.f_z66.kp T.b_z66 .nil pass0 (pa_cons (pv 3) pa_nil)) pa_nil)) (pe_lst pa_nil))) (pss_one (ps_ret (pe_op op_catS (pe_op op_catS (pe_lst (pa_cons (pv 4) (pa_cons (pv 1) pa_nil))) (pv 5)) (pe_methV0 (L := [(a.c_Thing, sp_z37 a K), (a.c_PlainThing, sp_z37 a K), (a.c_PairThing, sp_z37 a K)]) (pv 0) (List.forall_mem_cons.mpr ⟨⟨_, _, _, _, T.cl_Thing, T.me_z37, ok_z37 T, hr.mono (by decide), T.b_z37⟩, List.forall_mem_cons.mpr ⟨⟨_, _, _, _, T.cl_PlainThing, T.me_PlainThing_fields, ok_z37 T, hr.mono (by decide), T.b_z37⟩, List.forall_mem_cons.mpr ⟨⟨_, _, _, _, T.cl_PairThing, T.me_PairThing_fields, ok_z37 T, hr.mono (by decide), T.b_z37⟩, List.forall_mem_nil _⟩⟩⟩) .nil pass0))))))), ?_⟩
    have f1 := t.no d (n := "words")
    have f2 := t.no d (n := "sort_of")
    have f3 := t.no d (n := "fields")
    dsimp! [h1, HO.ins.injEq, f1, f2, f3]
    refine words_mem t h ?_
    dsimp! [h1, HO.ins.injEq, f2, f3, wV_some]
    have hsz : (t.size : Int) < 10 ^ 60 := by
      have : t.size ≤ 903 := by
        unfold Tg.size
        have := t.f2.2
        omega
      exact Int.lt_of_lt_of_le (b := 1000) (by omega) (by decide)
    refine ⟨.inr (.inl ⟨rfl, T.d_SORTS⟩), _, t.mem _, p, d, t, rfl, h, ["plain", "weak", "pair"], _, rfl, T.q_SORTS H, t.kn, t.ix, t.ixn, p, d, t, rfl, h, fun H1 s1 => ⟨_, _, _, _, rfl, t.k0, by omega, hsz, _, _, _, s1 _ _ h1, f2, _, t.mem _, p, d, t, rfl, h.same s1, ?_⟩⟩
    have hT1 := h.same s1
    have h11 := s1 _ _ h1
    cases t with
    | plain fs w =>
      dsimp! [Tg.sort]
      refine ⟨w, rfl, fun x H2 s2 hx => ⟨by simp [sizeLine_eq], fun l1 hl1 => ⟨by decide, fun l2 hl2 => ?_⟩⟩⟩
      exact cells_end (mid := [x]) rfl rfl hf f3 (h.same (s1.trans s2)) hl1 hl2 (fun y hy => by rw [List.mem_singleton.mp hy]; exact hx) (by simp) fun r cs H' s3 hr3 hr4 hc => q r cs H' ((s1.trans s2).trans s3) ((s1.trans s2).free hr3) hr4 hc
    | weak f =>
      dsimp! [Tg.sort, n_wp]
      refine fun l1 hl1 => ⟨by decide, fun l2 hl2 => ?_⟩
      exact cells_end (mid := []) rfl rfl hf f3 hT1 hl1 hl2 (fun y hy => (nomatch hy)) (by simp) fun r cs H' s3 hr3 hr4 hc => q r cs H' (s1.trans s3) (s1.free hr3) hr4 hc
    | pair k v =>
      dsimp! [Tg.sort, n_pp]
      refine fun l1 hl1 => ⟨by decide, fun l2 hl2 => ?_⟩
      exact cells_end (mid := []) rfl rfl hf f3 hT1 hl1 hl2 (fun y hy => (nomatch hy)) (by simp) fun r cs H' s3 hr3 hr4 hc => q r cs H' (s1.trans s3) (s1.free hr3) hr4 hc
def sp_z13 (a : Adr) : Sp := fun vs H Q _ => ∃ p dx m c, vs = [.ref p, .int (m : Nat), .int (c : Nat)] ∧ H p = some (.ins a.c_Memory dx []) ∧ 0 < m ∧ 0 < c ∧ m * c ≤ 1000 ∧
  ∀ M H', M.p = p → M.m = m → M.c = c → MemAt a H' M (List.replicate (m * c) .non) [] → Keep p H H' → (∀ b, M.own b → H b = none) → H M.lb = none → H M.pr = none → Q .non H'
theorem ok_z13 (T : Txt K mg a) : FnOk P w K mg base CX0 4 a.a_z13 a.d_z13 ["self", "many", "cells"] (sp_z13 a) := by
  refine T.f_z13.ok sc_z13 (fun vs H Q E h => ?_) (fun cdv A outer s H vs Q E hr h => ?_)
  · obtain ⟨_, _, _, _, rfl, _⟩ := h
    rfl
  · obtain ⟨p, dx, m, c, rfl, h1, hm, hc, hmc, q⟩ := h
    refine ⟨_, (pss_cons (ps_fld (pv 0) (pe_make T.mk_Rooms (ok_z33 T) (hr.mono (by decide)) rfl T.mc_Rooms T.b_z33 .nil pass0 (pa_cons (pv 1) (pa_cons (pv 2) pa_nil))) rfl) (pss_one (ps_fld (pv 0) (pe_lc rfl (lcok (x := "room") (ns := []) (fr := []) rfl (by decide +kernel) rfl (by decide +kernel) rfl (List.forall_mem_nil _) rfl rfl (List.forall_mem_nil _) (by decide +kernel)) (pi_range1 rfl T.n_range (pa_cons (pv 1) pa_nil)) (fun _ _ _ _ => pe_dnewK) (fun _ _ _ _ => .nil)) rfl))), ?_⟩
    dsimp! [h1, HO.ins.injEq]
    refine fun x dx2 hx hdx2 ne => ⟨x, dx2, m, c, rfl, upd_same, hm, hc, hmc, fun H2 d R2 k2 hd2 => ?_⟩
    have hm1000 : m ≤ 1000 := Nat.le_trans (Nat.le_mul_of_pos_right m hc) hmc
    have kH : Same H H2 := fun b o e => k2 b o (ne_of_none e hx) (by rw [upd_ne (ne_of_none e hx), upd_ne (ne_of_none e hdx2)]; exact e)
    have hp2 := kH _ _ h1
    have hd0 : H d = none := none_up (none_up hd2)
    refine ⟨rfl, _, _, _, hp2, T.cl_Memory, T.na_Memory_rooms, by decide, by omega, by omega, fun D hD => ?_⟩
    have hDp : D ≠ p := fun z => by rw [z, upd_same] at hD; cases hD
    have kp3 : Keep p H2 (upd H2 p (.ins a.c_Memory dx (putF "rooms" (.ref x) []))) := (Keep.refl p H2).set
    have hp3 : upd H2 p (.ins a.c_Memory dx (putF "rooms" (.ref x) [])) p = some (.ins a.c_Memory dx (putF "rooms" (.ref x) [])) := upd_same
    have n3 : ∀ b, upd H2 p (.ins a.c_Memory dx (putF "rooms" (.ref x) [])) b = none → H b = none := fun b hb => by
      have h0 := none_up hb
      cases e : H b with
      | none => rfl
      | some o =>
        rw [kH b o e] at h0
        cases h0
    generalize upd H2 p (.ins a.c_Memory dx (putF "rooms" (.ref x) [])) = H3 at hD kp3 hp3 n3
    have hdp : d ≠ p := ne_of R2.li hp2 (by intro z; cases z)
    have hxp : x ≠ p := (ne_of_none h1 hx).symm
    have R3 : RoomsAt a.c_Rooms H3 x d m c (List.replicate (m * c) V.non) := by
      obtain ⟨dx5, h5⟩ := R2.ob
      exact ⟨⟨dx5, kp3 _ _ hxp h5⟩, kp3 _ _ hdp R2.li, R2.len, R2.m0, R2.c0, R2.sm⟩
    refine lcr (fun i ys H4 => ∃ bs : List Addr, ys = bs.map V.ref ∧ bs.length = i ∧ bs.Nodup ∧ H4 D = some (.lst ys) ∧ (∀ b ∈ bs, H4 b = some (.dK []) ∧ H3 b = none ∧ b ≠ D) ∧ Same H3 H4)
      ⟨[], rfl, rfl, List.nodup_nil, upd_same, fun b hb => (nomatch hb), Same.put hD⟩ ?_ ?_
    · rintro i m' ys H4 hmm hi ⟨bs, rfl, hbl, hnd, hD4, hb4, k4⟩
      dsimp! [lcSlots]
      refine fun b hb => lcS.mk hmm (by rw [upd_ne (ne_of_none hD4 hb)]; exact hD4) (by rw [List.length_map]; omega) ⟨bs ++ [b], by rw [List.map_append]; rfl, by simp [hbl], ?_, upd_same, fun b' hb' => ?_, ?_⟩
      · refine nd_snoc hnd fun z => ?_
        rw [(hb4 b z).1] at hb
        cases hb
      · have nb : b ≠ D := (ne_of_none hD4 hb).symm
        have h3b : H3 b = none := by
          cases e : H3 b with
          | none => rfl
          | some o =>
            rw [k4 b o e] at hb
            cases hb
        rcases List.mem_append.mp hb' with z | z
        · obtain ⟨z1, z2, z3⟩ := hb4 b' z
          refine ⟨?_, z2, z3⟩
          rw [upd_ne z3, upd_ne (ne_of_none z1 hb)]
          exact z1
        · rw [List.mem_singleton.mp z]
          refine ⟨?_, h3b, nb⟩
          rw [upd_ne nb]
          exact upd_same
      · intro b' o e
        rw [upd_ne (ne_of_none e hD), upd_ne (ne_of_none (k4 b' o e) hb)]
        exact k4 b' o e
    · rintro ys H4 ⟨bs, rfl, hbl, hnd, hD4, hb4, k4⟩
      have hp4 := k4 _ _ hp3
      refine ⟨_, _, _, hp4, T.cl_Memory, T.na_Memory_begins, Nat.lt_of_le_of_lt (length_putF _ _ _) (by decide), ?_⟩
      have kp5 : Keep p H4 (upd H4 p (.ins a.c_Memory dx (putF "begins" (.ref D) (putF "rooms" (.ref x) [])))) := (Keep.refl p H4).set
      refine q ⟨p, x, d, D, bs, m, c⟩ _ rfl rfl rfl ⟨⟨dx, upd_same⟩, ?_, kp5 _ _ hDp hD4, ?_, hbl, fun r b hr2 => ?_, hnd, Lay.nil _ _, Nat.zero_le _⟩ ?_ ?_ (n3 D hD) hx
      · have R4 := R3.same k4
        obtain ⟨dx5, h5⟩ := R4.ob
        exact ⟨⟨dx5, kp5 _ _ hxp h5⟩, kp5 _ _ hdp R4.li, R4.len, R4.m0, R4.c0, R4.sm⟩
      · exact (ne_of_none R3.li hD).symm
      · have hb := hb4 b (List.mem_of_getElem? hr2)
        exact kp5 _ _ (ne_of hb.1 hp4 (by intro z; cases z)) hb.1
      · intro b o hb e
        exact kp5 b o hb (k4 b o (kp3 b o hb (kH b o e)))
      · rintro b (rfl | hb)
        · exact hd0
        · exact n3 b (hb4 b hb).2.1
theorem nodup_at {α : Type} {l : List α} (h : l.Nodup) {i j : Nat} (hi : i < l.length) (hj : j < l.length) (e : l[i] = l[j]) : i = j := by
  rcases Nat.lt_trichotomy i j with q | q | q
  · exact absurd e (List.pairwise_iff_getElem.mp h i j hi hj q)
  · exact q
  · exact absurd e.symm (List.pairwise_iff_getElem.mp h j i hj hi q)
def sp_z11 (a : Adr) : Sp := fun vs H Q _ => ∃ M xs es g l cs, vs = [.ref M.p, .int (g : Nat), .ref l] ∧ MemAt a H M xs es ∧ H l = some (.lst cs) ∧ l ≠ M.d ∧ Fits xs M.c cs.length g ∧ 0 < cs.length ∧ (∀ v ∈ cs, v ≠ .non) ∧ es.length < 1000 ∧
  ∀ H', Kp M.own H H' → MemAt a H' M (setAll xs g cs) (es ++ [(g, cs)]) → Q .non H'
theorem ok_z11 (T : Txt K mg a) : FnOk P w K mg base CX0 2 a.a_z11 a.d_z11 ["self", "place", "some"] (sp_z11 a) := by
  refine T.f_z11.ok sc_z11 (fun vs H Q E h => ?_) (fun cdv A outer s H vs Q E hr h => ?_)
  · obtain ⟨_, _, _, _, _, _, rfl, _⟩ := h
    rfl
  · obtain ⟨M, xs, es, g, l, cs, rfl, hM, hl, nld, hF, hcs, hnn, hes, q⟩ := h
    obtain ⟨dx, h1⟩ := hM.ob
    obtain ⟨dx2, h2⟩ := hM.R.ob
    refine ⟨_, (pss_cons (ps_expr (pe_meth (pe_fld (pv 0) rfl) T.cl_Rooms T.me_z30 (ok_z30 T) (hr.mono (by decide)) T.b_z30 .nil pass0 (pa_cons (pv 1) (pa_cons (pv 2) pa_nil)))) (pss_one (ps_dput (hu_of hr) (pe_ix ix_list (pe_fld (pv 0) rfl) (pe_meth (pe_fld (pv 0) rfl) T.cl_Rooms T.me_z35 (ok_z35 T) (hr.mono (by decide)) T.b_z35 .nil pass0 (pa_cons (pv 1) pa_nil)) (fun _ _ => rfl)) (pv 1) pe_bl rfl))), ?_⟩
    have f1 := flM_no (pr := M.pr) (lb := M.lb) (n := "fill_in")
    dsimp! [h1, h2, HO.ins.injEq, T.cl_Memory, T.na_Memory_rooms, flM_rooms, fl_fill_in]
    have hR := hM.R
    have hdl := hR.li
    refine ⟨M.pr, M.d, M.m, M.c, xs, g, l, cs, rfl, hR, hl, nld, hF.1, fun H1 k1 hd1 => ?_⟩
    have npd : M.p ≠ M.d := ne_of h1 hdl (by intro z; cases z)
    have h1' := k1 _ _ npd h1
    have h2' := k1 _ _ hR.ne h2
    have R1 := hR.keep k1 hd1 (setAll_length cs xs g)
    have hlb := k1 _ _ hM.nl hM.li
    have hroom : g / M.c < M.m := by
      rw [Nat.div_lt_iff_lt_mul hR.c0, ← hR.len]
      have := hF.1
      omega
    have hbs : g / M.c < M.bs.length := by rw [hM.bl]; exact hroom
    have hgb : M.bs[g / M.c]? = some M.bs[g / M.c] := List.getElem?_eq_getElem hbs
    have hbd := hM.bd _ _ hgb
    have nbd : M.bs[g / M.c] ≠ M.d := ne_of hbd hdl (by intro z; cases z)
    have hbd1 := k1 _ _ nbd hbd
    refine ⟨_, _, _, h1', T.cl_Memory, T.na_Memory_begins, _, flM_begins _ _, _, _, _, h1', T.cl_Memory, T.na_Memory_rooms, _, flM_rooms _ _, _, rfl, _, _, h2', fl_room_of _ _ _, M.pr, M.d, M.m, M.c, setAll xs g cs, g, rfl, R1, ?_⟩
    have hno : valV (begK es M.c (g / M.c)) (Sum.inl (g : Int)) = none := begK_no fun ⟨b, hb, e1, _⟩ => by
      have h3 := hM.lay.apart hb hF.2.2 hcs
      have h4 := (hM.lay.one b hb).1
      omega
    refine ⟨M.lb, _, _, .ref M.bs[g / M.c], rfl, rfl, SqL.of hlb, atI_nat (by rw [List.getElem?_map, hgb]; rfl), _, rfl, _, DPut.k (k := Sum.inl (g : Int)) hbd1 (small1000 (Nat.le_trans begK_len (Nat.le_of_lt hes))), ?_⟩
    rw [putK_new _ hno]
    refine q _ ?_ ⟨⟨dx, ?_⟩, ?_, ?_, hM.nl, hM.bl, fun r b hb => ?_, hM.bi, hM.lay.put hF hcs hnn, by simp; omega⟩
    · exact (Keep.kp k1 (.inl rfl)).set (.inr (List.getElem_mem hbs))
    · rw [upd_ne (ne_of h1' hbd1 (by intro z; cases z))]
      exact h1'
    · exact ⟨⟨dx2, by rw [upd_ne (ne_of h2' hbd1 (by intro z; cases z))]; exact h2'⟩, by rw [upd_ne nbd.symm]; exact hd1, R1.len, R1.m0, R1.c0, R1.sm⟩
    · rw [upd_ne (ne_of hlb hbd1 (by intro z; cases z))]
      exact hlb
    · rw [begK_add]
      by_cases hr2 : g / M.c = r
      · subst hr2
        rw [hgb] at hb
        cases hb
        rw [if_pos rfl, upd_same]
      · have hrl := (List.getElem?_eq_some_iff.mp hb).1
        have hrb := (List.getElem?_eq_some_iff.mp hb).2
        have nb : b ≠ M.bs[g / M.c] := fun z => by
          rw [← hrb] at z
          exact hr2 (nodup_at hM.bi hrl hbs z).symm
        have h5 := hM.bd r b hb
        rw [if_neg hr2, upd_ne nb]
        exact k1 _ _ (ne_of h5 hdl (by intro z; cases z)) h5
def sp_z17 (a : Adr) (K : PySem.W.Frag) : Sp := fun vs H Q _ => ∃ M xs es p d t ser mk, vs = [.ref M.p, .ref p, .int ser, .bl mk] ∧ MemAt a H M xs es ∧ ThAt a K H p d t ∧ t.fs.length ≤ 900 ∧ es.length < 1000 ∧
  (∀ g cs H', IsGap xs M.c t.size (some g) → Kp M.own H H' → MemAt a H' M (setAll xs g cs) (es ++ [(g, cs)]) → Cells K H' cs (⟨t, ser, mk⟩ : En) → Q (.int (g : Nat)) H') ∧ (∀ H', IsGap xs M.c t.size none → Same H H' → Q .non H')
theorem ok_z17 (T : Txt K mg a) : FnOk P w K mg base CX0 5 a.a_z17 a.d_z17 ["self", "thing", "serial", "marked"] (sp_z17 a K) := by
  refine T.f_z17.ok sc_z17 (fun vs H Q E h => ?_) (fun cdv A outer s H vs Q E hr h => ?_)
  · obtain ⟨_, _, _, _, _, _, _, _, rfl, _⟩ := h
    rfl
  · obtain ⟨M, xs, es, p, d, t, ser, mk, rfl, hM, hT, hf, hes, q1, q2⟩ := h
    obtain ⟨dx, h1⟩ := hM.ob
    obtain ⟨dx2, h2⟩ := hM.R.ob
    refine ⟨_, (pss_cons (ps_set (i := 4) sc_z17.nd rfl (Or.inl rfl) (pe_meth (pe_fld (pv 0) rfl) T.cl_Rooms T.me_z31 (ok_z31 T) (hr.mono (by decide)) T.b_z31 .nil pass0 (pa_cons (pe_call (ok_z61 T) (hr.mono (by decide)) rfl T.m_z61 T.f_z61.kp T.b_z61 .nil pass0 (pa_cons (pv 1) pa_nil)) pa_nil))) (pss_cons (ps_if (pt_cmpR op_notN (pv 4) pe_non (nomark _)) (pss_one (ps_expr (pe_meth (pv 0) T.cl_Memory T.me_z11 (ok_z11 T) (hr.mono (by decide)) T.b_z11 .nil pass0 (pa_cons (pv 4) (pa_cons (pe_call (ok_z43 T) (hr.mono (by decide)) rfl T.m_z43 T.f_z43.kp T.b_z43 .nil pass0 (pa_cons (pv 1) (pa_cons (pv 2) (pa_cons (pv 3) pa_nil)))) pa_nil))))) pss_nil) (pss_one (ps_ret (pv 4))))), ?_⟩
    dsimp! [h1, h2, HO.ins.injEq, T.cl_Memory, T.na_Memory_rooms, flM_rooms, fl_gap]
    have hpos : 0 < t.size := by
      unfold Tg.size
      have := t.f2.1
      omega
    refine ⟨p, d, t, rfl, hT, fun H1 s1 => ?_⟩
    have hM1 := hM.same s1
    refine ⟨M.pr, M.d, M.m, M.c, xs, t.size, rfl, hM1.R, hpos, fun r hg => ?_⟩
    cases r with
    | none =>
      dsimp! [optV]
      exact q2 H1 hg s1
    | some g =>
      dsimp! [optV]
      refine ⟨_, _, s1 _ _ h1, flM_no, p, d, t, ser, mk, rfl, hT.same s1, hf, fun r cs H2 s2 hr2 hr2' hc => ?_⟩
      have hM2 := hM1.same s2
      have hl := hc.len
      refine ⟨M, xs, es, g, r, cs, rfl, hM2, hr2', ?_, by rw [hl]; exact hg.1, hc.pos, hc.nn, hes, fun H3 k3 hM3 => ?_⟩
      · exact (ne_of_none hM1.R.li hr2).symm
      · exact q1 g cs H3 hg ((Same.kp (s1.trans s2)).trans k3) hM3 (hc.kp k3 hM2.mu)
def sp_z12 (a : Adr) : Sp := fun vs H Q _ => ∃ M xs es i v, vs = [.ref M.p, .int (i : Nat)] ∧ MemAt a H M xs es ∧ xs[i]? = some v ∧ Q v H
theorem ok_z12 (T : Txt K mg a) : FnOk P w K mg base CX0 2 a.a_z12 a.d_z12 ["self", "place"] (sp_z12 a) := by
  refine T.f_z12.ok sc_z12 (fun vs H Q E h => ?_) (fun cdv A outer s H vs Q E hr h => ?_)
  · obtain ⟨_, _, _, _, _, rfl, _⟩ := h
    rfl
  · obtain ⟨M, xs, es, i, v, rfl, hM, hv, q⟩ := h
    obtain ⟨dx, h1⟩ := hM.ob
    obtain ⟨dx2, h2⟩ := hM.R.ob
    refine ⟨_, (pss_one (ps_ret (pe_meth (pe_fld (pv 0) rfl) T.cl_Rooms T.me_z34 (ok_z34 T) (hr.mono (by decide)) T.b_z34 .nil pass0 (pa_cons (pv 1) pa_nil)))), ?_⟩
    dsimp! [h1, h2, HO.ins.injEq, T.cl_Memory, T.na_Memory_rooms, flM_rooms, fl_read]
    exact ⟨M.pr, M.d, M.m, M.c, xs, i, v, rfl, hM.R, hv, q⟩
structure There (a : Adr) (K : PySem.W.Frag) (H : Hp) (M : MA) (xs : List V) (es : List (Nat × List V)) (pl : Nat) (e : En) : Prop where
  mem : MemAt a H M xs es
  has : ∃ cs, (pl, cs) ∈ es ∧ Cells K H cs e
theorem There.head {H : Hp} {M : MA} {xs : List V} {es : List (Nat × List V)} {pl : Nat} {e : En} (h : There a K H M xs es pl e) : xs[pl]? = some (.int (hd e.t.kind e.mkd e.t.words.isSome (e.t.size : Nat))) := by
  obtain ⟨cs, h1, h2⟩ := h.has
  obtain ⟨mid, fx, rfl, _⟩ := h2.ex
  exact (h.mem.lay.at_ _ h1 0 _ rfl).2
theorem There.serial {H : Hp} {M : MA} {xs : List V} {es : List (Nat × List V)} {pl : Nat} {e : En} (h : There a K H M xs es pl e) : xs[pl + 1]? = some (.int e.ser) := by
  obtain ⟨cs, h1, h2⟩ := h.has
  obtain ⟨mid, fx, rfl, _⟩ := h2.ex
  exact (h.mem.lay.at_ _ h1 1 _ rfl).2
theorem There.words {H : Hp} {M : MA} {xs : List V} {es : List (Nat × List V)} {pl : Nat} {e : En} (h : There a K H M xs es pl e) (hp : e.t.first = 3) : ∃ x, xs[pl + 2]? = some x ∧ IsVl K H x (wVl e.t.words) := by
  obtain ⟨cs, h1, h2⟩ := h.has
  obtain ⟨mid, fx, rfl, _, h3, h4⟩ := h2.ex
  cases mid with
  | nil => simp at h3; omega
  | cons x r => exact ⟨x, (h.mem.lay.at_ _ h1 2 x rfl).2, h4 x List.mem_cons_self⟩
theorem There.field {H : Hp} {M : MA} {xs : List V} {es : List (Nat × List V)} {pl : Nat} {e : En} (h : There a K H M xs es pl e) {i : Nat} (hi : i < e.t.fs.length) : ∃ x, xs[pl + e.t.first + i]? = some x ∧ IsVl K H x e.t.fs[i] := by
  obtain ⟨cs, h1, h2⟩ := h.has
  obtain ⟨mid, fx, rfl, hv, h3, h4⟩ := h2.ex
  have hl : i < fx.length := by
    have := hv.1
    omega
  refine ⟨fx[i], ?_, hv.2 i _ _ (List.getElem?_eq_getElem hl) (List.getElem?_eq_getElem hi)⟩
  have := (h.mem.lay.at_ _ h1 (e.t.first + i) fx[i] ?_).2
  · rw [Nat.add_assoc]
    exact this
  · show (V.int _ :: V.int _ :: (mid ++ fx))[e.t.first + i]? = _
    rw [show e.t.first + i = mid.length + i + 1 + 1 by omega, List.getElem?_cons_succ, List.getElem?_cons_succ, List.getElem?_append_right (by omega)]
    rw [show mid.length + i - mid.length = i by omega]
    exact List.getElem?_eq_getElem hl
theorem There.same {H H' : Hp} {M : MA} {xs : List V} {es : List (Nat × List V)} {pl : Nat} {e : En} (h : There a K H M xs es pl e) (k : Same H H') : There a K H' M xs es pl e := by
  obtain ⟨cs, h1, h2⟩ := h.has
  exact ⟨h.mem.same k, cs, h1, h2.same k⟩
theorem There.room {H : Hp} {M : MA} {xs : List V} {es : List (Nat × List V)} {pl : Nat} {e : En} (h : There a K H M xs es pl e) : pl / M.c < M.m := by
  obtain ⟨cs, h1, h2⟩ := h.has
  have h3 := h.mem.lay.le h1
  have h4 := h2.pos
  rw [h.mem.R.len] at h3
  rw [Nat.div_lt_iff_lt_mul h.mem.R.c0]
  dsimp only at h3
  omega
def sp_z18 (a : Adr) (K : PySem.W.Frag) : Sp := fun vs H Q _ => ∃ M xs es pl e, vs = [.ref M.p, .int (pl : Nat)] ∧ There a K H M xs es pl e ∧ Q (.int e.ser) H
theorem ok_z18 (T : Txt K mg a) : FnOk P w K mg base CX0 2 a.a_z18 a.d_z18 ["self", "place"] (sp_z18 a K) := by
  refine T.f_z18.ok sc_z18 (fun vs H Q E h => ?_) (fun cdv A outer s H vs Q E hr h => ?_)
  · obtain ⟨_, _, _, _, _, rfl, _⟩ := h
    rfl
  · obtain ⟨M, xs, es, pl, e, rfl, h, q⟩ := h
    obtain ⟨dx, h1⟩ := h.mem.ob
    obtain ⟨dx2, h2⟩ := h.mem.R.ob
    refine ⟨_, (pss_one (ps_ret (pe_meth (pe_fld (pv 0) rfl) T.cl_Rooms T.me_z34 (ok_z34 T) (hr.mono (by decide)) T.b_z34 .nil pass0 (pa_cons (pe_op op_add (pv 1) (pe_glob (v := .int 1) rfl T.c_SERIAL_AT ⟨_, rfl⟩)) pa_nil)))), ?_⟩
    dsimp! [h1, h2, HO.ins.injEq, T.cl_Memory, T.na_Memory_rooms, flM_rooms, fl_read]
    exact ⟨M.pr, M.d, M.m, M.c, xs, pl + 1, _, by simp, h.mem.R, h.serial, q⟩
def sp_z21 (a : Adr) (K : PySem.W.Frag) : Sp := fun vs H Q _ => ∃ M xs es pl e, vs = [.ref M.p, .int (pl : Nat)] ∧ There a K H M xs es pl e ∧ Q (.int (e.t.size : Nat)) H
theorem ok_z21 (T : Txt K mg a) : FnOk P w K mg base CX0 3 a.a_z21 a.d_z21 ["self", "place"] (sp_z21 a K) := by
  refine T.f_z21.ok sc_z21 (fun vs H Q E h => ?_) (fun cdv A outer s H vs Q E hr h => ?_)
  · obtain ⟨_, _, _, _, _, rfl, _⟩ := h
    rfl
  · obtain ⟨M, xs, es, pl, e, rfl, h, q⟩ := h
    obtain ⟨dx, h1⟩ := h.mem.ob
    refine ⟨_, (pss_one (ps_ret (pe_call (ok_z60 T) (hr.mono (by decide)) rfl T.m_z60 T.f_z60.kp T.b_z60 .nil pass0 (pa_cons (by exact (pe_meth (pv 0) T.cl_Memory T.me_z12 (ok_z12 T) (hr.mono (by decide)) T.b_z12 .nil pass0 (pa_cons (pv 1) pa_nil))) pa_nil)))), ?_⟩
    have f1 := flM_no (pr := M.pr) (lb := M.lb) (n := "head_at")
    dsimp! [h1, HO.ins.injEq, f1]
    refine ⟨M, xs, es, pl, _, rfl, h.mem, h.head, _, rfl, ?_⟩
    rw [hd_size e.t.k0.1 e.t.k0.2]
    exact q
def sp_z22 (a : Adr) (K : PySem.W.Frag) : Sp := fun vs H Q _ => ∃ M xs es pl e, vs = [.ref M.p, .int (pl : Nat)] ∧ There a K H M xs es pl e ∧ Q (.str e.t.sort) H
theorem ok_z22 (T : Txt K mg a) : FnOk P w K mg base CX0 3 a.a_z22 a.d_z22 ["self", "place"] (sp_z22 a K) := by
  refine T.f_z22.ok sc_z22 (fun vs H Q E h => ?_) (fun cdv A outer s H vs Q E hr h => ?_)
  · obtain ⟨_, _, _, _, _, rfl, _⟩ := h
    rfl
  · obtain ⟨M, xs, es, pl, e, rfl, h, q⟩ := h
    obtain ⟨dx, h1⟩ := h.mem.ob
    refine ⟨_, (pss_one (ps_ret (pe_ix ix_tup (pe_glob (v := .ref a.t_SORTS) rfl T.c_SORTS rfl) (pe_call (ok_z49 T) (hr.mono (by decide)) rfl T.m_z49 T.f_z49.kp T.b_z49 .nil pass0 (pa_cons (by exact (pe_meth (pv 0) T.cl_Memory T.me_z12 (ok_z12 T) (hr.mono (by decide)) T.b_z12 .nil pass0 (pa_cons (pv 1) pa_nil))) pa_nil)) (fun _ _ => rfl)))), ?_⟩
    have f1 := flM_no (pr := M.pr) (lb := M.lb) (n := "head_at")
    dsimp! [h1, HO.ins.injEq, f1]
    refine ⟨M, xs, es, pl, _, rfl, h.mem, h.head, _, rfl, ?_⟩
    rw [hd_kind e.t.k0.1 e.t.k0.2]
    refine ⟨_, _, _, .str e.t.sort, rfl, rfl, T.q_SORTS H, ?_, q⟩
    cases e.t <;> rfl
def sp_z24 (a : Adr) (K : PySem.W.Frag) : Sp := fun vs H Q _ => ∃ M xs es pl e, vs = [.ref M.p, .int (pl : Nat)] ∧ There a K H M xs es pl e ∧ e.t.first = 3 ∧ Q (wV e.t.words) H
theorem ok_z24 (T : Txt K mg a) : FnOk P w K mg base CX0 3 a.a_z24 a.d_z24 ["self", "place"] (sp_z24 a K) := by
  refine T.f_z24.ok sc_z24 (fun vs H Q E h => ?_) (fun cdv A outer s H vs Q E hr h => ?_)
  · obtain ⟨_, _, _, _, _, rfl, _⟩ := h
    rfl
  · obtain ⟨M, xs, es, pl, e, rfl, h, h3, q⟩ := h
    obtain ⟨dx, h1⟩ := h.mem.ob
    obtain ⟨dx2, h2⟩ := h.mem.R.ob
    refine ⟨_, (pss_one (ps_ret (pe_ifExp (pt_val (pe_call (ok_z45 T) (hr.mono (by decide)) rfl T.m_z45 T.f_z45.kp T.b_z45 .nil pass0 (pa_cons (by exact (pe_meth (pv 0) T.cl_Memory T.me_z12 (ok_z12 T) (hr.mono (by decide)) T.b_z12 .nil pass0 (pa_cons (pv 1) pa_nil))) pa_nil))) (pe_ix ix_tup (pe_meth (pe_fld (pv 0) rfl) T.cl_Rooms T.me_z34 (ok_z34 T) (hr.mono (by decide)) T.b_z34 .nil pass0 (pa_cons (pe_op op_add (pv 1) (pe_glob (v := .int 2) rfl T.c_WORDS_AT ⟨_, rfl⟩)) pa_nil)) pe_int (fun _ _ => rfl)) pe_non))), ?_⟩
    have f1 := flM_no (pr := M.pr) (lb := M.lb) (n := "head_at")
    dsimp! [h1, h2, HO.ins.injEq, f1, T.cl_Memory, T.na_Memory_rooms, flM_rooms, fl_read]
    refine ⟨M, xs, es, pl, _, rfl, h.mem, h.head, _, rfl, ?_⟩
    rw [hd_words e.t.k0.1 e.t.k0.2]
    obtain ⟨x, hx, t, rfl, ht⟩ := h.words h3
    cases ew : e.t.words with
    | none =>
      rw [ew] at q
      refine ⟨_, rfl, iteF q⟩
    | some n =>
      rw [ew] at q ht
      refine ⟨_, rfl, iteT ⟨_, _, _, h1, T.cl_Memory, T.na_Memory_rooms, _, flM_rooms _ _, _, rfl, _, _, h2, fl_read _ _ _, M.pr, M.d, M.m, M.c, xs, pl + 2, _, by simp, h.mem.R, hx, t, _, _, _, rfl, rfl, ht, rfl, q⟩⟩
def sp_z14 (a : Adr) (K : PySem.W.Frag) : Sp := fun vs H Q _ => ∃ M xs es pl e, vs = [.ref M.p, .int (pl : Nat)] ∧ There a K H M xs es pl e ∧ Q (.bl e.mkd) H
theorem ok_z14 (T : Txt K mg a) : FnOk P w K mg base CX0 3 a.a_z14 a.d_z14 ["self", "place"] (sp_z14 a K) := by
  refine T.f_z14.ok sc_z14 (fun vs H Q E h => ?_) (fun cdv A outer s H vs Q E hr h => ?_)
  · obtain ⟨_, _, _, _, _, rfl, _⟩ := h
    rfl
  · obtain ⟨M, xs, es, pl, e, rfl, h, q⟩ := h
    obtain ⟨dx, h1⟩ := h.mem.ob
    obtain ⟨dx2, h2⟩ := h.mem.R.ob
    refine ⟨_, (pss_one (ps_ret (pe_and (pe_cmp (pc_din (hu_of hr) (pv 1) (pe_ix ix_list (pe_fld (pv 0) rfl) (pe_meth (pe_fld (pv 0) rfl) T.cl_Rooms T.me_z35 (ok_z35 T) (hr.mono (by decide)) T.b_z35 .nil pass0 (pa_cons (pv 1) pa_nil)) (fun _ _ => rfl)))) (pe_one (pe_call (ok_z47 T) (hr.mono (by decide)) rfl T.m_z47 T.f_z47.kp T.b_z47 .nil pass0 (pa_cons (by exact (pe_meth (pv 0) T.cl_Memory T.me_z12 (ok_z12 T) (hr.mono (by decide)) T.b_z12 .nil pass0 (pa_cons (pv 1) pa_nil))) pa_nil)))))), ?_⟩
    have f1 := flM_no (pr := M.pr) (lb := M.lb) (n := "head_at")
    dsimp! [h1, h2, HO.ins.injEq, f1, T.cl_Memory, T.na_Memory_rooms, T.na_Memory_begins, flM_rooms, flM_begins, fl_room_of]
    obtain ⟨cs, hcs, hc⟩ := h.has
    have hroom := h.room
    have hbs : pl / M.c < M.bs.length := by rw [h.mem.bl]; exact hroom
    have hgb : M.bs[pl / M.c]? = some M.bs[pl / M.c] := List.getElem?_eq_getElem hbs
    have hin : (valV (begK es M.c (pl / M.c)) (Sum.inl (pl : Int))).isSome = true := begK_has.mpr ⟨(pl, cs), hcs, rfl, rfl⟩
    refine ⟨M.pr, M.d, M.m, M.c, xs, pl, rfl, h.mem.R, M.lb, _, _, .ref M.bs[pl / M.c], rfl, rfl, SqL.of h.mem.li, atI_nat (by rw [List.getElem?_map, hgb]; rfl), _, rfl, _, DGet.k (k := Sum.inl (pl : Int)) (h.mem.bd _ _ hgb), ?_⟩
    rw [hin]
    refine iteT ⟨_, _, h1, f1, M, xs, es, pl, _, rfl, h.mem, h.head, _, rfl, ?_⟩
    rw [hd_mark e.t.k0.1 e.t.k0.2]
    exact q
def sp_z23 (a : Adr) (K : PySem.W.Frag) : Sp := fun vs H Q _ => ∃ M xs es pl e, vs = [.ref M.p, .int (pl : Nat)] ∧ There a K H M xs es pl e ∧ ∀ p d H', Same H H' → H p = none → H d = none → ThAt a K H' p d e.t → Q (.ref p) H'
theorem ok_z23 (T : Txt K mg a) : FnOk P w K mg base CX0 10 a.a_z23 a.d_z23 ["self", "place"] (sp_z23 a K) := by
  refine T.f_z23.ok sc_z23 (fun vs H Q E h => ?_) (fun cdv A outer s H vs Q E hr h => ?_)
  · obtain ⟨_, _, _, _, _, rfl, _⟩ := h
    rfl
  · obtain ⟨M, xs, es, pl, e, rfl, h, q⟩ := h
    obtain ⟨dx, h1⟩ := h.mem.ob
    refine ⟨_, (pss_cons (ps_set (i := 2) sc_z23.nd rfl (Or.inl rfl) (pe_meth (pv 0) T.cl_Memory T.me_z22 (ok_z22 T) (hr.mono (by decide)) T.b_z22 .nil pass0 (pa_cons (pv 1) pa_nil))) (pss_cons (ps_lc (j := 3) rfl sc_z23.nd rfl rfl (lcok (x := "at") (ns := ["self"]) (fr := [0]) rfl (by decide +kernel) rfl (by decide +kernel) rfl (List.forall_mem_cons.mpr ⟨rfl, List.forall_mem_nil _⟩) rfl rfl (List.forall_mem_cons.mpr ⟨⟨rfl, rfl, .inl rfl⟩, List.forall_mem_nil _⟩) (by decide +kernel)) (pi_range2 rfl T.n_range (pa_cons (pe_op op_add (pv 1) (pe_call (ok_z44 T) (hr.mono (by decide)) rfl T.m_z44 T.f_z44.kp T.b_z44 .nil pass0 (pa_cons (pv 2) pa_nil))) (pa_cons (pe_op op_add (pv 1) (pe_meth (pv 0) T.cl_Memory T.me_z21 (ok_z21 T) (hr.mono (by decide)) T.b_z21 .nil pass0 (pa_cons (pv 1) pa_nil))) pa_nil))) (fun _ _ _ _ => (pe_meth (pe_fldC (K := K) rfl (pv 1) rfl) T.cl_Rooms T.me_z34 (ok_z34 T) (hr.mono (by decide)) T.b_z34 .nil pass0 (pa_cons (pv 0) pa_nil))) (fun _ _ _ _ => .nil)) (pss_cons (ps_if (pt_cmpR op_eq (pv 2) pe_str (nomark _)) (pss_one (ps_ret (pe_call (ok_z59 T) (hr.mono (by decide)) rfl T.m_z59 T.f_z59.kp T.b_z59 .nil pass0 (pa_cons (pv 3) (pa_cons (by exact (pe_meth (pv 0) T.cl_Memory T.me_z24 (ok_z24 T) (hr.mono (by decide)) T.b_z24 .nil pass0 (pa_cons (pv 1) pa_nil))) pa_nil))))) pss_nil) (pss_one (ps_ret (pe_ifExp (pt_cmpR op_eq (pv 2) pe_str (nomark _)) (pe_call (ok_z62 T) (hr.mono (by decide)) rfl T.m_z62 T.f_z62.kp T.b_z62 .nil pass0 (pa_cons (pe_ix ix_list (pv 3) pe_int (fun _ _ => rfl)) pa_nil)) (pe_call (ok_z58 T) (hr.mono (by decide)) rfl T.m_z58 T.f_z58.kp T.b_z58 .nil pass0 (pa_cons (pe_ix ix_list (pv 3) pe_int (fun _ _ => rfl)) (pa_cons (pe_ix ix_list (pv 3) pe_int (fun _ _ => rfl)) pa_nil))))))))), ?_⟩
    have f1 := flM_no (pr := M.pr) (lb := M.lb) (n := "sort_at")
    have f2 := flM_no (pr := M.pr) (lb := M.lb) (n := "size_at")
    dsimp! [h1, HO.ins.injEq, f1, f2]
    have hsz : e.t.size ≤ 1000 := by
      obtain ⟨cs, hcs, hc⟩ := h.has
      have h3 := h.mem.lay.le hcs
      have h4 := h.mem.R.sm
      rw [h.mem.R.len, hc.len] at h3
      dsimp only at h3
      omega
    have hpl : pl ≤ 1000 := by
      obtain ⟨cs, hcs, hc⟩ := h.has
      have h3 := h.mem.lay.le hcs
      have h4 := h.mem.R.sm
      rw [h.mem.R.len] at h3
      dsimp only at h3
      omega
    have hf2 := e.t.f2
    have esz : e.t.size = e.t.first + e.t.fs.length := rfl
    refine ⟨M, xs, es, pl, e, rfl, h, e.t, rfl, _, rfl, _, _, h1, f2, M, xs, es, pl, e, rfl, h, _, rfl, by omega, by omega, by omega, by omega, fun D hD => ?_⟩
    rw [show ((pl : Int) + (e.t.size : Int) - ((pl : Int) + (e.t.first : Int))).toNat = e.t.fs.length by omega]
    refine lcr (fun i ys H4 => Same H H4 ∧ H4 D = some (.lst ys) ∧ ys.length = i ∧ ∀ (j : Nat) x v, ys[j]? = some x → e.t.fs[j]? = some v → IsVl K H4 x v) ⟨Same.put hD, upd_same, rfl, fun j x v h => by simp at h⟩ ?_ ?_
    · rintro i m' ys H4 hmm hi ⟨k4, hD4, hy4, ok4⟩
      have h4 := h.same k4
      have h14 := k4 _ _ h1
      obtain ⟨dx5, h5⟩ := h4.mem.R.ob
      obtain ⟨x, hx, hv⟩ := h4.field hi
      dsimp! [lcSlots, Option.join_some, h14, h5, HO.ins.injEq, T.cl_Memory, T.na_Memory_rooms, flM_rooms, fl_read]
      refine ⟨M.pr, M.d, M.m, M.c, xs, pl + e.t.first + i, x, ?_, h4.mem.R, hx, lcS.mk hmm hD4 (by omega) ⟨?_, upd_same, by simp [hy4], fun j y v hj hv2 => ?_⟩⟩
      · simp
      · intro b o e2
        rw [upd_ne (ne_of_none e2 hD)]
        exact k4 b o e2
      · have kD : Kp (· = D) H4 (upd H4 D (.lst (ys ++ [x]))) := (Kp.refl _ _).set rfl
        have mu : ∀ b, b = D → Mu H4 b := fun b e => .inl ⟨ys, by rw [e]; exact hD4⟩
        by_cases hjl : j < ys.length
        · rw [List.getElem?_append_left hjl] at hj
          exact (ok4 j y v hj hv2).kp kD mu
        · have ej : j = ys.length := by
            have := (List.getElem?_eq_some_iff.mp hj).1
            simp at this
            omega
          subst ej
          rw [List.getElem?_append_right (Nat.le_refl _), Nat.sub_self] at hj
          cases hj
          have ev : e.t.fs[i] = v := by
            rw [hy4, List.getElem?_eq_getElem hi] at hv2
            exact Option.some.inj hv2
          rw [← ev]
          exact hv.kp kD mu
    · rintro ys H4 ⟨k4, hD4, hy4, ok4⟩
      have vl : VlL K H4 ys e.t.fs := ⟨hy4.symm, ok4⟩
      have h4 := h.same k4
      have h14 := k4 _ _ h1
      have hys : ys.length ≤ 1000 := by omega
      cases et : e.t with
      | plain fs w =>
        rw [et] at vl
        dsimp! [Tg.sort, h14, HO.ins.injEq]
        refine ⟨flM_no, M, xs, es, pl, e, rfl, h4, by rw [et]; rfl, D, ys, fs, e.t.words, rfl, SqL.of hD4, vl, hys, fun p d H' s5 hp hd hT => q p d H' (k4.trans s5) (k4.free hp) (k4.free hd) ?_⟩
        rw [et] at hT ⊢
        exact hT
      | weak f =>
        rw [et] at vl
        dsimp! [Tg.sort, n_wp]
        have hl1 : 0 < ys.length := by rw [← vl.1]; show 0 < 1; decide
        have g0 : ys[0]? = some ys[0] := List.getElem?_eq_getElem hl1
        refine ⟨D, ys, _, ys[0], rfl, rfl, SqL.of hD4, atI_nat (j := 0) g0, _, f, rfl, vl.2 0 _ _ g0 rfl, fun p d H' s5 hp hd hT => q p d H' (k4.trans s5) (k4.free hp) (k4.free hd) ?_⟩
        rw [et]
        exact hT
      | pair k v =>
        rw [et] at vl
        dsimp! [Tg.sort, n_pp, n_pw]
        have hl2 : 1 < ys.length := by rw [← vl.1]; show 1 < 2; decide
        have g0 : ys[0]? = some ys[0] := List.getElem?_eq_getElem (by omega)
        have g1 : ys[1]? = some ys[1] := List.getElem?_eq_getElem hl2
        refine ⟨D, ys, _, ys[0], rfl, rfl, SqL.of hD4, atI_nat (j := 0) g0, D, ys, _, ys[1], rfl, rfl, SqL.of hD4, atI_nat (j := 1) g1, _, _, k, v, rfl, vl.2 0 _ _ g0 rfl, vl.2 1 _ _ g1 rfl, fun p d H' s5 hp hd hT => q p d H' (k4.trans s5) (k4.free hp) (k4.free hd) ?_⟩
        rw [et]
        exact hT
def sp_z51 (K : PySem.W.Frag) : Sp := fun vs H Q _ => ∃ (p : Addr) (ns : List Int) (k : Int), vs = [.ref p, .int k] ∧ SqL K H p (ns.map V.int) ∧ 0 ≤ k ∧ ∀ z, Q (.int z) H
theorem ok_z51 (T : Txt K mg a) : FnOk P w K mg base CX0 1 a.a_z51 a.d_z51 ["_law_script", "_law_k"] (sp_z51 K) := by
  refine T.f_z51.ok sc_z51 (fun vs H Q E h => ?_) (fun cdv A outer s H vs Q E hr h => ?_)
  · obtain ⟨_, _, _, rfl, _⟩ := h
    rfl
  · obtain ⟨p, ns, k, rfl, hS, hk, q⟩ := h
    refine ⟨_, (pss_cons (ps_if (pt_cmpR op_lt (pv 1) (pe_callB call_len_seq rfl T.n_len bt_len (pa_cons (pv 0) pa_nil)) (nomark _)) (pss_one (ps_ret (pe_ix ix_list (pv 0) (pv 1) (fun _ _ => rfl)))) pss_nil) (pss_one (ps_ret pe_int))), ?_⟩
    dsimp! []
    refine ⟨_, .inl hS, ite2 (fun h => ?_) fun _ => q 0⟩
    have hlt : k.toNat < ns.length := by
      have := of_decide_eq_true h
      rw [List.length_map] at this
      omega
    have e : k = ((k.toNat : Nat) : Int) := by omega
    have hx : (ns.map V.int)[k.toNat]? = some (V.int ns[k.toNat]) := by simp [hlt]
    exact ⟨p, _, k, _, rfl, rfl, hS, (congrArg (atI _) e).trans (atI_nat hx), q _⟩
def repl (es : List (Nat × List V)) (pl : Nat) (cs : List V) : List (Nat × List V) := es.map fun b => if b.1 = pl then (pl, cs) else b
theorem begK_repl (es : List (Nat × List V)) (pl c r : Nat) (cs : List V) : begK (repl es pl cs) c r = begK es c r := by
  unfold begK repl
  rw [List.filter_map, List.map_map]
  have e : (fun b : Nat × List V => decide (b.1 / c = r)) ∘ (fun b => if b.1 = pl then (pl, cs) else b) = fun b => decide (b.1 / c = r) := by
    funext b
    show decide ((if b.1 = pl then (pl, cs) else b).1 / c = r) = decide (b.1 / c = r)
    split
    · rename_i h
      rw [h]
    · rfl
  rw [e]
  refine List.map_congr_left fun b _ => ?_
  show ((Sum.inl (((if b.1 = pl then (pl, cs) else b).1 : Nat) : Int) : Key), V.bl true) = _
  split
  · rename_i h
    rw [h]
  · rfl
theorem Lay.write {xs : List V} {c : Nat} {es : List (Nat × List V)} (L : Lay xs c es) {pl : Nat} {cs : List V} (hb : (pl, cs) ∈ es) {i : Nat} {v : V} (hi : i < cs.length) (hv : v ≠ .non) : Lay (xs.set (pl + i) v) c (repl es pl (cs.set i v)) := by
  have h := L.set hb (i := i) (v := v) hi hv
  have e : (es.map fun d => if d.1 = pl then (d.1, d.2.set i v) else d) = repl es pl (cs.set i v) := by
    unfold repl
    refine List.map_congr_left fun b hb2 => ?_
    by_cases z : b.1 = pl
    · rw [if_pos z, if_pos z]
      have := L.same hb2 hb z
      rw [this]
    · rw [if_neg z, if_neg z]
  rw [← e]
  exact h
theorem MemAt.write {H : Hp} {M : MA} {xs : List V} {es : List (Nat × List V)} (h : MemAt a H M xs es) {pl : Nat} {cs : List V} (hb : (pl, cs) ∈ es) {i : Nat} {v : V} (hi : i < cs.length) (hv : v ≠ .non) :
    MemAt a (upd H M.d (.lst (xs.set (pl + i) v))) M (xs.set (pl + i) v) (repl es pl (cs.set i v)) where
  ob := by
    obtain ⟨dx, e⟩ := h.ob
    exact ⟨dx, by rw [upd_ne (ne_of e h.R.li (by intro z; cases z))]; exact e⟩
  R := h.R.keep (fun b o hb e => by rw [upd_ne hb]; exact e) upd_same (List.length_set ..)
  li := by rw [upd_ne h.nl]; exact h.li
  nl := h.nl
  bl := h.bl
  bd := fun r b e => by
    have := h.bd r b e
    rw [begK_repl, upd_ne (ne_of this h.R.li (by intro z; cases z))]
    exact this
  bi := h.bi
  lay := h.lay.write hb hi hv
  few := by unfold repl; rw [List.length_map]; exact h.few
def Tg.setF : Tg → Nat → Vl → Tg
  | .plain fs w, i, v => .plain (fs.set i v) w
  | .weak _, _, v => .weak v
  | .pair _ u, 0, v => .pair v u
  | .pair k _, _ + 1, v => .pair k v
theorem Tg.setF_fs {t : Tg} {i : Nat} {v : Vl} (h : i < t.fs.length) : (t.setF i v).fs = t.fs.set i v := by
  cases t with
  | plain fs w => rfl
  | weak f =>
    have : i = 0 := Nat.lt_one_iff.mp h
    subst this
    rfl
  | pair k u =>
    have h2 : i < 2 := h
    match i, h2 with
    | 0, _ => rfl
    | 1, _ => rfl
theorem Tg.setF_sort (t : Tg) (i : Nat) (v : Vl) : (t.setF i v).sort = t.sort ∧ (t.setF i v).words = t.words ∧ (t.setF i v).first = t.first ∧ (t.setF i v).kind = t.kind := by
  cases t with
  | plain fs w => exact ⟨rfl, rfl, rfl, rfl⟩
  | weak f => exact ⟨rfl, rfl, rfl, rfl⟩
  | pair k u => cases i <;> exact ⟨rfl, rfl, rfl, rfl⟩
theorem VlL.set {H : Hp} {xs : List V} {vl : List Vl} {i : Nat} {x : V} {v : Vl} (h : VlL K H xs vl) (hx : IsVl K H x v) : VlL K H (xs.set i x) (vl.set i v) := ⟨by simp [h.1], fun j y u a b => by
  by_cases e : i = j
  · subst e
    have hl := (List.getElem?_eq_some_iff.mp a).1
    rw [List.length_set] at hl
    have hl2 := h.1
    rw [List.getElem?_set_self hl] at a
    rw [List.getElem?_set_self (by omega)] at b
    cases a
    cases b
    exact hx
  · rw [List.getElem?_set_ne e] at a b
    exact h.2 j y u a b⟩
def sp_z20 (a : Adr) (K : PySem.W.Frag) : Sp := fun vs H Q _ => ∃ M xs es pl e m', vs = [.ref M.p, .int (pl : Nat), .bl m'] ∧ There a K H M xs es pl e ∧ ∀ H' xs' cs', Kp (· = M.d) H H' → MemAt a H' M xs' (repl es pl cs') → Cells K H' cs' (⟨e.t, e.ser, m'⟩ : En) → Q .non H'
theorem ok_z20 (T : Txt K mg a) : FnOk P w K mg base CX0 3 a.a_z20 a.d_z20 ["self", "place", "marked"] (sp_z20 a K) := by
  refine T.f_z20.ok sc_z20 (fun vs H Q E h => ?_) (fun cdv A outer s H vs Q E hr h => ?_)
  · obtain ⟨_, _, _, _, _, _, rfl, _⟩ := h
    rfl
  · obtain ⟨M, xs, es, pl, e, m', rfl, h, q⟩ := h
    obtain ⟨dx, h1⟩ := h.mem.ob
    obtain ⟨dx2, h2⟩ := h.mem.R.ob
    refine ⟨_, (pss_one (ps_expr (pe_meth (pe_fld (pv 0) rfl) T.cl_Rooms T.me_z36 (ok_z36 T) (hr.mono (by decide)) T.b_z36 .nil pass0 (pa_cons (pv 1) (pa_cons (pe_call (ok_z64 T) (hr.mono (by decide)) rfl T.m_z64 T.f_z64.kp T.b_z64 .nil pass0 (pa_cons (by exact (pe_meth (pv 0) T.cl_Memory T.me_z12 (ok_z12 T) (hr.mono (by decide)) T.b_z12 .nil pass0 (pa_cons (pv 1) pa_nil))) (pa_cons (pv 2) pa_nil))) pa_nil))))), ?_⟩
    have f1 := flM_no (pr := M.pr) (lb := M.lb) (n := "head_at")
    dsimp! [h1, h2, HO.ins.injEq, f1, T.cl_Memory, T.na_Memory_rooms, flM_rooms, fl_write]
    obtain ⟨cs, hcs, hc⟩ := h.has
    have hle := h.mem.lay.le hcs
    have hpos := hc.pos
    dsimp only at hle
    refine ⟨M, xs, es, pl, _, rfl, h.mem, h.head, _, _, rfl, M.pr, M.d, M.m, M.c, xs, pl, _, rfl, h.mem.R, by omega, ?_⟩
    rw [mk_set _ _ _ e.t.k0.1 e.t.k0.2]
    have kD : Kp (· = M.d) H (upd H M.d (.lst (xs.set pl (.int (hd e.t.kind m' e.t.words.isSome (e.t.size : Nat)))))) := (Kp.refl _ _).set rfl
    have hm := h.mem.write hcs (i := 0) (v := .int (hd e.t.kind m' e.t.words.isSome (e.t.size : Nat))) hpos (fun z => nomatch z)
    refine q _ _ _ kD hm ?_
    obtain ⟨mid, fx, rfl, b1, b2, b3⟩ := (hc.kp kD fun b eb => .inl ⟨xs, by rw [eb]; exact h.mem.R.li⟩).ex
    exact ⟨mid, fx, rfl, b1, b2, b3⟩
def sp_z19 (a : Adr) (K : PySem.W.Frag) : Sp := fun vs H Q _ => ∃ M xs es pl e at_ x v, vs = [.ref M.p, .int (pl : Nat), .int (at_ : Nat), x] ∧ There a K H M xs es pl e ∧ at_ < e.t.fs.length ∧ IsVl K H x v ∧
  ∀ H' xs' cs', Kp (· = M.d) H H' → MemAt a H' M xs' (repl es pl cs') → Cells K H' cs' (⟨e.t.setF at_ v, e.ser, e.mkd⟩ : En) → Q .non H'
theorem ok_z19 (T : Txt K mg a) : FnOk P w K mg base CX0 4 a.a_z19 a.d_z19 ["self", "place", "at", "value"] (sp_z19 a K) := by
  refine T.f_z19.ok sc_z19 (fun vs H Q E h => ?_) (fun cdv A outer s H vs Q E hr h => ?_)
  · obtain ⟨_, _, _, _, _, _, _, _, rfl, _⟩ := h
    rfl
  · obtain ⟨M, xs, es, pl, e, at_, x, v, rfl, h, hat, hx, q⟩ := h
    obtain ⟨dx, h1⟩ := h.mem.ob
    obtain ⟨dx2, h2⟩ := h.mem.R.ob
    refine ⟨_, (pss_one (ps_expr (pe_meth (pe_fld (pv 0) rfl) T.cl_Rooms T.me_z36 (ok_z36 T) (hr.mono (by decide)) T.b_z36 .nil pass0 (pa_cons (pe_op op_add (pe_op op_add (pv 1) (pe_call (ok_z44 T) (hr.mono (by decide)) rfl T.m_z44 T.f_z44.kp T.b_z44 .nil pass0 (pa_cons (by exact (pe_meth (pv 0) T.cl_Memory T.me_z22 (ok_z22 T) (hr.mono (by decide)) T.b_z22 .nil pass0 (pa_cons (pv 1) pa_nil))) pa_nil))) (pv 2)) (pa_cons (pv 3) pa_nil))))), ?_⟩
    have f1 := flM_no (pr := M.pr) (lb := M.lb) (n := "sort_at")
    dsimp! [h1, h2, HO.ins.injEq, f1, T.cl_Memory, T.na_Memory_rooms, flM_rooms, fl_write]
    obtain ⟨cs, hcs, hc⟩ := h.has
    have hle := h.mem.lay.le hcs
    have hlen := hc.len
    have esz : e.t.size = e.t.first + e.t.fs.length := rfl
    dsimp only at hle
    refine ⟨M, xs, es, pl, e, rfl, h, e.t, rfl, _, rfl, M.pr, M.d, M.m, M.c, xs, pl + (e.t.first + at_), x, ?_, h.mem.R, by omega, ?_⟩
    · simp
      omega
    have hi : e.t.first + at_ < cs.length := by omega
    have kD : Kp (· = M.d) H (upd H M.d (.lst (xs.set (pl + (e.t.first + at_)) x))) := (Kp.refl _ _).set rfl
    have mu : ∀ b, b = M.d → Mu H b := fun b eb => .inl ⟨xs, by rw [eb]; exact h.mem.R.li⟩
    have hm := h.mem.write hcs hi (v := x) (by
      obtain ⟨t, rfl, _⟩ := hx
      exact fun z => nomatch z)
    refine q _ _ _ kD hm ?_
    obtain ⟨mid, fx, rfl, b1, b2, b3⟩ := (hc.kp kD mu).ex
    obtain ⟨s1, s2, s3, s4⟩ := e.t.setF_sort at_ v
    have sf := Tg.setF_fs (v := v) hat
    have ssz : (e.t.setF at_ v).size = e.t.size := by
      unfold Tg.size
      rw [s3, sf, List.length_set]
    refine ⟨mid, fx.set at_ x, ?_, by dsimp only; rw [sf]; exact b1.set (hx.kp kD mu), by dsimp only; rw [s3]; exact b2, by dsimp only; rw [s2]; exact b3⟩
    dsimp only
    rw [s2, s4, ssz, show e.t.first + at_ = mid.length + at_ + 1 + 1 by omega, List.set_cons_succ, List.set_cons_succ, List.set_append_right _ _ (by omega), show mid.length + at_ - mid.length = at_ by omega]
def roomP (es : List (Nat × List V)) (c r : Nat) : List Int := (es.filter fun b => decide (b.1 / c = r)).map fun b => (b.1 : Int)
theorem keys_begK (es : List (Nat × List V)) (c r : Nat) : keysV (begK es c r) = (roomP es c r).map V.int := by
  unfold keysV begK roomP
  rw [List.map_map, List.map_map]
  rfl
def sp_z16 (a : Adr) : Sp := fun vs H Q _ => ∃ M xs es r, vs = [.ref M.p, .int (r : Nat)] ∧ MemAt a H M xs es ∧ r < M.m ∧ es.length < 64 ∧ ∀ (l : Addr) (ns' : List Int), H l = none → ns'.Perm (roomP es M.c r) → ns'.Pairwise (· ≤ ·) → Q (.ref l) (upd H l (.lst (ns'.map V.int)))
theorem ok_z16 (T : Txt K mg a) : FnOk P w K mg base CX0 1 a.a_z16 a.d_z16 ["self", "room"] (sp_z16 a) := by
  refine T.f_z16.ok sc_z16 (fun vs H Q E h => ?_) (fun cdv A outer s H vs Q E hr h => ?_)
  · obtain ⟨_, _, _, _, rfl, _⟩ := h
    rfl
  · obtain ⟨M, xs, es, r, rfl, hM, hrm, h64, q⟩ := h
    obtain ⟨dx, h1⟩ := hM.ob
    refine ⟨_, (pss_one (ps_ret (pe_callB (call_sortedD rfl) rfl T.n_sorted bt_sorted (pa_cons (pe_ix ix_list (pe_fld (pv 0) rfl) (pv 1) (fun _ _ => rfl)) pa_nil)))), ?_⟩
    dsimp! [h1, HO.ins.injEq, T.cl_Memory, T.na_Memory_begins, flM_begins]
    have hbs : r < M.bs.length := by rw [hM.bl]; exact hrm
    have hgb : M.bs[r]? = some M.bs[r] := List.getElem?_eq_getElem hbs
    refine ⟨M.lb, _, _, .ref M.bs[r], rfl, rfl, SqL.of hM.li, atI_nat (by rw [List.getElem?_map, hgb]; rfl), _, rfl, _, .inl (hM.bd _ _ hgb), roomP es M.c r, keys_begK _ _ _, ?_, q⟩
    unfold roomP
    rw [List.length_map]
    have := List.length_filter_le (fun b : Nat × List V => decide (b.1 / M.c = r)) es
    omega
def belowP (es : List (Nat × List V)) (c r : Nat) : List Int := (es.filter fun b => decide (b.1 / c < r)).map fun b => (b.1 : Int)
theorem belowP_succ (c r : Nat) : ∀ es : List (Nat × List V), (belowP es c (r + 1)).Perm (belowP es c r ++ roomP es c r)
  | [] => .refl _
  | b :: es => by
    have ih := belowP_succ c r es
    unfold belowP roomP at ih ⊢
    rw [List.filter_cons, List.filter_cons, List.filter_cons]
    by_cases h1 : b.1 / c < r
    · rw [if_pos (decide_eq_true (by omega)), if_pos (decide_eq_true h1), if_neg (by simp; omega)]
      exact ih.cons _
    · by_cases h2 : b.1 / c = r
      · rw [if_pos (decide_eq_true (by omega)), if_neg (by simpa using h1), if_pos (decide_eq_true h2)]
        exact (ih.cons _).trans List.perm_middle.symm
      · rw [if_neg (by simp; omega), if_neg (by simpa using h1), if_neg (by simpa using h2)]
        exact ih
def allP (es : List (Nat × List V)) : List Int := es.map fun b => (b.1 : Int)
theorem belowP_all {es : List (Nat × List V)} {c m : Nat} (h : ∀ b ∈ es, b.1 / c < m) : belowP es c m = allP es := by
  unfold belowP allP
  rw [List.filter_eq_self.mpr fun b hb => decide_eq_true (h b hb)]
def sp_z15 (a : Adr) : Sp := fun vs H Q _ => ∃ M xs es, vs = [.ref M.p] ∧ MemAt a H M xs es ∧ es.length < 64 ∧ ∀ (l : Addr) (ns' : List Int) H', Same H H' → H l = none → H' l = some (.lst (ns'.map V.int)) → ns'.Perm (allP es) → ns'.Pairwise (· ≤ ·) → Q (.ref l) H'
theorem ok_z15 (T : Txt K mg a) : FnOk P w K mg base CX0 2 a.a_z15 a.d_z15 ["self"] (sp_z15 a) := by
  refine T.f_z15.ok sc_z15 (fun vs H Q E h => ?_) (fun cdv A outer s H vs Q E hr h => ?_)
  · obtain ⟨_, _, _, rfl, _⟩ := h
    rfl
  · obtain ⟨M, xs, es, rfl, hM, h64, q⟩ := h
    obtain ⟨dx, h1⟩ := hM.ob
    refine ⟨_, (pss_cons (ps_set (i := 1) sc_z15.nd rfl (Or.inl rfl) (pe_lst pa_nil)) (pss_cons (ps_forW PassesOwn.never rfl (pi_range1 rfl T.n_range (pa_cons (pe_callB call_len_seq rfl T.n_len bt_len (pa_cons (pe_fld (pv 0) rfl) pa_nil)) pa_nil)) (pg_name (i := 2) sc_z15.nd rfl (Or.inl rfl)) pss_bodyT) pss_bodyT)), ?_⟩
    dsimp! [h1, HO.ins.injEq, T.cl_Memory, T.na_Memory_begins, flM_begins]
    refine fun l hl => ?_
    have s1 := Same.put (o := .lst []) hl
    have hM1 := hM.same s1
    have hm1000 : M.m ≤ 1000 := Nat.le_trans (Nat.le_mul_of_pos_right M.m hM.R.c0) hM.R.sm
    have hbl : (M.bs.map V.ref).length = M.m := by rw [List.length_map]; exact hM.bl
    refine ⟨_, _, _, s1 _ _ h1, T.cl_Memory, T.na_Memory_begins, _, flM_begins _ _, M.lb, rfl, _, .inl (SqL.of (s1 _ _ hM.li)), by omega, by omega, ?_⟩
    rw [hbl]
    have b0 : belowP es M.c 0 = [] := by
      unfold belowP
      rw [List.filter_eq_nil_iff.mpr fun b _ => by simp]
      rfl
    refine fw_range (fun i σ H2 => ∃ (o2 : Option V) (L : List Int), σ = [some (.ref M.p), some (.ref l), o2] ∧ Same H H2 ∧ H2 l = some (.lst (L.map V.int)) ∧ L.Perm (belowP es M.c i) ∧ L.Pairwise (· ≤ ·)) ⟨none, [], rfl, s1, upd_same, by rw [b0], .nil⟩ ?_ ?_
    · rintro i σ H2 hi ⟨o2, L, rfl, k2, hl2, hp2, hs2⟩
      have hM2 := hM.same k2
      obtain ⟨dx2, h12⟩ := hM2.ob
      refine gN ?_
      refine bodyT.of (pss_one (ps_expr (pe_bm PySem.F.plainAttrs_list PySem.F.slot_list_extend PySem.F.type_list_extend mt_extend (pv 1) (pa_cons (by exact (pe_meth (pv 0) T.cl_Memory T.me_z16 (ok_z16 T) (hr.mono (by decide)) T.b_z16 .nil pass0 (pa_cons (pv 2) pa_nil))) pa_nil)))) ?_
      have f1 := flM_no (pr := M.pr) (lb := M.lb) (n := "places_in")
      dsimp! [h12, HO.ins.injEq, f1]
      refine ⟨.inl ⟨rfl, _, SqL.of hl2⟩, M, xs, es, i, by simp, hM2, hi, h64, fun l3 ns' hl3 hp3 hs3 => ?_⟩
      have hLl : L.length ≤ 64 := by
        rw [hp2.length_eq]
        unfold belowP
        rw [List.length_map]
        have := List.length_filter_le (fun b : Nat × List V => decide (b.1 / M.c < i)) es
        omega
      have hnl : ns'.length ≤ 64 := by
        rw [hp3.length_eq]
        unfold roomP
        rw [List.length_map]
        have := List.length_filter_le (fun b : Nat × List V => decide (b.1 / M.c = i)) es
        omega
      refine ⟨l, l3, _, _, rfl, rfl, Same.put hl3 _ _ hl2, upd_same, Nat.le_of_lt (small1000 (by simp only [List.length_map]; omega)), ?_⟩
      rw [← List.map_append]
      refine ⟨fun b o e => ?_, _, upd_same, (hp2.append hp3).trans (belowP_succ _ _ _).symm, ?_⟩
      · rw [upd_ne (ne_of_none e hl)]
        exact Same.put hl3 b o (k2 b o e)
      · refine List.pairwise_append.mpr ⟨hs2, hs3, fun x hx y hy => ?_⟩
        have hx2 := hp2.mem_iff.mp hx
        have hy2 := hp3.mem_iff.mp hy
        unfold belowP at hx2
        unfold roomP at hy2
        obtain ⟨b, hb, rfl⟩ := List.mem_map.mp hx2
        obtain ⟨d, hd, rfl⟩ := List.mem_map.mp hy2
        have h5 : b.1 / M.c < i := of_decide_eq_true (List.mem_filter.mp hb).2
        have h6 : d.1 / M.c = i := of_decide_eq_true (List.mem_filter.mp hd).2
        have h7 : b.1 < i * M.c := (Nat.div_lt_iff_lt_mul hM.R.c0).mp h5
        have h8 : i * M.c ≤ d.1 := by
          rw [← h6]
          exact Nat.div_mul_le_self _ _
        omega
    · rintro σ H2 ⟨o2, L, rfl, k2, hl2, hp2, hs2⟩
      refine bodyT.of (pss_one (ps_ret (pv 1))) ?_
      dsimp! []
      refine q l L H2 k2 hl hl2 ?_ hs2
      rw [belowP_all fun b hb => ?_] at hp2
      · exact hp2
      · rw [Nat.div_lt_iff_lt_mul hM.R.c0]
        have h3 := hM.lay.le hb
        have h4 := (hM.lay.one b hb).1
        rw [hM.R.len] at h3
        omega
structure Rw where
  pl : Nat
  cs : List V
  x : V
  e : En
def Rw.b (r : Rw) : Nat × List V := (r.pl, r.cs)
structure RM (a : Adr) (K : PySem.W.Frag) (H : Hp) (M : MA) (xs : List V) (R : List Rw) : Prop where
  mem : MemAt a H M xs (R.map Rw.b)
  ok : ∀ r ∈ R, Cells K H r.cs r.e
theorem RM.same {H H' : Hp} {M : MA} {xs : List V} {R : List Rw} (h : RM a K H M xs R) (k : Same H H') : RM a K H' M xs R := ⟨h.mem.same k, fun r hr => (h.ok r hr).same k⟩
def plsI (R : List Rw) : List Int := R.map fun r => (r.pl : Int)
theorem allP_b (R : List Rw) : allP (R.map Rw.b) = plsI R := by
  unfold allP plsI
  rw [List.map_map]
  rfl
theorem RM.there {H : Hp} {M : MA} {xs : List V} {R : List Rw} (h : RM a K H M xs R) {r : Rw} (hr : r ∈ R) : There a K H M xs (R.map Rw.b) r.pl r.e :=
  ⟨h.mem, r.cs, List.mem_map.mpr ⟨r, hr, rfl⟩, h.ok r hr⟩
def Apart (R : List Rw) : Prop := R.Pairwise fun r q => r.pl ≠ q.pl
theorem RM.nd {H : Hp} {M : MA} {xs : List V} {R : List Rw} (h : RM a K H M xs R) : Apart R := by
  have h1 := List.pairwise_map.mp h.mem.lay.dis
  refine h1.imp_of_mem fun {r q} hr hq z e => ?_
  have l1 := (h.mem.lay.one _ (List.mem_map.mpr ⟨r, hr, rfl⟩)).1
  have l2 := (h.mem.lay.one _ (List.mem_map.mpr ⟨q, hq, rfl⟩)).1
  dsimp only [Rw.b] at z l1 l2
  omega
theorem MemAt.off2 {a : Adr} {S : Addr → Prop} {H H' : Hp} {M : MA} {xs : List V} {es : List (Nat × List V)} (h : MemAt a H M xs es) (k : Kp S H H') (mu : ∀ b, S b → Mu H b) (n3 : ¬ S M.lb) (n4 : ∀ b, M.own b → ¬ S b) : MemAt a H' M xs es := by
  obtain ⟨dx5, h5⟩ := h.ob
  obtain ⟨dx6, h6⟩ := h.R.ob
  refine h.off k (fun z => ?_) (fun z => ?_) n3 n4
  · rcases mu _ z with ⟨y, e⟩ | ⟨y, e⟩ <;> (rw [e] at h5; cases h5)
  · rcases mu _ z with ⟨y, e⟩ | ⟨y, e⟩ <;> (rw [e] at h6; cases h6)
theorem MemAt.nown {H : Hp} {M : MA} {xs : List V} {es : List (Nat × List V)} (h : MemAt a H M xs es) {b : Addr} (hb : H b = none) : ¬ M.own b := fun z => by
  rcases h.mu _ z with ⟨y, e⟩ | ⟨y, e⟩ <;> (rw [e] at hb; cases hb)
theorem perm_eq {l m : List Int} (h : l.Perm m) (h1 : l.Pairwise (· ≤ ·)) (h2 : m.Pairwise (· ≤ ·)) : l = m := List.Perm.eq_of_pairwise (fun x y _ _ h1 h2 => Int.le_antisymm h1 h2) h1 h2 h
theorem flat_ints (ns : List Int) : ∀ x ∈ ns.map V.int, flatV x = true := fun x hx => by
  obtain ⟨z, _, rfl⟩ := List.mem_map.mp hx
  rfl
theorem deq_none (ns : List Int) : deq (D.lst ((ns.map V.int).map fD)) (D.lst (([] : List V).map fD)) = ns.isEmpty := by
  cases ns <;> simp [deq, deqs]
theorem dep_ints (ns : List Int) : (D.lst ((ns.map V.int).map fD)).dep ≤ 60 := by
  rw [D.dep, deps_flat]
  decide
def Rw.v (r : Rw) : Nat × En := (r.pl, r.e)
def TM (a : Adr) (K : PySem.W.Frag) (H : Hp) (M : MA) (E : List (Nat × En)) : Prop := ∃ xs R, RM a K H M xs R ∧ R.map Rw.v = E
theorem TM.same {H H' : Hp} {M : MA} {E : List (Nat × En)} (h : TM a K H M E) (k : Same H H') : TM a K H' M E := by
  obtain ⟨xs, R, h1, h2⟩ := h
  exact ⟨xs, R, h1.same k, h2⟩
theorem TM.mu {H : Hp} {M : MA} {E : List (Nat × En)} (h : TM a K H M E) : ∀ b, M.own b → Mu H b := by
  obtain ⟨xs, R, h1, h2⟩ := h
  exact h1.mem.mu
theorem TM.ob {H : Hp} {M : MA} {E : List (Nat × En)} (h : TM a K H M E) : ∃ dx, H M.p = some (.ins a.c_Memory dx (flM M.pr M.lb)) := by
  obtain ⟨xs, R, h1, h2⟩ := h
  exact h1.mem.ob
theorem TM.lb {H : Hp} {M : MA} {E : List (Nat × En)} (h : TM a K H M E) : H M.lb = some (.lst (M.bs.map V.ref)) := by
  obtain ⟨xs, R, h1, h2⟩ := h
  exact h1.mem.li
theorem TM.nown {H : Hp} {M : MA} {E : List (Nat × En)} (h : TM a K H M E) {b : Addr} (hb : H b = none) : ¬ M.own b := by
  obtain ⟨xs, R, h1, h2⟩ := h
  exact h1.mem.nown hb
theorem TM.off {S : Addr → Prop} {H H' : Hp} {M : MA} {E : List (Nat × En)} (h : TM a K H M E) (k : Kp S H H') (mu : ∀ b, S b → Mu H b) (n3 : ¬ S M.lb) (n4 : ∀ b, M.own b → ¬ S b) : TM a K H' M E := by
  obtain ⟨xs, R, h1, h2⟩ := h
  exact ⟨xs, R, ⟨h1.mem.off2 k mu n3 n4, fun r hr => (h1.ok r hr).kp k mu⟩, h2⟩
theorem TM.there {H : Hp} {M : MA} {E : List (Nat × En)} (h : TM a K H M E) {p : Nat} {e : En} (hp : (p, e) ∈ E) : ∃ xs es, There a K H M xs es p e := by
  obtain ⟨xs, R, h1, rfl⟩ := h
  obtain ⟨r, hr, e1⟩ := List.mem_map.mp hp
  cases e1
  exact ⟨xs, _, h1.there hr⟩
def Aps (E : List (Nat × En)) : Prop := E.Pairwise fun p q => p.1 ≠ q.1
theorem TM.nd {H : Hp} {M : MA} {E : List (Nat × En)} (h : TM a K H M E) : Aps E := by
  obtain ⟨xs, R, h1, rfl⟩ := h
  exact List.pairwise_map.mpr h1.nd
theorem Aps.same {E : List (Nat × En)} (h : Aps E) {p q : Nat × En} (hp : p ∈ E) (hq : q ∈ E) (e : p.1 = q.1) : p = q := by
  obtain ⟨i, hi, rfl⟩ := List.mem_iff_getElem.mp hp
  obtain ⟨j, hj, rfl⟩ := List.mem_iff_getElem.mp hq
  rcases Nat.lt_trichotomy i j with z | z | z
  · exact absurd e (List.pairwise_iff_getElem.mp h i j hi hj z)
  · subst z
    rfl
  · exact absurd e.symm (List.pairwise_iff_getElem.mp h j i hj hi z)
def setE (E : List (Nat × En)) (pl : Nat) (e' : En) : List (Nat × En) := E.map fun p => if p.1 = pl then (pl, e') else p
theorem RM.set {H H' : Hp} {M : MA} {xs xs' : List V} {R : List Rw} {pl : Nat} {cs' : List V} {e' : En} (h : RM a K H M xs R) (k : Kp (· = M.d) H H') (hM : MemAt a H' M xs' (repl (R.map Rw.b) pl cs')) (hc : Cells K H' cs' e') : TM a K H' M (setE (R.map Rw.v) pl e') := by
  have mu0 : ∀ b, b = M.d → Mu H b := fun b e => .inl ⟨xs, by rw [e]; exact h.mem.R.li⟩
  refine ⟨xs', R.map fun r => if r.pl = pl then ⟨pl, cs', r.x, e'⟩ else r, ⟨?_, fun r hr => ?_⟩, ?_⟩
  · have e1 : (R.map fun r => if r.pl = pl then (⟨pl, cs', r.x, e'⟩ : Rw) else r).map Rw.b = repl (R.map Rw.b) pl cs' := by
      unfold repl
      rw [List.map_map, List.map_map]
      refine List.map_congr_left fun r _ => ?_
      show Rw.b (if r.pl = pl then ⟨pl, cs', r.x, e'⟩ else r) = (if r.b.1 = pl then (pl, cs') else r.b)
      by_cases z : r.pl = pl
      · rw [if_pos z, if_pos (show r.b.1 = pl from z)]
        rfl
      · rw [if_neg z, if_neg (show ¬ r.b.1 = pl from z)]
    rw [e1]
    exact hM
  · obtain ⟨q, hq, rfl⟩ := List.mem_map.mp hr
    by_cases e : q.pl = pl
    · rw [if_pos e]
      exact hc
    · rw [if_neg e]
      exact (h.ok q hq).kp k mu0
  · unfold setE
    rw [List.map_map, List.map_map]
    refine List.map_congr_left fun r _ => ?_
    show Rw.v (if r.pl = pl then ⟨pl, cs', r.x, e'⟩ else r) = (if r.v.1 = pl then (pl, e') else r.v)
    by_cases z : r.pl = pl
    · rw [if_pos z, if_pos (show r.v.1 = pl from z)]
      rfl
    · rw [if_neg z, if_neg (show ¬ r.v.1 = pl from z)]
theorem RM.more {H H' : Hp} {M : MA} {xs xs' : List V} {R : List Rw} {g : Nat} {cs : List V} {e : En} (h : RM a K H M xs R) (k : Kp M.own H H') (hM : MemAt a H' M xs' (R.map Rw.b ++ [(g, cs)])) (hc : Cells K H' cs e) : TM a K H' M (R.map Rw.v ++ [(g, e)]) := by
  refine ⟨xs', R ++ [⟨g, cs, .non, e⟩], ⟨by rw [List.map_append]; exact hM, fun r hr => ?_⟩, by rw [List.map_append]; rfl⟩
  rcases List.mem_append.mp hr with hr | hr
  · exact (h.ok r hr).kp k h.mem.mu
  · rw [List.mem_singleton.mp hr]
    exact hc
def Vl.na : Vl → Option Int
  | .th n => some n
  | _ => none
def Tg.hold : Tg → List Int
  | .plain fs _ => fs.filterMap Vl.na
  | _ => []
theorem nm_na : ∀ fs : List Vl, fs.filterMap Vl.nm = (fs.filterMap Vl.na).map V.int
  | [] => rfl
  | v :: fs => by
    rw [List.filterMap_cons, List.filterMap_cons, nm_na fs]
    cases v <;> rfl
def sp_z38 : Sp := fun vs H Q _ => ∃ p, vs = [.ref p] ∧ ∀ r, H r = none → Q (.ref r) (upd H r (.lst []))
theorem ok_z38 (T : Txt K mg a) : FnOk P w K mg base CX0 1 a.a_z38 a.d_z38 ["self"] sp_z38 := by
  refine T.f_z38.ok sc_z38 (fun vs H Q E h => ?_) (fun cdv A outer s H vs Q E hr h => ?_)
  · obtain ⟨_, rfl, _⟩ := h
    rfl
  · obtain ⟨p, rfl, q⟩ := h
    refine ⟨_, (pss_one (ps_ret (pe_lst pa_nil))), ?_⟩
    dsimp! []
    exact q
def sp_z27 (a : Adr) (K : PySem.W.Frag) : Sp := fun vs H Q _ => ∃ p d fs w, vs = [.ref p] ∧ ThAt a K H p d (.plain fs w) ∧ ∀ r, H r = none → Q (.ref r) (upd H r (.lst ((fs.filterMap Vl.na).map V.int)))
theorem ok_z27 (T : Txt K mg a) : FnOk P w K mg base CX0 4 a.a_z27 a.d_z27 ["self"] (sp_z27 a K) := by
  refine T.f_z27.ok sc_z27 (fun vs H Q E h => ?_) (fun cdv A outer s H vs Q E hr h => ?_)
  · obtain ⟨_, _, _, _, rfl, _⟩ := h
    rfl
  · obtain ⟨p, d, fs, w, rfl, ⟨⟨dx, h1⟩, xs, h2, h3, h4⟩, q⟩ := h
    refine ⟨_, (pss_one (ps_ret (pe_call (ok_z57 T) (hr.mono (by decide)) rfl T.m_z57 T.f_z57.kp T.b_z57 .nil pass0 (pa_cons (pe_fld (pv 0) rfl) pa_nil)))), ?_⟩
    have h1' : H p = some (.ins a.c_PlainThing dx (flP d w)) := h1
    have f2 : (flP d w).lookup ("parts" : Str) = some (.ref d) := (Tg.plain fs w).parts d
    dsimp! [h1', HO.ins.injEq, T.cl_PlainThing, T.na_PlainThing_parts, f2]
    refine ⟨d, xs, fs, rfl, SqL.of h2, h4, h3.1, h3.2, fun r hr => ?_⟩
    rw [nm_na]
    exact q r hr
theorem holds_mem (t : Tg) {p d : Addr} {H : Hp} {Q : VK} {E : XK} (h : ThAt a K H p d t) (q : ∀ r, H r = none → Q (.ref r) (upd H r (.lst (t.hold.map V.int)))) : ∃ sp, (t.cls a, sp) ∈ [(a.c_Thing, sp_z38), (a.c_PlainThing, sp_z27 a K), (a.c_PairThing, sp_z38)] ∧ sp [.ref p] H Q E := by
  cases t with
  | plain fs w => exact ⟨_, .tail _ (.head _), p, d, fs, w, rfl, h, q⟩
  | weak f => exact ⟨_, .head _, p, rfl, q⟩
  | pair k v => exact ⟨_, .tail _ (.tail _ (.head _)), p, rfl, q⟩
def flK (m g : Addr) : List (Str × V) := putF "grey_places" (.ref g) (putF "memory" (.ref m) [])
theorem n_mg : ¬ (("memory" : Str) = "grey_places") := by decide +kernel
theorem flK_memory (m g : Addr) : (flK m g).lookup ("memory" : Str) = some (.ref m) := by
  unfold flK
  rw [lookup_putF, if_neg n_mg, lookup_putF, if_pos rfl]
theorem flK_grey (m g : Addr) : (flK m g).lookup ("grey_places" : Str) = some (.ref g) := by
  unfold flK
  rw [lookup_putF, if_pos rfl]
theorem flK_no {m g : Addr} {n : Str} (h1 : ¬ n = "grey_places" := by decide +kernel) (h2 : ¬ n = "memory" := by decide +kernel) : (flK m g).lookup n = none := by
  unfold flK
  rw [lookup_putF, if_neg h1, lookup_putF, if_neg h2]
  all_goals rfl
def gk (G : List Nat) : List (Key × V) := G.map fun (p : Nat) => ((Sum.inl (p : Int) : Key), V.bl true)
theorem gk_no {G : List Nat} {p : Nat} (h : p ∉ G) : valV (gk G) (Sum.inl (p : Int)) = none := by
  cases e : valV (gk G) (Sum.inl (p : Int)) with
  | none => rfl
  | some v =>
    obtain ⟨kv, hkv, e1⟩ := List.mem_map.mp (valV_in e)
    obtain ⟨q, hq, rfl⟩ := List.mem_map.mp hkv
    have : (q : Int) = (p : Int) := Sum.inl.inj e1
    have e2 : q = p := by omega
    subst e2
    exact absurd hq h
theorem gk_has {G : List Nat} {p : Nat} : (valV (gk G) (Sum.inl (p : Int))).isSome = decide (p ∈ G) := by
  by_cases h : p ∈ G
  · rw [decide_eq_true h, ← valV_any, List.any_eq_true]
    exact ⟨_, List.mem_map.mpr ⟨p, h, rfl⟩, decide_eq_true rfl⟩
  · rw [decide_eq_false h, gk_no h]
    rfl
theorem gk_keys (G : List Nat) : keysV (gk G) = (G.map fun (p : Nat) => (p : Int)).map V.int := by
  unfold keysV gk
  rw [List.map_map, List.map_map]
  rfl
theorem gk_drop {p : Nat} {G : List Nat} (h : p ∉ G) : dropK (gk (p :: G)) (Sum.inl (p : Int)) = gk G := by
  unfold dropK gk
  rw [List.map_cons, List.filter_cons, if_neg (by simp)]
  refine List.filter_eq_self.mpr fun x hx => ?_
  obtain ⟨q, hq, rfl⟩ := List.mem_map.mp hx
  refine decide_eq_true fun z => ?_
  have : (q : Int) = (p : Int) := Sum.inl.inj z
  have e2 : q = p := by omega
  subst e2
  exact h hq
theorem nd_len {α : Type} [DecidableEq α] : ∀ {l m : List α}, l.Nodup → (∀ x ∈ l, x ∈ m) → l.length ≤ m.length
  | [], _, _, _ => Nat.zero_le _
  | x :: l, m, h, s => by
    obtain ⟨h1, h2⟩ := List.nodup_cons.mp h
    have hx := s x List.mem_cons_self
    have := nd_len (m := m.erase x) h2 fun y hy => (List.mem_erase_of_ne (fun z => h1 (by rw [← z]; exact hy))).mpr (s y (List.mem_cons_of_mem _ hy))
    rw [List.length_erase_of_mem hx] at this
    have := List.length_pos_of_mem hx
    rw [List.length_cons]
    omega
structure MS (a : Adr) (K : PySem.W.Frag) (H : Hp) (M : MA) (k gd : Addr) (E : List (Nat × En)) (G : List Nat) : Prop where
  tm : TM a K H M E
  ob : ∃ dx, H k = some (.ins a.c_Marking dx (flK M.p gd))
  di : H gd = some (.dK (gk G))
  no : ¬ M.own gd
  gm : ∀ p ∈ G, ∃ e, (p, e) ∈ E ∧ e.mkd = true
  nd : G.Nodup
theorem MS.same {H H' : Hp} {M : MA} {k gd : Addr} {E : List (Nat × En)} {G : List Nat} (h : MS a K H M k gd E G) (s : Same H H') : MS a K H' M k gd E G := by
  obtain ⟨dx, h1⟩ := h.ob
  exact ⟨h.tm.same s, ⟨dx, s _ _ h1⟩, s _ _ h.di, h.no, h.gm, h.nd⟩
theorem MS.glen {H : Hp} {M : MA} {k gd : Addr} {E : List (Nat × En)} {G : List Nat} (h : MS a K H M k gd E G) : G.length ≤ E.length := by
  have := nd_len (m := E.map (·.1)) h.nd fun p hp => by
    obtain ⟨e, he, _⟩ := h.gm p hp
    exact List.mem_map.mpr ⟨_, he, rfl⟩
  rwa [List.length_map] at this
def mkE (E : List (Nat × En)) (pl : Nat) : Bool := E.any fun p => decide (p.1 = pl) && p.2.mkd
def setM (E : List (Nat × En)) (pl : Nat) : List (Nat × En) := E.map fun p => if p.1 = pl then (p.1, ⟨p.2.t, p.2.ser, true⟩) else p
def shd (S : List (Nat × En) × List Nat) (pl : Nat) : List (Nat × En) × List Nat := if mkE S.1 pl = true then S else (setM S.1 pl, S.2 ++ [pl])
theorem Aps.mk {E : List (Nat × En)} (h : Aps E) {p : Nat} {e : En} (he : (p, e) ∈ E) : mkE E p = e.mkd := by
  rw [Bool.eq_iff_iff]
  unfold mkE
  rw [List.any_eq_true]
  constructor
  · rintro ⟨q, hq, z⟩
    rw [Bool.and_eq_true] at z
    have := h.same hq he (of_decide_eq_true z.1)
    subst this
    exact z.2
  · intro z
    exact ⟨_, he, by rw [decide_eq_true rfl, z]; rfl⟩
theorem setM_fst (E : List (Nat × En)) (pl : Nat) : (setM E pl).map (·.1) = E.map (·.1) := by
  unfold setM
  rw [List.map_map]
  refine List.map_congr_left fun p _ => ?_
  show (if p.1 = pl then (p.1, (⟨p.2.t, p.2.ser, true⟩ : En)) else p).1 = p.1
  split <;> rfl
theorem shd_fst (S : List (Nat × En) × List Nat) (pl : Nat) : (shd S pl).1.map (·.1) = S.1.map (·.1) := by
  unfold shd
  split
  · rfl
  · exact setM_fst _ _
theorem shds_fst : ∀ (ps : List Nat) (S : List (Nat × En) × List Nat), (ps.foldl shd S).1.map (·.1) = S.1.map (·.1)
  | [], _ => rfl
  | p :: ps, S => by
    rw [List.foldl_cons, shds_fst ps, shd_fst]
theorem set_setM {E : List (Nat × En)} (h : Aps E) {p : Nat} {e : En} (he : (p, e) ∈ E) : setE E p ⟨e.t, e.ser, true⟩ = setM E p := by
  unfold setE setM
  refine List.map_congr_left fun q hq => ?_
  by_cases z : q.1 = p
  · have := h.same hq he z
    subst this
    simp
  · rw [if_neg z, if_neg z]
def sp_z4 (a : Adr) (K : PySem.W.Frag) : Sp := fun vs H Q _ => ∃ p dx M E H0, vs = [.ref p, .ref M.p] ∧ H p = some (.ins a.c_Marking dx []) ∧ Same H0 H ∧ H0 p = none ∧ TM a K H0 M E ∧ ∀ gd H', Keep p H H' → H gd = none → MS a K H' M p gd E [] → Q .non H'
theorem ok_z4 (T : Txt K mg a) : FnOk P w K mg base CX0 1 a.a_z4 a.d_z4 ["self", "memory"] (sp_z4 a K) := by
  refine T.f_z4.ok sc_z4 (fun vs H Q E h => ?_) (fun cdv A outer s H vs Q E hr h => ?_)
  · obtain ⟨_, _, _, _, _, rfl, _⟩ := h
    rfl
  · obtain ⟨p, dx, M, E, H0, rfl, h1, s0, hp0, hT, q⟩ := h
    refine ⟨_, (pss_cons (ps_fld (pv 0) (pv 1) rfl) (pss_one (ps_fld (pv 0) pe_dnewK rfl))), ?_⟩
    dsimp! [h1, HO.ins.injEq, T.cl_Marking, T.na_Marking_memory, T.na_Marking_grey_places]
    refine ⟨by decide, fun gd hgd => ?_⟩
    have ngp : gd ≠ p := fun z => by rw [z, upd_same] at hgd; cases hgd
    have hgd0 : H gd = none := by rw [upd_ne ngp] at hgd; exact hgd
    refine ⟨_, dx, _, by rw [upd_ne ngp.symm]; exact upd_same, T.cl_Marking, T.na_Marking_grey_places, Nat.lt_of_le_of_lt (length_putF _ _ _) (by decide), ?_⟩
    have k1 : Keep p H (upd (upd (upd H p (.ins a.c_Marking dx (putF "memory" (.ref M.p) []))) gd (.dK [])) p (.ins a.c_Marking dx (putF "grey_places" (.ref gd) (putF "memory" (.ref M.p) [])))) := fun b u n e => by
      rw [upd_ne n, upd_ne (ne_of_none e hgd0), upd_ne n]
      exact e
    refine q gd _ k1 hgd0 ⟨hT.same fun b u e => k1 b u (ne_of_none e hp0) (s0 b u e), ⟨dx, upd_same⟩, by rw [upd_ne ngp, upd_same]; rfl, hT.nown (s0.free hgd0), fun p hp => (nomatch hp), List.nodup_nil⟩
def sp_z6 (a : Adr) (K : PySem.W.Frag) : Sp := fun vs H Q _ => ∃ M k gd E G pl, vs = [.ref k, .int (pl : Nat)] ∧ MS a K H M k gd E G ∧ pl ∈ E.map (·.1) ∧ E.length ≤ 900 ∧
  ∀ H', Kp (fun b => M.own b ∨ b = gd) H H' → MS a K H' M k gd (shd (E, G) pl).1 (shd (E, G) pl).2 → Q .non H'
theorem ok_z6 (T : Txt K mg a) : FnOk P w K mg base CX0 4 a.a_z6 a.d_z6 ["self", "place"] (sp_z6 a K) := by
  refine T.f_z6.ok sc_z6 (fun vs H Q E h => ?_) (fun cdv A outer s H vs Q E hr h => ?_)
  · obtain ⟨_, _, _, _, _, _, rfl, _⟩ := h
    rfl
  · obtain ⟨M, k, gd, E, G, pl, rfl, h, hpl, hEl, q⟩ := h
    refine ⟨_, (pss_one (ps_if (pt_not (pt_val (pe_meth (pe_fld (pv 0) rfl) T.cl_Memory T.me_z14 (ok_z14 T) (hr.mono (by decide)) T.b_z14 .nil pass0 (pa_cons (pv 1) pa_nil)))) (pss_cons (ps_expr (pe_meth (pe_fld (pv 0) rfl) T.cl_Memory T.me_z20 (ok_z20 T) (hr.mono (by decide)) T.b_z20 .nil pass0 (pa_cons (pv 1) (pa_cons pe_bl pa_nil)))) (pss_one (ps_dput (hu_of hr) (pe_fld (pv 0) rfl) (pv 1) pe_bl rfl))) pss_nil)), ?_⟩
    obtain ⟨dx, h1⟩ := h.ob
    obtain ⟨dx2, h2⟩ := h.tm.ob
    have f1 := flM_no (pr := M.pr) (lb := M.lb) (n := "marked_at")
    have f2 := flM_no (pr := M.pr) (lb := M.lb) (n := "set_mark")
    dsimp! [h1, h2, HO.ins.injEq, T.cl_Marking, T.na_Marking_memory, flK_memory, f1]
    obtain ⟨⟨_, e⟩, he, rfl⟩ := List.mem_map.mp hpl
    have hA := h.tm.nd
    have hmk := hA.mk he
    have hgl := h.glen
    obtain ⟨xs, R, hR, eR⟩ := id h.tm
    subst eR
    obtain ⟨r, hr2, er⟩ := List.mem_map.mp he
    cases er
    have hth := hR.there hr2
    refine ⟨M, xs, _, r.pl, r.e, rfl, hth, _, rfl, ?_⟩
    cases em : r.e.mkd with
    | true =>
      refine iteF ?_
      have e1 : shd (R.map Rw.v, G) r.pl = (R.map Rw.v, G) := by
        unfold shd
        rw [if_pos (by dsimp only at hmk ⊢; rw [hmk]; exact em)]
      dsimp only at q
      rw [e1] at q
      exact q H (Kp.refl _ _) h
    | false =>
      have hnG : r.pl ∉ G := fun z => by
        obtain ⟨e2, he2, hm2⟩ := h.gm _ z
        have := hA.same he2 he rfl
        rw [Prod.mk.injEq] at this
        rw [this.2, em] at hm2
        cases hm2
      have e1 : shd (R.map Rw.v, G) r.pl = (setM (R.map Rw.v) r.pl, G ++ [r.pl]) := by
        unfold shd
        rw [if_neg (by dsimp only at hmk ⊢; rw [hmk, em]; exact Bool.false_ne_true)]
      dsimp only at q
      rw [e1] at q
      refine iteT ⟨_, _, _, h1, T.cl_Marking, T.na_Marking_memory, _, flK_memory _ _, _, rfl, _, _, h2, f2, M, xs, _, r.pl, r.e, true, rfl, hth, fun H1 xs1 cs1 k1 hM1 hc1 => ?_⟩
      have hT1 := hR.set k1 hM1 hc1
      rw [set_setM hA he] at hT1
      have hd1 := k1 _ _ (fun z => h.no (.inl z)) h.di
      have h11 := k1 _ _ (ne_of h1 hR.mem.R.li (by intro z; cases z)) h1
      refine ⟨_, _, _, h11, T.cl_Marking, T.na_Marking_grey_places, _, flK_grey _ _, _, rfl, _, DPut.k (k := Sum.inl (r.pl : Int)) hd1 (small1000 (by unfold gk; rw [List.length_map]; omega)), ?_⟩
      rw [putK_new _ (gk_no hnG)]
      have eg : gk G ++ [((Sum.inl (r.pl : Int) : Key), V.bl true)] = gk (G ++ [r.pl]) := by
        unfold gk
        rw [List.map_append]
        rfl
      rw [eg]
      have k2 : Kp (· = gd) H1 (upd H1 gd (.dK (gk (G ++ [r.pl])))) := (Kp.refl _ _).set rfl
      refine q _ ((k1.mono fun b z => .inl (.inl z)).trans (k2.mono fun b z => .inr z)) ⟨hT1.off k2 (fun b e => .inr ⟨gk G, by rw [e]; exact hd1⟩) (fun z => ?_) (fun b hb z => h.no (z ▸ hb)), ⟨dx, k2 _ _ (ne_of h11 hd1 (by intro z; cases z)) h11⟩, upd_same, h.no, fun p hp => ?_, ?_⟩
      · have := hT1.lb
        rw [show M.lb = gd from z, hd1] at this
        cases this
      · have hset : ∀ q ∈ R.map Rw.v, q.2.mkd = true ∨ q.1 = r.pl → ∃ e, (q.1, e) ∈ setM (R.map Rw.v) r.pl ∧ e.mkd = true := fun q hq hm => by
          by_cases z : q.1 = r.pl
          · exact ⟨⟨q.2.t, q.2.ser, true⟩, List.mem_map.mpr ⟨q, hq, by rw [if_pos z]⟩, rfl⟩
          · exact ⟨q.2, List.mem_map.mpr ⟨q, hq, by rw [if_neg z]⟩, hm.resolve_right z⟩
        rcases List.mem_append.mp hp with hp | hp
        · obtain ⟨e2, he2, hm2⟩ := h.gm p hp
          exact hset (p, e2) he2 (.inl hm2)
        · rw [List.mem_singleton.mp hp]
          exact hset (r.pl, r.e) he (.inr rfl)
      · exact nd_snoc h.nd hnG
def sp_z7 (a : Adr) (K : PySem.W.Frag) : Sp := fun vs H Q _ => ∃ M k gd E G l, ∃ ps : List Nat, vs = [.ref k, .ref l] ∧ MS a K H M k gd E G ∧ H l = some (.lst ((ps.map fun (p : Nat) => (p : Int)).map V.int)) ∧ ¬ M.own l ∧ (∀ p ∈ ps, p ∈ E.map (·.1)) ∧ E.length ≤ 900 ∧
  ∀ H', Kp (fun b => M.own b ∨ b = gd) H H' → MS a K H' M k gd (ps.foldl shd (E, G)).1 (ps.foldl shd (E, G)).2 → Q .non H'
theorem ok_z7 (T : Txt K mg a) : FnOk P w K mg base CX0 5 a.a_z7 a.d_z7 ["self", "places"] (sp_z7 a K) := by
  refine T.f_z7.ok sc_z7 (fun vs H Q E h => ?_) (fun cdv A outer s H vs Q E hr h => ?_)
  · obtain ⟨_, _, _, _, _, _, _, rfl, _⟩ := h
    rfl
  · obtain ⟨M, k, gd, E, G, l, ps, rfl, h, hl, nl, hps, hEl, q⟩ := h
    refine ⟨_, (pss_one (ps_forW PassesOwn.never rfl (pi_list (pv 1)) (pg_name (i := 2) sc_z7.nd rfl (Or.inl rfl)) pss_bodyT)), ?_⟩
    dsimp! []
    have nlg : l ≠ gd := ne_of hl h.di (by intro z; cases z)
    refine ⟨⟨_, SqL.of hl⟩, fw_list ((ps.map fun (p : Nat) => (p : Int)).map V.int) (fun i σ H1 => ∃ o2 : Option V, σ = [some (.ref k), some (.ref l), o2] ∧ Kp (fun b => M.own b ∨ b = gd) H H1 ∧ H1 l = some (.lst ((ps.map fun (p : Nat) => (p : Int)).map V.int)) ∧ MS a K H1 M k gd ((ps.take i).foldl shd (E, G)).1 ((ps.take i).foldl shd (E, G)).2) ⟨none, rfl, Kp.refl _ _, hl, h⟩ ?_ ?_ ?_⟩
    · rintro i σ H1 _ ⟨o2, rfl, _, hl1, _⟩
      exact SqL.of hl1
    · rintro i x σ H1 hx ⟨o2, rfl, k1, hl1, h1⟩
      obtain ⟨p, hp, rfl⟩ : ∃ p, ps[i]? = some p ∧ x = V.int (p : Nat) := by
        rw [List.getElem?_map, List.getElem?_map] at hx
        cases e : ps[i]? with
        | none => rw [e] at hx; cases hx
        | some w => rw [e] at hx; cases hx; exact ⟨w, rfl, rfl⟩
      obtain ⟨dx, hk⟩ := h1.ob
      have f1 := flK_no (m := M.p) (g := gd) (n := "shade")
      refine gN ?_
      refine bodyT.of (pss_one (ps_expr (pe_meth (pv 0) T.cl_Marking T.me_z6 (ok_z6 T) (hr.mono (by decide)) T.b_z6 .nil pass0 (pa_cons (pv 2) pa_nil)))) ?_
      dsimp! [hk, HO.ins.injEq, f1]
      have efs := shds_fst (ps.take i) (E, G)
      refine ⟨M, k, gd, _, _, p, rfl, h1, by rw [efs]; exact hps p (List.mem_of_getElem? hp), ?_, fun H2 k2 h2 => ⟨k1.trans k2, k2 _ _ (fun z => ?_) hl1, ?_⟩⟩
      · have := congrArg List.length efs
        rw [List.length_map, List.length_map] at this
        rw [this]
        exact hEl
      · rcases z with z | z
        · exact nl z
        · exact nlg z
      · rw [List.take_add_one, hp, List.foldl_append]
        exact h2
    · rintro σ H1 ⟨o2, rfl, k1, hl1, h1⟩
      rw [List.length_map, List.length_map, List.take_length] at h1
      exact q H1 k1 h1
def sp_z2 (a : Adr) (K : PySem.W.Frag) : Sp := fun vs H Q _ => ∃ M k gd E G, vs = [.ref k] ∧ MS a K H M k gd E G ∧ ∀ l, H l = none → Q (.ref l) (upd H l (.lst ((G.map fun (p : Nat) => (p : Int)).map V.int)))
theorem ok_z2 (T : Txt K mg a) : FnOk P w K mg base CX0 1 a.a_z2 a.d_z2 ["self"] (sp_z2 a K) := by
  refine T.f_z2.ok sc_z2 (fun vs H Q E h => ?_) (fun cdv A outer s H vs Q E hr h => ?_)
  · obtain ⟨_, _, _, _, _, rfl, _⟩ := h
    rfl
  · obtain ⟨M, k, gd, E, G, rfl, h, q⟩ := h
    refine ⟨_, (pss_one (ps_ret (pe_callTy (call_listD rfl) rfl T.n_list bt_list (pa_cons (pe_fld (pv 0) rfl) pa_nil)))), ?_⟩
    obtain ⟨dx, h1⟩ := h.ob
    dsimp! [h1, HO.ins.injEq, T.cl_Marking, T.na_Marking_grey_places, flK_grey]
    refine ⟨_, .inl h.di, fun l hl => ?_⟩
    rw [gk_keys]
    exact q l hl
def sp_z10 (a : Adr) (K : PySem.W.Frag) : Sp := fun vs H Q _ => ∃ M k gd E G p e, ∃ hn : List Nat, vs = [.ref k] ∧ MS a K H M k gd E (p :: G) ∧ (p, e) ∈ E ∧ e.t.hold = List.map (fun (n : Nat) => (n : Int)) hn ∧ (∀ n ∈ hn, n ∈ E.map (·.1)) ∧ E.length ≤ 900 ∧
  ∀ H', Kp (fun b => M.own b ∨ b = gd) H H' → MS a K H' M k gd (hn.foldl shd (E, G)).1 (hn.foldl shd (E, G)).2 → Q (.int (p : Nat)) H'
theorem ok_z10 (T : Txt K mg a) : FnOk P w K mg base CX0 11 a.a_z10 a.d_z10 ["self"] (sp_z10 a K) := by
  refine T.f_z10.ok sc_z10 (fun vs H Q E h => ?_) (fun cdv A outer s H vs Q E hr h => ?_)
  · obtain ⟨_, _, _, _, _, _, _, _, rfl, _⟩ := h
    rfl
  · obtain ⟨M, k, gd, E, G, p, e, hn, rfl, h, he, hhold, hin, hEl, q⟩ := h
    refine ⟨_, (pss_cons (ps_set (i := 1) sc_z10.nd rfl (Or.inl rfl) (pe_ix ix_list (pe_meth0 (pv 0) T.cl_Marking T.me_z2 (ok_z2 T) (hr.mono (by decide)) T.b_z2 .nil pass0) pe_int (fun _ _ => rfl))) (pss_cons (ps_expr (pe_dpop1 (pe_fld (pv 0) rfl) (pv 1) ⟨rfl, rfl, rfl, rfl⟩)) (pss_cons (ps_expr (pe_meth (pv 0) T.cl_Marking T.me_z7 (ok_z7 T) (hr.mono (by decide)) T.b_z7 .nil pass0 (pa_cons (pe_methV0 (L := [(a.c_Thing, sp_z38), (a.c_PlainThing, sp_z27 a K), (a.c_PairThing, sp_z38)]) (pe_meth (pe_fld (pv 0) rfl) T.cl_Memory T.me_z23 (ok_z23 T) (hr.mono (by decide)) T.b_z23 .nil pass0 (pa_cons (pv 1) pa_nil)) (List.forall_mem_cons.mpr ⟨⟨_, _, _, _, T.cl_Thing, T.me_z38, ok_z38 T, hr.mono (by decide), T.b_z38⟩, List.forall_mem_cons.mpr ⟨⟨_, _, _, _, T.cl_PlainThing, T.me_z27, ok_z27 T, hr.mono (by decide), T.b_z27⟩, List.forall_mem_cons.mpr ⟨⟨_, _, _, _, T.cl_PairThing, T.me_PairThing_holds, ok_z38 T, hr.mono (by decide), T.b_z38⟩, List.forall_mem_nil _⟩⟩⟩) .nil pass0) pa_nil))) (pss_one (ps_ret (pv 1)))))), ?_⟩
    obtain ⟨dx, h1⟩ := h.ob
    have f1 := flK_no (m := M.p) (g := gd) (n := "grey")
    dsimp! [h1, HO.ins.injEq, f1]
    refine ⟨M, k, gd, E, _, rfl, h, fun l hl => ⟨l, _, _, V.int (p : Nat), rfl, rfl, SqL.of upd_same, atI_nat (j := 0) rfl, ?_⟩⟩
    have s2 := Same.put (o := .lst (((p :: G).map fun (p : Nat) => (p : Int)).map V.int)) hl
    have h2 := h.same s2
    have h12 := s2 _ _ h1
    generalize upd H l (.lst (((p :: G).map fun (p : Nat) => (p : Int)).map V.int)) = H2 at s2 h2 h12
    have hpG : p ∉ G := (List.nodup_cons.mp h.nd).1
    obtain ⟨v, hv⟩ : ∃ v, valV (gk (p :: G)) (Sum.inl (p : Int)) = some v := Option.isSome_iff_exists.mp (by rw [gk_has]; simp)
    refine ⟨_, _, _, h12, T.cl_Marking, T.na_Marking_grey_places, _, flK_grey _ _, _, rfl, .inl ⟨_, .inl h2.di⟩, _, h2.di, Sum.inl (p : Int), rfl, v, hv, ?_⟩
    rw [gk_drop hpG]
    have k3 : Kp (· = gd) H2 (upd H2 gd (.dK (gk G))) := (Kp.refl _ _).set rfl
    have h3 : MS a K (upd H2 gd (.dK (gk G))) M k gd E G := ⟨h2.tm.off k3 (fun b e => .inr ⟨gk (p :: G), by rw [e]; exact h2.di⟩) (fun z => by
      have := h2.tm.lb
      rw [show M.lb = gd from z, h2.di] at this
      cases this) (fun b hb z => h.no (z ▸ hb)), ⟨dx, k3 _ _ (ne_of h12 h2.di (by intro z; cases z)) h12⟩, upd_same, h.no, fun q hq => h.gm q (List.mem_cons_of_mem _ hq), (List.nodup_cons.mp h.nd).2⟩
    generalize upd H2 gd (.dK (gk G)) = H3 at k3 h3
    obtain ⟨dx3, h13⟩ := h3.ob
    obtain ⟨dx4, hM3⟩ := h3.tm.ob
    obtain ⟨xs, es, hth⟩ := h3.tm.there he
    have k03 : Kp (fun b => M.own b ∨ b = gd) H H3 := (Same.kp s2).trans (k3.mono fun b z => .inr z)
    refine ⟨_, _, h13, flK_no, _, _, _, h13, T.cl_Marking, T.na_Marking_memory, _, flK_memory _ _, _, rfl, _, _, hM3, flM_no, M, xs, es, p, e, rfl, hth, fun tp td H4 s4 htp htd hT4 => ?_⟩
    obtain ⟨dx5, hT41⟩ := hT4.ob
    refine ⟨tp, rfl, _, _, _, hT41, e.t.no td, holds_mem e.t hT4 fun r hr5 => ?_⟩
    have s5 := Same.put (o := .lst (e.t.hold.map V.int)) hr5
    have h5 := h3.same (s4.trans s5)
    have hr0 : H3 r = none := s4.free hr5
    refine ⟨M, k, gd, E, G, r, hn, rfl, h5, by rw [← hhold]; exact upd_same, h3.tm.nown hr0, hin, hEl, fun H6 k6 h6 => ?_⟩
    exact q H6 ((k03.trans (Same.kp (s4.trans s5))).trans k6) h6
theorem VlL.snoc {H : Hp} {xs : List V} {vl : List Vl} {x : V} {v : Vl} (h : VlL K H xs vl) (hx : IsVl K H x v) : VlL K H (xs ++ [x]) (vl ++ [v]) := ⟨by simp [h.1], fun i y u a b => by
  have hl := h.1
  by_cases hi : i < xs.length
  · rw [List.getElem?_append_left hi] at a
    rw [List.getElem?_append_left (by omega)] at b
    exact h.2 i y u a b
  · have e : i = xs.length := by
      have := (List.getElem?_eq_some_iff.mp a).1
      simp at this
      omega
    subst e
    rw [List.getElem?_append_right (Nat.le_refl _), Nat.sub_self] at a
    rw [← hl, List.getElem?_append_right (Nat.le_refl _), Nat.sub_self] at b
    cases a
    cases b
    exact hx⟩
def sp_z55 : Sp := fun vs H Q _ => ∃ c, vs = [.int c] ∧ ∀ z, Q (.int z) H
theorem ok_z55 (T : Txt K mg a) : FnOk P w K mg base CX0 1 a.a_z55 a.d_z55 ["_law_cell"] sp_z55 := by
  refine T.f_z55.ok sc_z55 (fun vs H Q E h => ?_) (fun cdv A outer s H vs Q E hr h => ?_)
  · obtain ⟨_, rfl, _⟩ := h
    rfl
  · obtain ⟨c, rfl, q⟩ := h
    refine ⟨_, (pss_cons (ps_set (i := 1) sc_z55.nd rfl (Or.inl rfl) (pe_op op_fdivL (pv 0) pe_int)) (pss_cons ps_stT pss_bodyT)), ?_⟩
    dsimp! []
    refine ⟨.small (by decide) (by decide), joinW (fun σ' H' => H' = H ∧ ∃ z : Int, σ' = [some (.int c), some (.int z)]) (stT.of (ps_if (pt_cmpR op_eq (pe_op op_mod (pv 0) pe_int) pe_int (nomark _)) (pss_cons (ps_set (i := 1) sc_z55.nd rfl (Or.inl rfl) (pe_op op_mod (pe_op op_mul (pe_op op_add (pe_op op_mod (pv 1) pe_int) pe_int) pe_int) pe_int)) (pss_one (ps_set (i := 1) sc_z55.nd rfl (Or.inl rfl) (pe_op op_fdivL (pe_op op_mul (pe_op op_mod (pe_op op_mul (pv 1) pe_int) pe_int) (pe_op op_pow pe_int pe_int)) pe_int)))) pss_nil) ?_) ?_⟩
    · dsimp! []
      have c0 := Int.emod_nonneg (c / 2) (show (2147483647 : Int) ≠ 0 by decide)
      have c1 := Int.emod_lt_of_pos (c / 2) (show (0 : Int) < 2147483647 by decide)
      refine ⟨by decide, ite2 (fun _ => ?_) fun _ => ⟨_, rfl⟩⟩
      exact ⟨by decide, .inr ⟨by decide, by decide⟩, by decide, .inr ⟨by decide, by decide⟩, by decide, ⟨by decide, by decide, by decide⟩, .inl ⟨by omega, by omega⟩, .small (by decide) (by decide), _, rfl⟩
    · rintro σ' H' ⟨rfl, z, rfl⟩
      refine bodyT.of (pss_one (ps_ret (pv 1))) ?_
      dsimp! []
      exact q z
def sp_z56 (a : Adr) (K : PySem.W.Frag) : Sp := fun vs H Q _ => ∃ fl fx, ∃ t : Tg, vs = [.str t.sort, .ref fl, wV t.words] ∧ SqL K H fl fx ∧ VlL K H fx t.fs ∧ fx.length ≤ 1000 ∧ ∀ p d H', Same H H' → H p = none → H d = none → ThAt a K H' p d t → Q (.ref p) H'
theorem ok_z56 (T : Txt K mg a) : FnOk P w K mg base CX0 9 a.a_z56 a.d_z56 ["_law_sort", "_law_fields", "_law_words"] (sp_z56 a K) := by
  refine T.f_z56.ok sc_z56 (fun vs H Q E h => ?_) (fun cdv A outer s H vs Q E hr h => ?_)
  · obtain ⟨_, _, _, rfl, _⟩ := h
    rfl
  · obtain ⟨fl, fx, t, rfl, hl, hv, hz, q⟩ := h
    refine ⟨_, (pss_cons (ps_if (pt_cmpR op_eq (pv 0) pe_str (nomark _)) (pss_one (ps_ret (pe_call (ok_z59 T) (hr.mono (by decide)) rfl T.m_z59 T.f_z59.kp T.b_z59 .nil pass0 (pa_cons (pv 1) (pa_cons (pv 2) pa_nil))))) pss_nil) (pss_cons (ps_if (pt_cmpR op_eq (pv 0) pe_str (nomark _)) (pss_one (ps_ret (pe_call (ok_z62 T) (hr.mono (by decide)) rfl T.m_z62 T.f_z62.kp T.b_z62 .nil pass0 (pa_cons (pe_ix ix_list (pv 1) pe_int (fun _ _ => rfl)) pa_nil)))) pss_nil) (pss_one (ps_ret (pe_call (ok_z58 T) (hr.mono (by decide)) rfl T.m_z58 T.f_z58.kp T.b_z58 .nil pass0 (pa_cons (pe_ix ix_list (pv 1) pe_int (fun _ _ => rfl)) (pa_cons (pe_ix ix_list (pv 1) pe_int (fun _ _ => rfl)) pa_nil))))))), ?_⟩
    cases t with
    | plain fs w =>
      dsimp! [Tg.sort]
      exact ⟨fl, fx, fs, w, rfl, hl, hv, hz, q⟩
    | weak f =>
      dsimp! [Tg.sort, n_wp]
      have hl1 : 0 < fx.length := by rw [← hv.1]; show 0 < 1; decide
      have g0 : fx[0]? = some fx[0] := List.getElem?_eq_getElem hl1
      exact ⟨fl, fx, _, fx[0], rfl, rfl, hl, atI_nat (j := 0) g0, _, f, rfl, hv.2 0 _ _ g0 rfl, q⟩
    | pair k v =>
      dsimp! [Tg.sort, n_pp, n_pw]
      have hl2 : 1 < fx.length := by rw [← hv.1]; show 1 < 2; decide
      have g0 : fx[0]? = some fx[0] := List.getElem?_eq_getElem (by omega)
      have g1 : fx[1]? = some fx[1] := List.getElem?_eq_getElem hl2
      exact ⟨fl, fx, _, fx[0], rfl, rfl, hl, atI_nat (j := 0) g0, fl, fx, _, fx[1], rfl, rfl, hl, atI_nat (j := 1) g1, _, _, k, v, rfl, hv.2 0 _ _ g0 rfl, hv.2 1 _ _ g1 rfl, q⟩
structure Gn where
  ra : Addr
  fl : Addr
  t : Tg
  num : Int
structure Gn.ok (K : PySem.W.Frag) (H : Hp) (n : Gn) : Prop where
  row : H n.ra = some (.lst [.str n.t.sort, .ref n.fl, wV n.t.words, .int n.num])
  fls : ∃ fx, H n.fl = some (.lst fx) ∧ VlL K H fx n.t.fs ∧ fx.length ≤ 3
def ren (ps : List Nat) : Vl → Vl
  | .th n => .th ((ps.getD n.toNat 0 : Nat) : Int)
  | v => v
def adrs (lr lp : Addr) (N : List Gn) : List Addr := lr :: lp :: (N.map Gn.ra ++ N.map Gn.fl)
structure GR (a : Adr) (K : PySem.W.Frag) (H : Hp) (M : MA) (lr lp : Addr) (E : List (Nat × En)) (N : List Gn) (x : Nat) : Prop where
  tm : TM a K H M E
  hr : H lr = some (.lst (N.map fun n => V.ref n.ra))
  hp : H lp = some (.lst (E.map fun p => V.int (p.1 : Nat)))
  ok : ∀ n ∈ N, n.ok K H
  len : E.length = N.length
  rel : ∀ (i : Nat) p n, i ≠ x → E[i]? = some p → N[i]? = some n → p.2.t.sort = n.t.sort ∧ p.2.t.fs = n.t.fs.map (ren (E.map (·.1)))
  nd : (adrs lr lp N).Nodup
  no : ∀ b ∈ adrs lr lp N, ¬ M.own b ∧ M.lb ≠ b
  sw : ∀ (i : Nat) p n, E[i]? = some p → N[i]? = some n → p.2.ser = 2 * (i : Int) + 1 ∧ p.2.t.words = n.t.words
theorem Gn.ok.kp {S : Addr → Prop} {H H' : Hp} {n : Gn} (h : n.ok K H) (k : Kp S H H') (mu : ∀ b, S b → Mu H b) (n1 : ¬ S n.ra) (n2 : ¬ S n.fl) : n.ok K H' := by
  obtain ⟨fx, h1, h2, h3⟩ := h.fls
  exact ⟨k _ _ n1 h.row, fx, k _ _ n2 h1, h2.kp k mu, h3⟩
theorem mem_ra {lr lp : Addr} {N : List Gn} {n : Gn} (h : n ∈ N) : n.ra ∈ adrs lr lp N := List.mem_cons_of_mem _ (List.mem_cons_of_mem _ (List.mem_append_left _ (List.mem_map.mpr ⟨n, h, rfl⟩)))
theorem mem_fl {lr lp : Addr} {N : List Gn} {n : Gn} (h : n ∈ N) : n.fl ∈ adrs lr lp N := List.mem_cons_of_mem _ (List.mem_cons_of_mem _ (List.mem_append_right _ (List.mem_map.mpr ⟨n, h, rfl⟩)))
theorem GR.kp {S : Addr → Prop} {H H' : Hp} {M : MA} {lr lp : Addr} {E : List (Nat × En)} {N : List Gn} {x : Nat} (h : GR a K H M lr lp E N x) (k : Kp S H H') (mu : ∀ b, S b → Mu H b) (ns : ∀ b ∈ adrs lr lp N, ¬ S b) (hT : TM a K H' M E) : GR a K H' M lr lp E N x :=
  ⟨hT, k _ _ (ns _ List.mem_cons_self) h.hr, k _ _ (ns _ (List.mem_cons_of_mem _ List.mem_cons_self)) h.hp, fun n hn => (h.ok n hn).kp k mu (ns _ (mem_ra hn)) (ns _ (mem_fl hn)), h.len, h.rel, h.nd, h.no, h.sw⟩
theorem GR.same {H H' : Hp} {M : MA} {lr lp : Addr} {E : List (Nat × En)} {N : List Gn} {x : Nat} (h : GR a K H M lr lp E N x) (k : Same H H') : GR a K H' M lr lp E N x :=
  h.kp (S := fun _ => False) (Same.kp k) (fun _ z => z.elim) (fun _ _ z => z) (h.tm.same k)
theorem GR.some_ {H : Hp} {M : MA} {lr lp : Addr} {E : List (Nat × En)} {N : List Gn} {x : Nat} (h : GR a K H M lr lp E N x) : ∀ b ∈ adrs lr lp N, ∃ xs, H b = some (.lst xs) := fun b hb => by
  rcases List.mem_cons.mp hb with rfl | hb
  · exact ⟨_, h.hr⟩
  rcases List.mem_cons.mp hb with rfl | hb
  · exact ⟨_, h.hp⟩
  rcases List.mem_append.mp hb with hb | hb
  · obtain ⟨n, hn, rfl⟩ := List.mem_map.mp hb
    exact ⟨_, (h.ok n hn).row⟩
  · obtain ⟨n, hn, rfl⟩ := List.mem_map.mp hb
    obtain ⟨fx, h1, _⟩ := (h.ok n hn).fls
    exact ⟨fx, h1⟩
theorem rep_one (x : V) : ∀ n : Nat, (List.replicate n [x]).flatten = List.replicate n x
  | 0 => rfl
  | n + 1 => by rw [List.replicate_succ, List.flatten_cons, rep_one x n]; rfl
theorem VlL.nos {H : Hp} {x : V} (h : IsVl K H x .no) {fs : List Vl} (hf : ∀ v ∈ fs, v = Vl.no) : VlL K H (List.replicate fs.length x) fs := ⟨by rw [List.length_replicate], fun i y v hy hv => by
  have e1 := List.eq_of_mem_replicate (List.mem_of_getElem? hy)
  have e2 := hf v (List.mem_of_getElem? hv)
  rw [e1, e2]
  exact h⟩
theorem ren_no {ps : List Nat} {fs : List Vl} (hf : ∀ v ∈ fs, v = Vl.no) : fs.map (ren ps) = fs := by
  refine (List.map_congr_left fun v hv => ?_).trans (List.map_id fs)
  rw [hf v hv]
  rfl
theorem GR.more {H H1 H2 : Hp} {M : MA} {lr lp ra fl : Addr} {E : List (Nat × En)} {N : List Gn} {x : Nat} {g : Nat} {t : Tg} {ser num : Int} {mk : Bool} {fx : List V} (h : GR a K H M lr lp E N x) (k : Kp M.own H H1) (hT : TM a K H1 M (E ++ [(g, ⟨t, ser, mk⟩)])) (hfl : H1 fl = some (.lst fx)) (hfx : VlL K H1 fx t.fs) (hfl3 : fx.length ≤ 3)
    (nfl : ∀ b ∈ adrs lr lp N, b ≠ fl) (ofl : ¬ M.own fl ∧ M.lb ≠ fl) (hra : H1 ra = none)
    (hn1 : ∀ v ∈ t.fs, v = Vl.no) (hn : ∀ n ∈ N, ∀ v ∈ n.t.fs, v = Vl.no) (hser : ser = 2 * (E.length : Int) + 1)
    (e2 : H2 = upd (upd (upd H1 ra (.lst [.str t.sort, .ref fl, wV t.words, .int num])) lr (.lst ((N.map fun n => V.ref n.ra) ++ [.ref ra]))) lp (.lst ((E.map fun p => V.int (p.1 : Nat)) ++ [.int (g : Nat)]))) :
    GR a K H2 M lr lp (E ++ [(g, ⟨t, ser, mk⟩)]) (N ++ [⟨ra, fl, t, num⟩]) x ∧ Kp (fun b => b = lr ∨ b = lp) H1 H2 := by
  have hlr1 : H1 lr = some (.lst (N.map fun n => V.ref n.ra)) := k _ _ (h.no lr List.mem_cons_self).1 h.hr
  have hlp1 : H1 lp = some (.lst (E.map fun p => V.int (p.1 : Nat))) := k _ _ (h.no lp (List.mem_cons_of_mem _ List.mem_cons_self)).1 h.hp
  have nrp : lr ≠ lp := fun z => by
    have := h.nd
    unfold adrs at this
    rw [z] at this
    simp at this
  have nra : ∀ b u, H1 b = some u → b ≠ ra := fun b u e => ne_of_none e hra
  have k2 : Kp (fun b => b = lr ∨ b = lp) H1 H2 := fun b u n e => by
    rw [e2, upd_ne (fun z => n (.inr z)), upd_ne (fun z => n (.inl z)), upd_ne (nra b u e)]
    exact e
  have mu : ∀ b, (b = lr ∨ b = lp) → Mu H1 b := fun b hb => by
    rcases hb with rfl | rfl
    · exact .inl ⟨_, hlr1⟩
    · exact .inl ⟨_, hlp1⟩
  have hfresh : ∀ b ∈ adrs lr lp N, ∃ u, H1 b = some u := fun b hb => by
    obtain ⟨xs, e⟩ := h.some_ b hb
    exact ⟨_, k _ _ (h.no b hb).1 e⟩
  have hno2 : ∀ n ∈ N, ¬ (n.ra = lr ∨ n.ra = lp) ∧ ¬ (n.fl = lr ∨ n.fl = lp) := fun n hn => by
    have hd := h.nd
    unfold adrs at hd
    obtain ⟨d1, d2⟩ := List.nodup_cons.mp hd
    obtain ⟨d3, _⟩ := List.nodup_cons.mp d2
    have m1 : n.ra ∈ N.map Gn.ra ++ N.map Gn.fl := List.mem_append_left _ (List.mem_map.mpr ⟨n, hn, rfl⟩)
    have m2 : n.fl ∈ N.map Gn.ra ++ N.map Gn.fl := List.mem_append_right _ (List.mem_map.mpr ⟨n, hn, rfl⟩)
    constructor
    · rintro (z | z)
      · exact d1 (List.mem_cons_of_mem _ (z ▸ m1))
      · exact d3 (z ▸ m1)
    · rintro (z | z)
      · exact d1 (List.mem_cons_of_mem _ (z ▸ m2))
      · exact d3 (z ▸ m2)
  have nral : ra ≠ lr := (nra lr _ hlr1).symm
  have nrap : ra ≠ lp := (nra lp _ hlp1).symm
  have nrf : fl ≠ ra := nra fl _ hfl
  have nfr : ¬ (fl = lr ∨ fl = lp) := fun z => by
    rcases z with z | z
    · exact nfl lr List.mem_cons_self z.symm
    · exact nfl lp (List.mem_cons_of_mem _ List.mem_cons_self) z.symm
  have hlb : M.lb ≠ ra := nra _ _ hT.lb
  refine ⟨⟨hT.off k2 mu (fun z => ?_) (fun b hb z => ?_), ?_, ?_, fun n hn => ?_, ?_, fun i p n hx hp hn => ?_, ?_, fun b hb => ?_, fun i p n hp hn => ?_⟩, k2⟩
  · rcases z with z | z
    · exact (h.no lr List.mem_cons_self).2 z
    · exact (h.no lp (List.mem_cons_of_mem _ List.mem_cons_self)).2 z
  · rcases z with rfl | rfl
    · exact (h.no _ List.mem_cons_self).1 hb
    · exact (h.no _ (List.mem_cons_of_mem _ List.mem_cons_self)).1 hb
  · rw [e2, upd_ne nrp, upd_same, List.map_append]
    rfl
  · rw [e2, upd_same, List.map_append]
    rfl
  · rcases List.mem_append.mp hn with hn | hn
    · obtain ⟨n1, n2⟩ := hno2 n hn
      exact ((h.ok n hn).kp k h.tm.mu (h.no _ (mem_ra hn)).1 (h.no _ (mem_fl hn)).1).kp k2 mu n1 n2
    · rw [List.mem_singleton.mp hn]
      refine ⟨?_, fx, k2 _ _ nfr hfl, hfx.kp k2 mu, hfl3⟩
      rw [e2, upd_ne nrap, upd_ne nral, upd_same]
  · rw [List.length_append, List.length_append, h.len]
    rfl
  · by_cases hi : i < E.length
    · rw [List.getElem?_append_left hi] at hp
      rw [List.getElem?_append_left (by rw [← h.len]; exact hi)] at hn
      obtain ⟨r1, r2⟩ := h.rel i p n hx hp hn
      have hh := ‹∀ n ∈ N, ∀ v ∈ n.t.fs, v = Vl.no› n (List.mem_of_getElem? hn)
      rw [ren_no hh] at r2 ⊢
      exact ⟨r1, r2⟩
    · have ei : i = E.length := by
        have := (List.getElem?_eq_some_iff.mp hp).1
        rw [List.length_append, List.length_singleton] at this
        omega
      subst ei
      rw [List.getElem?_append_right (Nat.le_refl _), Nat.sub_self] at hp
      rw [h.len, List.getElem?_append_right (Nat.le_refl _), Nat.sub_self] at hn
      cases hp
      cases hn
      exact ⟨rfl, (ren_no hn1).symm⟩
  · have hd := h.nd
    unfold adrs at hd ⊢
    have hra2 : ra ∉ lr :: lp :: (N.map Gn.ra ++ N.map Gn.fl) := fun z => by
      obtain ⟨u, e⟩ := hfresh ra z
      rw [hra] at e
      cases e
    have hfl2 : fl ∉ lr :: lp :: (N.map Gn.ra ++ N.map Gn.fl) := fun z => nfl fl z rfl
    rw [List.map_append, List.map_append]
    have hp : (lr :: lp :: (N.map Gn.ra ++ [ra] ++ (N.map Gn.fl ++ [fl]))).Perm (ra :: fl :: (lr :: lp :: (N.map Gn.ra ++ N.map Gn.fl))) := by
      have e1 : N.map Gn.ra ++ [ra] ++ (N.map Gn.fl ++ [fl]) = N.map Gn.ra ++ (ra :: (N.map Gn.fl ++ [fl])) := by simp
      rw [e1]
      refine (((List.perm_middle (l₁ := N.map Gn.ra)).cons lp).cons lr).trans ?_
      refine (((List.Perm.swap ra lp _).cons lr).trans (List.Perm.swap ra lr _)).trans (List.Perm.cons ra ?_)
      have e2 : N.map Gn.ra ++ (N.map Gn.fl ++ [fl]) = (N.map Gn.ra ++ N.map Gn.fl) ++ [fl] := by simp
      rw [e2]
      exact (List.perm_append_singleton fl (lr :: lp :: (N.map Gn.ra ++ N.map Gn.fl)))
    refine hp.nodup_iff.mpr (List.nodup_cons.mpr ⟨fun z => ?_, List.nodup_cons.mpr ⟨hfl2, hd⟩⟩)
    rcases List.mem_cons.mp z with z | z
    · exact nrf z.symm
    · exact hra2 z
  · have hm : b ∈ adrs lr lp N ∨ b = ra ∨ b = fl := by
      unfold adrs at hb ⊢
      rw [List.map_append, List.map_append] at hb
      simp only [List.mem_cons, List.mem_append, List.map_cons, List.map_nil, List.not_mem_nil, or_false] at hb ⊢
      rcases hb with z | z | (z | z) | (z | z)
      · exact .inl (.inl z)
      · exact .inl (.inr (.inl z))
      · exact .inl (.inr (.inr (.inl z)))
      · exact .inr (.inl z)
      · exact .inl (.inr (.inr (.inr z)))
      · exact .inr (.inr z)
    rcases hm with hm | rfl | rfl
    · exact h.no b hm
    · exact ⟨hT.nown hra, hlb⟩
    · exact ofl
  · by_cases hi : i < E.length
    · rw [List.getElem?_append_left hi] at hp
      rw [List.getElem?_append_left (by rw [← h.len]; exact hi)] at hn
      exact h.sw i p n hp hn
    · have ei : i = E.length := by
        have := (List.getElem?_eq_some_iff.mp hp).1
        rw [List.length_append, List.length_singleton] at this
        omega
      subst ei
      rw [List.getElem?_append_right (Nat.le_refl _), Nat.sub_self] at hp
      rw [h.len, List.getElem?_append_right (Nat.le_refl _), Nat.sub_self] at hn
      cases hp
      cases hn
      exact ⟨hser, rfl⟩
theorem setE_fst (E : List (Nat × En)) (pl : Nat) (e' : En) : (setE E pl e').map (·.1) = E.map (·.1) := by
  unfold setE
  rw [List.map_map]
  refine List.map_congr_left fun p _ => ?_
  show (if p.1 = pl then (pl, e') else p).1 = p.1
  by_cases z : p.1 = pl
  · rw [if_pos z]
    exact z.symm
  · rw [if_neg z]
theorem setE_at {E : List (Nat × En)} (h : Aps E) {k : Nat} {pl : Nat} {e e' : En} (hk : E[k]? = some (pl, e)) (i : Nat) : (setE E pl e')[i]? = if i = k then some (pl, e') else E[i]? := by
  unfold setE
  rw [List.getElem?_map]
  by_cases z : i = k
  · subst z
    rw [hk, if_pos rfl, Option.map_some, if_pos rfl]
  · rw [if_neg z]
    cases e1 : E[i]? with
    | none => rfl
    | some p =>
      rw [Option.map_some, if_neg fun y => ?_]
      obtain ⟨hi, e2⟩ := List.getElem?_eq_some_iff.mp e1
      obtain ⟨hk2, e3⟩ := List.getElem?_eq_some_iff.mp hk
      rcases Nat.lt_or_gt_of_ne z with q | q
      · exact List.pairwise_iff_getElem.mp h i k hi hk2 q (by rw [e2, e3]; exact y)
      · exact List.pairwise_iff_getElem.mp h k i hk2 hi q (by rw [e2, e3]; exact y.symm)
theorem GR.set {H H' : Hp} {M : MA} {lr lp : Addr} {E : List (Nat × En)} {N : List Gn} {k : Nat} {pl : Nat} {e e' : En} (h : GR a K H M lr lp E N k) (kk : Kp (· = M.d) H H') (hT : TM a K H' M (setE E pl e')) (hk : E[k]? = some (pl, e)) (hd : Mu H M.d) (hsw : e'.ser = e.ser ∧ e'.t.words = e.t.words) : GR a K H' M lr lp (setE E pl e') N k where
  tm := hT
  hr := kk _ _ (fun z => (h.no lr List.mem_cons_self).1 (.inl z)) h.hr
  hp := by
    have e1 : (setE E pl e').map (fun p => V.int (p.1 : Nat)) = E.map fun p => V.int (p.1 : Nat) := by
      have := congrArg (List.map fun (n : Nat) => V.int (n : Int)) (setE_fst E pl e')
      rw [List.map_map, List.map_map] at this
      exact this
    rw [e1]
    exact kk _ _ (fun z => (h.no lp (List.mem_cons_of_mem _ List.mem_cons_self)).1 (.inl z)) h.hp
  ok := fun n hn => (h.ok n hn).kp kk (fun b z => by rw [z]; exact hd) (fun z => (h.no _ (mem_ra hn)).1 (.inl z)) (fun z => (h.no _ (mem_fl hn)).1 (.inl z))
  len := by
    rw [← h.len]
    exact List.length_map _
  rel := fun i p n hi hp hn => by
    rw [setE_at h.tm.nd hk, if_neg hi] at hp
    rw [setE_fst]
    exact h.rel i p n hi hp hn
  nd := h.nd
  no := h.no
  sw := fun i p n hp hn => by
    rw [setE_at h.tm.nd hk] at hp
    split at hp
    · next hi =>
      subst hi
      cases hp
      obtain ⟨s1, s2⟩ := h.sw i _ n hk hn
      exact ⟨hsw.1.trans s1, hsw.2.trans s2⟩
    · exact h.sw i p n hp hn
def Tg.withF : Tg → List Vl → Tg
  | .plain _ w, fs => .plain fs w
  | .weak _, [f] => .weak f
  | .pair _ _, [k, v] => .pair k v
  | t, _ => t
theorem Tg.withF_ok (t : Tg) (fs : List Vl) (h : fs.length = t.fs.length) : (t.withF fs).sort = t.sort ∧ (t.withF fs).words = t.words ∧ (t.withF fs).fs = fs := by
  cases t with
  | plain _ w => exact ⟨rfl, rfl, rfl⟩
  | weak f =>
    match fs, h with
    | [x], _ => exact ⟨rfl, rfl, rfl⟩
  | pair k v =>
    match fs, h with
    | [x, y], _ => exact ⟨rfl, rfl, rfl⟩
theorem nd_set {α : Type} {l : List α} {x : α} (h : l.Nodup) (hx : x ∉ l) (i : Nat) : (l.set i x).Nodup := by
  refine List.pairwise_iff_getElem.mpr fun p q hp hq hpq => ?_
  rw [List.length_set] at hp hq
  rw [List.getElem_set, List.getElem_set]
  by_cases h1 : i = p
  · rw [if_pos h1, if_neg (by omega)]
    exact fun z => hx (z ▸ List.getElem_mem hq)
  · rw [if_neg h1]
    by_cases h2 : i = q
    · rw [if_pos h2]
      exact fun z => hx (z ▸ List.getElem_mem hp)
    · rw [if_neg h2]
      exact List.pairwise_iff_getElem.mp h p q hp hq hpq
theorem adrs_set {lr lp : Addr} {N : List Gn} {k : Nat} {n : Gn} (hn : N[k]? = some n) (fl' : Addr) (t' : Tg) (num : Int) : adrs lr lp (N.set k ⟨n.ra, fl', t', num⟩) = (adrs lr lp N).set (2 + (N.length + k)) fl' := by
  have e1 : (N.set k ⟨n.ra, fl', t', num⟩).map Gn.ra = N.map Gn.ra := by
    rw [List.map_set]
    obtain ⟨hk, e⟩ := List.getElem?_eq_some_iff.mp hn
    have : (N.map Gn.ra).set k n.ra = N.map Gn.ra := by
      have h2 : (N.map Gn.ra)[k]? = some n.ra := by rw [List.getElem?_map, hn]; rfl
      refine List.ext_getElem? fun i => ?_
      by_cases z : k = i
      · subst z
        rw [List.getElem?_set_self (by rw [List.length_map]; exact hk), h2]
      · rw [List.getElem?_set_ne z]
    exact this
  unfold adrs
  rw [e1, List.map_set, show 2 + (N.length + k) = (N.length + k) + 1 + 1 by omega, List.set_cons_succ, List.set_cons_succ, List.set_append_right _ _ (by rw [List.length_map]; omega), List.length_map, Nat.add_sub_cancel_left]
theorem GR.row {H H2 : Hp} {M : MA} {lr lp fl' : Addr} {E : List (Nat × En)} {N : List Gn} {k : Nat} {n : Gn} {p : Nat × En} {fx : List V} {vs : List Vl} (h : GR a K H M lr lp E N k) (hn : N[k]? = some n) (hp : E[k]? = some p) (hfl : H fl' = some (.lst fx)) (hvl : VlL K H fx vs) (h3 : fx.length ≤ 3) (hvn : vs.length = n.t.fs.length)
    (nfl : fl' ∉ adrs lr lp N) (ofl : ¬ M.own fl' ∧ M.lb ≠ fl') (rk : p.2.t.sort = n.t.sort ∧ p.2.t.fs = vs.map (ren (E.map (·.1)))) (e2 : H2 = upd H n.ra (.lst [.str n.t.sort, .ref fl', wV n.t.words, .int n.num])) :
    GR a K H2 M lr lp E (N.set k ⟨n.ra, fl', n.t.withF vs, n.num⟩) 1000 ∧ Kp (· = n.ra) H H2 := by
  have hnN : n ∈ N := List.mem_of_getElem? hn
  obtain ⟨hk, ek⟩ := List.getElem?_eq_some_iff.mp hn
  have hra := (h.ok n hnN).row
  have k2 : Kp (· = n.ra) H H2 := by
    rw [e2]
    exact (Kp.refl _ _).set rfl
  have mu : ∀ b, b = n.ra → Mu H b := fun b e => .inl ⟨[.str n.t.sort, .ref n.fl, wV n.t.words, .int n.num], by rw [e]; exact hra⟩
  obtain ⟨w1, w2, w3⟩ := n.t.withF_ok vs hvn
  have hd := h.nd
  unfold adrs at hd
  obtain ⟨d1, d2⟩ := List.nodup_cons.mp hd
  obtain ⟨d3, d4⟩ := List.nodup_cons.mp d2
  obtain ⟨d5, d6, d7⟩ := List.pairwise_append.mp d4
  have m1 : ∀ m ∈ N, m.ra ∈ N.map Gn.ra := fun m hm => List.mem_map.mpr ⟨m, hm, rfl⟩
  have m2 : ∀ m ∈ N, m.fl ∈ N.map Gn.fl := fun m hm => List.mem_map.mpr ⟨m, hm, rfl⟩
  have nlr : lr ≠ n.ra := fun z => d1 (List.mem_cons_of_mem _ (List.mem_append_left _ (z ▸ m1 n hnN)))
  have nlp : lp ≠ n.ra := fun z => d3 (List.mem_append_left _ (z ▸ m1 n hnN))
  have nfl2 : ∀ m ∈ N, m.fl ≠ n.ra := fun m hm z => d7 _ (m1 n hnN) _ (m2 m hm) z.symm
  have nfr : fl' ≠ n.ra := fun z => nfl (z ▸ mem_ra hnN)
  refine ⟨⟨h.tm.off k2 mu (h.no _ (mem_ra hnN)).2 fun b hb z => (h.no _ (mem_ra hnN)).1 (z ▸ hb), ?_, k2 _ _ nlp h.hp, fun m hm => ?_, by rw [List.length_set]; exact h.len, fun i q m hi hq hm => ?_, ?_, fun b hb => ?_, fun i q m hq hm => ?_⟩, k2⟩
  · have e1 : (N.set k ⟨n.ra, fl', n.t.withF vs, n.num⟩).map (fun n => V.ref n.ra) = N.map fun n => V.ref n.ra := by
      refine List.ext_getElem? fun i => ?_
      rw [List.getElem?_map, List.getElem?_map]
      by_cases z : k = i
      · subst z
        rw [List.getElem?_set_self hk, hn]
        rfl
      · rw [List.getElem?_set_ne z]
    rw [e1]
    exact k2 _ _ nlr h.hr
  · obtain ⟨i, hi⟩ := List.mem_iff_getElem?.mp hm
    by_cases z : k = i
    · subst z
      rw [List.getElem?_set_self hk] at hi
      cases hi
      refine ⟨?_, fx, k2 _ _ nfr hfl, ?_, h3⟩
      · dsimp only
        rw [e2, upd_same, w1, w2]
      · dsimp only
        rw [w3]
        exact hvl.kp k2 mu
    · rw [List.getElem?_set_ne z] at hi
      have hmN := List.mem_of_getElem? hi
      refine (h.ok m hmN).kp k2 mu (fun y => ?_) (nfl2 m hmN)
      obtain ⟨hi2, ei⟩ := List.getElem?_eq_some_iff.mp hi
      have := nodup_at d5 (i := i) (j := k) (by rw [List.length_map]; exact hi2) (by rw [List.length_map]; exact hk) (by rw [List.getElem_map, List.getElem_map, ei, ek]; exact y)
      exact z this.symm
  · by_cases z : k = i
    · subst z
      rw [List.getElem?_set_self hk] at hm
      cases hm
      rw [hp] at hq
      cases hq
      dsimp only
      rw [w1, w3]
      exact rk
    · rw [List.getElem?_set_ne z] at hm
      exact h.rel i q m (fun y => z y.symm) hq hm
  · rw [adrs_set hn]
    exact nd_set h.nd nfl _
  · rw [adrs_set hn] at hb
    rcases List.mem_or_eq_of_mem_set hb with hb | rfl
    · exact h.no b hb
    · exact ofl
  · by_cases z : k = i
    · subst z
      rw [List.getElem?_set_self hk] at hm
      cases hm
      obtain ⟨s1, s2⟩ := h.sw k q n hq hn
      exact ⟨s1, by rw [s2]; exact w2.symm⟩
    · rw [List.getElem?_set_ne z] at hm
      exact h.sw i q m hq hm
theorem GR.ex {H : Hp} {M : MA} {lr lp : Addr} {E : List (Nat × En)} {N : List Gn} (h : GR a K H M lr lp E N 1000) (he : E.length ≤ 24) (k : Nat) : GR a K H M lr lp E N k :=
  ⟨h.tm, h.hr, h.hp, h.ok, h.len, fun i p n _ hp hn => h.rel i p n (by have := (List.getElem?_eq_some_iff.mp hp).1; omega) hp hn, h.nd, h.no, h.sw⟩
theorem GR.list {H H' : Hp} {M : MA} {lr lp l : Addr} {ys : List V} {E : List (Nat × En)} {N : List Gn} {x : Nat} (h : GR a K H M lr lp E N x) (k : Kp (· = l) H H') (hl : H l = some (.lst ys)) (n1 : l ∉ adrs lr lp N) (n2 : ¬ M.own l ∧ M.lb ≠ l) : GR a K H' M lr lp E N x := by
  have mu : ∀ b, b = l → Mu H b := fun b e => .inl ⟨ys, by rw [e]; exact hl⟩
  exact h.kp k mu (fun b hb z => n1 (z ▸ hb)) (h.tm.off k mu n2.2 fun b hb z => n2.1 (z ▸ hb))
theorem mix_set {A B : List Vl} {j : Nat} {x : Vl} (hA : A.length = j) (hj : j < B.length) : (A ++ B.drop j).set j x = A ++ [x] ++ B.drop (j + 1) := by
  rw [List.set_append_right _ _ (by omega), hA, Nat.sub_self, List.drop_eq_getElem_cons hj, List.set_cons_zero, List.append_assoc]
  rfl
def Tg.withW : Tg → Option Int → Tg
  | .plain fs _, w => .plain fs w
  | t, _ => t
theorem e62 : (10 : Int) ^ Int.toNat 62 = 100000000000000000000000000000000000000000000000000000000000000 := by decide +kernel
theorem e60 : (10 : Int) ^ Int.toNat 60 = 1000000000000000000000000000000000000000000000000000000000000 := by decide +kernel
def sp_z54 (a : Adr) (K : PySem.W.Frag) : Sp := fun vs H Q _ => ∃ sc ns M, ∃ st : Nat, vs = [.ref sc, .ref M.p, .int (st : Nat)] ∧ SqL K H sc (List.map V.int ns) ∧ TM a K H M [] ∧
  ∀ (t lr lp : Addr) (H' : Hp) (E : List (Nat × En)) (N : List Gn), Kp M.own H H' → GR a K H' M lr lp E N 1000 → E.length ≤ 24 → H' t = some (.tup [.ref lr, .ref lp]) → (∀ b ∈ adrs lr lp N, H b = none) → (∀ n ∈ N, ∀ z, Vl.th z ∈ n.t.fs → 0 ≤ z ∧ z < E.length) → (∀ p ∈ E, p.2.mkd = false) → Q (.ref t) H'
theorem ok_z54 (T : Txt K mg a) : FnOk P w K mg base CX0 10 a.a_z54 a.d_z54 ["_law_script", "_law_memory", "_law_start"] (sp_z54 a K) := by
  refine T.f_z54.ok sc_z54 (fun vs H Q E h => ?_) (fun cdv A outer s H vs Q E hr h => ?_)
  · obtain ⟨_, _, _, _, rfl, _⟩ := h
    rfl
  · obtain ⟨sc, ns, M, st, rfl, hS, hT, q⟩ := h
    refine ⟨_, (pss_cons (ps_set (i := 3) sc_z54.nd rfl (Or.inl rfl) (pe_lst pa_nil)) (pss_cons (ps_set (i := 4) sc_z54.nd rfl (Or.inl rfl) (pe_lst pa_nil)) (pss_cons (ps_forW PassesOwn.never rfl (pi_list (pe_slice sl_list (pv 0) (po_some (pv 2)) (po_some (pe_op op_add (pv 2) pe_int)))) (pg_name (i := 5) sc_z54.nd rfl (Or.inl rfl)) pss_bodyT) pss_bodyT))), ?_⟩
    dsimp! []
    refine fun lr hlr lp hlp => ?_
    have s1 := Same.put (o := .lst []) hlr
    have s2 := s1.trans (Same.put (o := .lst []) hlp)
    have hlp0 : H lp = none := s1.free hlp
    have nrp : lr ≠ lp := ne_of_none upd_same hlp
    have hr2 : upd (upd H lr (.lst [])) lp (.lst []) lr = some (.lst []) := by rw [upd_ne nrp, upd_same]
    have hp2 : upd (upd H lr (.lst [])) lp (.lst []) lp = some (.lst []) := upd_same
    generalize upd (upd H lr (.lst [])) lp (.lst []) = H2 at s2 hr2 hp2
    refine ⟨sc, _, rfl, s2.seq hS, fun lc hlc => ?_⟩
    obtain ⟨cs, ecs⟩ : ∃ cs, cutV (ns.map V.int) (some ((st : Nat) : Int)) (some ((st : Int) + 24)) = cs := ⟨_, rfl⟩
    rw [ecs]
    have ci : ∀ x ∈ cs, ∃ z, x = V.int z := fun x hx => by
      rw [← ecs] at hx
      have h1 := List.mem_of_mem_drop (List.mem_of_mem_take hx)
      obtain ⟨z, _, e⟩ := List.mem_map.mp h1
      exact ⟨z, e.symm⟩
    have hcl : cs.length ≤ 24 := by
      rw [← ecs]
      unfold cutV
      rw [show (st : Int) + 24 = ((st + 24 : Nat) : Int) by simp, HT.sIx_nat, HT.sIx_nat, List.length_take]
      omega
    have s3 := s2.trans (Same.put (o := .lst cs) hlc)
    have hc3 : upd H2 lc (.lst cs) lc = some (.lst cs) := upd_same
    have hr3 := (Same.put (o := .lst cs) hlc) _ _ hr2
    have hp3 := (Same.put (o := .lst cs) hlc) _ _ hp2
    have hlc0 : H lc = none := s2.free hlc
    have ncr : lc ≠ lr := (ne_of_none hr2 hlc).symm
    have ncp : lc ≠ lp := (ne_of_none hp2 hlc).symm
    generalize upd H2 lc (.lst cs) = H3 at s3 hc3 hr3 hp3
    have nlb : ∀ b, H b = none → M.lb ≠ b := fun b hb z => by
      have := hT.lb
      rw [z, hb] at this
      cases this
    have G0 : GR a K H3 M lr lp [] [] 1000 := ⟨hT.same s3, hr3, hp3, fun n hn => (nomatch hn), rfl, fun i p n _ h => by simp at h, by simp [adrs, nrp], (fun b hb => by
      rcases List.mem_cons.mp hb with rfl | hb
      · exact ⟨hT.nown hlr, nlb _ hlr⟩
      · rcases List.mem_cons.mp hb with rfl | hb
        · exact ⟨hT.nown hlp0, nlb _ hlp0⟩
        · simp at hb), fun i p n h => by simp at h⟩
    refine ⟨lc, rfl, ⟨_, SqL.of hc3⟩, fw_list cs (fun i σ H4 => ∃ (o5 o6 o7 o8 o9 o10 o11 : Option V) (E : List (Nat × En)) (N : List Gn), σ = [some (.ref sc), some (.ref M.p), some (.int (st : Nat)), some (.ref lr), some (.ref lp), o5, o6, o7, o8, o9, o10, o11, none, none, none] ∧ Kp M.own H H4 ∧ H4 lc = some (.lst cs) ∧ GR a K H4 M lr lp E N 1000 ∧ E.length ≤ i ∧ (∀ n ∈ N, ∀ v ∈ n.t.fs, v = Vl.no) ∧ (∀ b ∈ adrs lr lp N, H b = none) ∧ ∀ p ∈ E, p.2.mkd = false)
      ⟨none, none, none, none, none, none, none, [], [], rfl, Same.kp s3, hc3, G0, Nat.zero_le _, fun n hn => (nomatch hn), fun b hb => ?_, fun p hp => (nomatch hp)⟩ ?_ ?_ ?_⟩
    · rcases List.mem_cons.mp hb with rfl | hb
      · exact hlr
      · rcases List.mem_cons.mp hb with rfl | hb
        · exact hlp0
        · simp at hb
    · rintro i σ H4 _ ⟨_, _, _, _, _, _, _, _, _, rfl, _, hc4, _⟩
      exact SqL.of hc4
    · rintro i x σ H4 hi ⟨o5, o6, o7, o8, o9, o10, o11, E, N, rfl, k4, hc4, G4, hEl, hno, hfr, hmk⟩
      obtain ⟨c, rfl⟩ := ci x (List.mem_of_getElem? hi)
      have hil := (List.getElem?_eq_some_iff.mp hi).1
      refine gN ?_
      refine bodyT.of (pss_cons (ps_set (i := 6) sc_z54.nd rfl (Or.inl rfl) (pe_call (ok_z55 T) (hr.mono (by decide)) rfl T.m_z55 T.f_z55.kp T.b_z55 .nil pass0 (pa_cons (pv 5) pa_nil))) (pss_cons (ps_set (i := 7) sc_z54.nd rfl (Or.inl rfl) (pe_ix ix_list (@pe_lst _ _ _ _ (@pa_cons _ _ _ _ _ pe_str (@pa_cons _ _ _ _ _ pe_str (@pa_cons _ _ _ _ _ pe_str (@pa_cons _ _ _ _ _ pe_str pa_nil rfl) rfl) rfl) rfl)) (pe_op op_mod (pv 6) pe_int) (fun _ _ => rfl))) (pss_cons (ps_set (i := 8) sc_z54.nd rfl (Or.inl rfl) (pe_ix ix_list (pe_lst (pa_cons (pe_op op_mod (pe_op op_fdivL (pv 6) pe_int) pe_int) (pa_cons pe_int (pa_cons pe_int pa_nil)))) (pe_bm PySem.F.plainAttrs_list PySem.F.slot_list_index PySem.F.type_list_index mt_indexL (pe_lst (pa_cons pe_str (pa_cons pe_str (pa_cons pe_str pa_nil)))) (pa_cons (pv 7) pa_nil)) (fun _ _ => rfl))) (pss_cons (ps_set (i := 9) sc_z54.nd rfl (Or.inl rfl) pe_non) (pss_cons ps_stT pss_bodyT))))) ?_
      dsimp! []
      refine ⟨c, rfl, fun z => ⟨by simp [sizeLine_eq], fun l1 hl1 => ⟨z, rfl, by decide, ?_⟩⟩⟩
      obtain ⟨t1, hso, hsz, hn1, hle3, hw1⟩ : ∃ t1 : Tg, atI [V.str "plain", V.str "plain", V.str "weak", V.str "pair"] (z % 4) = some (.str t1.sort) ∧ atI [V.int (z / 4 % 4), V.int 1, V.int 2] (t1.kn : Int) = some (.int (t1.fs.length : Nat)) ∧ (∀ v ∈ t1.fs, v = Vl.no) ∧ t1.fs.length ≤ 3 ∧ t1.words = none := by
        have hpl : ∀ k : Int, (k = 0 ∨ k = 1) → ∃ t1 : Tg, atI [V.str "plain", V.str "plain", V.str "weak", V.str "pair"] k = some (.str t1.sort) ∧ atI [V.int (z / 4 % 4), V.int 1, V.int 2] (t1.kn : Int) = some (.int (t1.fs.length : Nat)) ∧ (∀ v ∈ t1.fs, v = Vl.no) ∧ t1.fs.length ≤ 3 ∧ t1.words = none := fun k hk => by
          refine ⟨.plain (List.replicate (z / 4 % 4).toNat .no) none, ?_, ?_, fun v hv => List.eq_of_mem_replicate hv, ?_, rfl⟩
          · rcases hk with rfl | rfl <;> rfl
          · show some (V.int (z / 4 % 4)) = _
            congr 2
            show _ = (((List.replicate (z / 4 % 4).toNat Vl.no).length : Nat) : Int)
            rw [List.length_replicate]
            omega
          · show (List.replicate (z / 4 % 4).toNat Vl.no).length ≤ 3
            rw [List.length_replicate]
            omega
        rcases (by omega : z % 4 = 0 ∨ z % 4 = 1 ∨ z % 4 = 2 ∨ z % 4 = 3) with e | e | e | e <;> rw [e]
        · exact hpl 0 (.inl rfl)
        · exact hpl 1 (.inr rfl)
        · exact ⟨.weak .no, rfl, rfl, fun v hv => List.mem_singleton.mp hv, by decide, rfl⟩
        · exact ⟨.pair .no .no, rfl, rfl, fun v hv => by
            have : v ∈ [Vl.no, Vl.no] := hv
            simpa using this, by decide, rfl⟩
      have s5 := Same.put (o := .lst [V.str "plain", V.str "plain", V.str "weak", V.str "pair"]) hl1
      have hl15 : upd H4 l1 (.lst [V.str "plain", V.str "plain", V.str "weak", V.str "pair"]) l1 = some (.lst [V.str "plain", V.str "plain", V.str "weak", V.str "pair"]) := upd_same
      generalize upd H4 l1 (.lst [V.str "plain", V.str "plain", V.str "weak", V.str "pair"]) = H5 at s5 hl15
      refine ⟨l1, _, _, _, rfl, rfl, SqL.of hl15, hso, z, rfl, .small (by decide) (by decide), by decide, by simp [sizeLine_eq], fun l2 hl2 => ⟨by simp [sizeLine_eq], fun l3 hl3 => ?_⟩⟩
      have s6 := s5.trans ((Same.put (o := .lst [V.int (z / 4 % 4), V.int 1, V.int 2]) hl2).trans (Same.put (o := .lst [V.str "plain", V.str "weak", V.str "pair"]) hl3))
      have hl26 : upd (upd H5 l2 (.lst [V.int (z / 4 % 4), V.int 1, V.int 2])) l3 (.lst [V.str "plain", V.str "weak", V.str "pair"]) l2 = some (.lst [V.int (z / 4 % 4), V.int 1, V.int 2]) := (Same.put (o := .lst [V.str "plain", V.str "weak", V.str "pair"]) hl3) _ _ upd_same
      have hl36 : upd (upd H5 l2 (.lst [V.int (z / 4 % 4), V.int 1, V.int 2])) l3 (.lst [V.str "plain", V.str "weak", V.str "pair"]) l3 = some (.lst [V.str "plain", V.str "weak", V.str "pair"]) := upd_same
      generalize upd (upd H5 l2 (.lst [V.int (z / 4 % 4), V.int 1, V.int 2])) l3 (.lst [V.str "plain", V.str "weak", V.str "pair"]) = H6 at s6 hl26 hl36
      refine ⟨.inl ⟨rfl, _, SqL.of hl36⟩, ["plain", "weak", "pair"], t1.sort, rfl, hl36, t1.kn, t1.ix, t1.ixn, by decide, l2, _, _, _, rfl, rfl, SqL.of hl26, hsz, ?_⟩
      refine joinW (fun σ' H' => ∃ w : Option Int, σ' = [some (.ref sc), some (.ref M.p), some (.int (st : Nat)), some (.ref lr), some (.ref lp), some (.int c), some (.int z), some (.str t1.sort), some (.int (t1.fs.length : Nat)), some (wV w), o10, o11, none, none, none] ∧ (t1.withW w).words = w ∧ H' = H6) (stT.of (ps_if (PW.pt (pw_and (pt_cmpR op_eq (pv 7) pe_str (nomark _)) (pw_and1 (pt_cmpR op_eq (pe_op op_mod (pe_op op_fdivL (pv 6) pe_int) pe_int) pe_int (nomark _))))) (pss_one (ps_set (i := 9) sc_z54.nd rfl (Or.inl rfl) (pe_op op_mod (pe_op op_fdivL (pv 6) pe_int) (pe_op op_pow pe_int pe_int)))) pss_nil) ?_) ?_
      · have hnone : (t1.withW none).words = none := by
          cases t1 <;> rfl
        dsimp! [e60]
        refine ite2 (fun hp => ⟨.small (by decide) (by decide), by decide, ite2 (fun _ => ?_) fun _ => ⟨none, rfl, hnone⟩⟩) fun _ => ⟨none, rfl, hnone⟩
        have hp2 : t1.sort = "plain" := of_decide_eq_true hp
        refine ⟨.small (by decide) (by decide), ⟨by decide, by decide, by decide⟩, by decide, some (z / 48 % 1000000000000000000000000000000000000000000000000000000000000), rfl, ?_⟩
        cases t1 with
        | plain fs w => rfl
        | weak f => exact absurd hp2 n_wp
        | pair k v => exact absurd hp2 n_pp
      · rintro σ' H' ⟨w, rfl, hw, rfl⟩
        obtain ⟨t, et⟩ : ∃ t, t1.withW w = t := ⟨_, rfl⟩
        have ets : t.sort = t1.sort := by
          rw [← et]
          cases t1 <;> rfl
        have etf : t.fs = t1.fs := by
          rw [← et]
          cases t1 <;> rfl
        rw [et] at hw
        rw [← etf] at hn1 hle3 ⊢
        rw [← ets]
        refine bodyT.of (pss_cons (ps_set (i := 10) sc_z54.nd rfl (Or.inl rfl) (pe_op op_rep (pe_lst (pa_cons (pe_tup (pa_cons pe_str pa_nil)) pa_nil)) (pv 8))) (pss_cons (ps_set (i := 11) sc_z54.nd rfl (Or.inl rfl) (pe_meth (pv 1) T.cl_Memory T.me_z17 (ok_z17 T) (hr.mono (by decide)) T.b_z17 .nil pass0 (pa_cons (pe_call (ok_z56 T) (hr.mono (by decide)) rfl T.m_z56 T.f_z56.kp T.b_z56 .nil pass0 (pa_cons (pv 7) (pa_cons (pv 10) (pa_cons (pv 9) pa_nil)))) (pa_cons (pe_op op_add (pe_op op_mul pe_int (pe_callB call_len_seq rfl T.n_len bt_len (pa_cons (pv 3) pa_nil))) pe_int) (pa_cons pe_bl pa_nil))))) (pss_one (ps_if (pt_cmpR op_notN (pv 11) pe_non (nomark _)) (pss_cons (ps_expr (pe_bm PySem.F.plainAttrs_list PySem.F.slot_list_append PySem.F.type_list_append mt_append (pv 3) (@pa_cons _ _ _ _ _ (@pe_lst _ _ _ _ (@pa_cons _ _ _ _ _ (pv 7) (@pa_cons _ _ _ _ _ (pv 10) (@pa_cons _ _ _ _ _ (pv 9) (@pa_cons _ _ _ _ _ (pe_op op_fdivL (pv 6) (pe_op op_pow pe_int pe_int)) pa_nil rfl) rfl) rfl) rfl)) pa_nil rfl))) (pss_one (ps_expr (pe_bm PySem.F.plainAttrs_list PySem.F.slot_list_append PySem.F.type_list_append mt_append (pv 4) (pa_cons (pv 11) pa_nil))))) pss_nil)))) ?_
        dsimp! [e62]
        refine ⟨by simp [sizeLine_eq], fun tn htn => ⟨by simp [sizeLine_eq], fun ln hln => ?_⟩⟩
        have s7 := s6.trans ((Same.put (o := .tup [V.str "nothing"]) htn).trans (Same.put (o := .lst [V.ref tn]) hln))
        have htn7 : upd (upd H' tn (.tup [V.str "nothing"])) ln (.lst [V.ref tn]) tn = some (.tup [V.str "nothing"]) := (Same.put (o := .lst [V.ref tn]) hln) _ _ upd_same
        have hln7 : upd (upd H' tn (.tup [V.str "nothing"])) ln (.lst [V.ref tn]) ln = some (.lst [V.ref tn]) := upd_same
        generalize upd (upd H' tn (.tup [V.str "nothing"])) ln (.lst [V.ref tn]) = H7 at s7 htn7 hln7
        refine ⟨ln, _, _, rfl, rfl, hln7, by omega, by omega, by rw [Int.toNat_natCast, List.length_singleton, Nat.one_mul]; exact Nat.le_of_lt (small1000 (by omega)), fun fl hfl => ?_⟩
        rw [Int.toNat_natCast, rep_one]
        have s8 := s7.trans (Same.put (o := .lst (List.replicate t.fs.length (V.ref tn))) hfl)
        have hfl8 : upd H7 fl (.lst (List.replicate t.fs.length (V.ref tn))) fl = some (.lst (List.replicate t.fs.length (V.ref tn))) := upd_same
        have htn8 := (Same.put (o := .lst (List.replicate t.fs.length (V.ref tn))) hfl) _ _ htn7
        have hfl4 : H4 fl = none := s7.free hfl
        generalize upd H7 fl (.lst (List.replicate t.fs.length (V.ref tn))) = H8 at s8 hfl8 htn8
        have hvl8 : VlL K H8 (List.replicate t.fs.length (V.ref tn)) t.fs := VlL.nos ⟨tn, rfl, SqT.of htn8⟩ hn1
        have G8 := G4.same s8
        obtain ⟨dx8, hM8⟩ := G8.tm.ob
        refine ⟨_, _, hM8, flM_no, fl, _, t, by rw [hw], SqL.of hfl8, hvl8, by rw [List.length_replicate]; omega, fun p d H9 s9 hp hd hT9 => ?_⟩
        have s09 := s8.trans s9
        have G9 := G8.same s9
        have hNl := G4.len
        refine ⟨_, .inl (SqL.of G9.hr), .inl ⟨by decide, by decide⟩, ?_⟩
        obtain ⟨xs, R, hR, eR⟩ := id G9.tm
        have hRl : R.length = E.length := by
          rw [← eR, List.length_map]
        refine ⟨M, xs, _, p, d, t, _, _, rfl, hR.mem, hT9, by omega, by rw [List.length_map]; omega, ?_⟩
        have hc9 := s09 _ _ hc4
        have nfl0 : H fl = none := by
          cases e : H fl with
          | none => rfl
          | some u =>
            by_cases z : M.own fl
            · exact absurd z (G4.tm.nown hfl4)
            · rw [k4 fl u z e] at hfl4
              cases hfl4
        constructor
        · intro g csx H10 hg k10 hM10 hc10
          have hT10 := hR.more k10 hM10 hc10
          rw [eR] at hT10
          have nof : ¬ M.own fl := G4.tm.nown hfl4
          have hfl10 := k10 _ _ nof (s9 _ _ hfl8)
          have hvl10 := (hvl8.same s9).kp k10 G9.tm.mu
          have hc10' := k10 _ _ (hT.nown hlc0) hc9
          have hlr10 := k10 _ _ (G9.no lr List.mem_cons_self).1 G9.hr
          have hlp10 := k10 _ _ (G9.no lp (List.mem_cons_of_mem _ List.mem_cons_self)).1 G9.hp
          dsimp! []
          refine ⟨.inl ⟨rfl, _, SqL.of hlr10⟩, ⟨by decide, by decide, by decide⟩, ⟨by decide, .inr (by decide +kernel)⟩, by simp [sizeLine_eq], fun ra hra => ?_⟩
          have nlrr : lr ≠ ra := ne_of_none hlr10 hra
          have nlpr : lp ≠ ra := ne_of_none hlp10 hra
          refine ⟨lr, _, _, rfl, rfl, by rw [upd_ne nlrr]; exact hlr10, small1000 (by rw [List.length_map]; omega), .inl ⟨rfl, _, SqL.of (by rw [upd_ne nrp.symm, upd_ne nlpr]; exact hlp10)⟩, lp, _, _, rfl, rfl, by rw [upd_ne nrp.symm, upd_ne nlpr]; exact hlp10, small1000 (by rw [List.length_map]; omega), ?_⟩
          have hsr : ∀ b ∈ adrs lr lp N, b ≠ fl := fun b hb => by
            obtain ⟨u, e⟩ := G4.some_ b hb
            exact ne_of_none e hfl4
          rw [← hw]
          obtain ⟨G11, k11⟩ := G9.more (ra := ra) (num := z / 100000000000000000000000000000000000000000000000000000000000000) k10 hT10 hfl10 hvl10 (by rw [List.length_replicate]; exact hle3) hsr ⟨nof, nlb _ nfl0⟩ hra hn1 hno (by rw [List.length_map, hNl]) rfl
          have kk : Kp M.own H H10 := (k4.trans (Same.kp s09)).trans k10
          refine ⟨fun b u n e => ?_, k11 _ _ (fun z => ?_) hc10', _, _, G11, by rw [List.length_append, List.length_singleton]; omega, fun n hn => ?_, fun b hb => ?_, fun p hp => ?_⟩
          · refine k11 b u (fun z => ?_) (kk b u n e)
            rcases z with rfl | rfl
            · rw [hlr] at e
              cases e
            · rw [hlp0] at e
              cases e
          · rcases z with z | z
            · exact ncr z
            · exact ncp z
          · rcases List.mem_append.mp hn with hn | hn
            · exact hno n hn
            · rw [List.mem_singleton.mp hn]
              exact hn1
          · have hra0 : H ra = none := by
              cases e : H ra with
              | none => rfl
              | some u =>
                by_cases z : M.own ra
                · exact absurd z (hT10.nown hra)
                · rw [kk ra u z e] at hra
                  cases hra
            unfold adrs at hb hfr
            rw [List.map_append, List.map_append] at hb
            simp only [List.mem_cons, List.mem_append, List.map_cons, List.map_nil, List.not_mem_nil, or_false] at hb hfr
            rcases hb with z | z | (z | z) | (z | z)
            · exact hfr b (.inl z)
            · exact hfr b (.inr (.inl z))
            · exact hfr b (.inr (.inr (.inl z)))
            · rw [z]
              exact hra0
            · exact hfr b (.inr (.inr (.inr z)))
            · rw [z]
              exact nfl0
          · rcases List.mem_append.mp hp with hp | hp
            · exact hmk p hp
            · rw [List.mem_singleton.mp hp]
        · intro H10 hg s10
          dsimp! []
          exact ⟨(k4.trans (Same.kp s09)).trans (Same.kp s10), s10 _ _ hc9, E, N, G9.same s10, by omega, hno, hfr, hmk⟩
    · rintro σ H4 ⟨o5, o6, o7, o8, o9, o10, o11, E, N, rfl, k4, hc4, G4, hEl, hno, hfr, hmk⟩
      have hE24 : E.length ≤ 24 := by omega
      refine bodyT.of (pss_cons (ps_forW PassesOwn.never rfl (pi_range1 rfl T.n_range (pa_cons (pe_callB call_len_seq rfl T.n_len bt_len (pa_cons (pv 3) pa_nil)) pa_nil)) (pg_name (i := 12) sc_z54.nd rfl (Or.inl rfl)) pss_bodyT) pss_bodyT) ?_
      dsimp! []
      have hNl := G4.len
      refine ⟨_, .inl (SqL.of G4.hr), by rw [List.length_map]; omega, by rw [List.length_map]; omega, ?_⟩
      rw [List.length_map]
      have hcl0 : ∀ n ∈ N, ∀ z, Vl.th z ∈ n.t.fs → 0 ≤ z ∧ z < (E.length : Int) := fun n hn z hz => by
        have := hno n hn _ hz
        cases this
      obtain ⟨L, hLE⟩ : ∃ L, E.length = L := ⟨_, rfl⟩
      rw [hLE] at hcl0 hE24 hNl
      rw [← hNl]
      clear hno hEl
      refine fw_range (fun i σ H5 => ∃ (o6 o10 o12 o13 o14 : Option V) (E : List (Nat × En)) (N : List Gn), σ = [some (.ref sc), some (.ref M.p), some (.int (st : Nat)), some (.ref lr), some (.ref lp), o5, o6, o7, o8, o9, o10, o11, o12, o13, o14] ∧ Kp M.own H H5 ∧ GR a K H5 M lr lp E N 1000 ∧ E.length = L ∧ (∀ n ∈ N, ∀ z, Vl.th z ∈ n.t.fs → 0 ≤ z ∧ z < (L : Int)) ∧ (∀ b ∈ adrs lr lp N, H b = none) ∧ ∀ p ∈ E, p.2.mkd = false)
        ⟨o6, o10, none, none, none, E, N, rfl, k4, G4, hLE, hcl0, hfr, hmk⟩ ?_ ?_
      · rintro k σ H5 hk ⟨o6, o10, o12, o13, o14, E, N, rfl, k5, G5, hE5, hcl5, hfr5, hmk5⟩
        have hkN : k < N.length := by rw [← G5.len, hE5]; exact hk
        have hkE : k < E.length := by rw [hE5]; exact hk
        obtain ⟨n, en⟩ : ∃ n, N[k] = n := ⟨_, rfl⟩
        obtain ⟨⟨pl, e⟩, ep⟩ : ∃ p, E[k] = p := ⟨_, rfl⟩
        have hn : N[k]? = some n := by rw [List.getElem?_eq_getElem hkN, en]
        have hp : E[k]? = some (pl, e) := by rw [List.getElem?_eq_getElem hkE, ep]
        have hnN := List.mem_of_getElem? hn
        have hrow := (G5.ok n hnN).row
        obtain ⟨fx0, hfl0, hvl0, hfx3⟩ := (G5.ok n hnN).fls
        have hatR : atI (N.map fun n => V.ref n.ra) (k : Int) = some (V.ref n.ra) := atI_nat (by rw [List.getElem?_map, hn]; rfl)
        refine gN ?_
        refine bodyT.of (pss_cons (ps_set (i := 6) sc_z54.nd rfl (Or.inl rfl) (pe_ix ix_list (pe_ix ix_list (pv 3) (pv 12) (fun _ _ => rfl)) pe_int (fun _ _ => rfl))) (pss_cons (ps_set (i := 10) sc_z54.nd rfl (Or.inl rfl) (pe_lst pa_nil)) (pss_cons (ps_forW PassesOwn.never rfl (pi_range1 rfl T.n_range (pa_cons (pe_callB call_len_seq rfl T.n_len bt_len (pa_cons (pe_ix ix_list (pe_ix ix_list (pv 3) (pv 12) (fun _ _ => rfl)) pe_int (fun _ _ => rfl)) pa_nil)) pa_nil)) (pg_name (i := 13) sc_z54.nd rfl (Or.inl rfl)) pss_bodyT) pss_bodyT))) ?_
        dsimp! [Int.zero_add]
        refine ⟨lr, _, _, _, rfl, rfl, SqL.of G5.hr, hatR, n.ra, _, _, _, rfl, rfl, SqL.of hrow, rfl, fun fl' hfl' => ?_⟩
        have s6 := Same.put (o := .lst []) hfl'
        have G6 := G5.same s6
        have hfl6 : upd H5 fl' (.lst []) fl' = some (.lst []) := upd_same
        have hfn : fl' ∉ adrs lr lp N := fun z => by
          obtain ⟨u, e⟩ := G5.some_ _ z
          rw [e] at hfl'
          cases hfl'
        have hfo : ¬ M.own fl' ∧ M.lb ≠ fl' := ⟨G5.tm.nown hfl', fun z => by
          have := G5.tm.lb
          rw [z, hfl'] at this
          cases this⟩
        have hrow6 := s6 _ _ hrow
        have hf06 := s6 _ _ hfl0
        have k6 := k5.trans (Same.kp (S := M.own) s6)
        generalize upd H5 fl' (.lst []) = H6 at s6 G6 hfl6 hrow6 hf06 k6
        refine ⟨lr, _, _, _, rfl, rfl, SqL.of G6.hr, hatR, n.ra, _, _, _, rfl, rfl, SqL.of hrow6, rfl, n.fl, rfl, _, .inl (SqL.of hf06), by omega, by omega, ?_⟩
        obtain ⟨r1, r2⟩ := G5.rel k _ _ (by omega) hp hn
        have hfxl : fx0.length = e.t.fs.length := by
          rw [r2, List.length_map]
          exact hvl0.1.symm
        refine fw_range (fun j σ H7 => ∃ (num : Int) (o13 o14 : Option V) (E' : List (Nat × En)) (e' : En) (fx : List V) (vs : List Vl), σ = [some (.ref sc), some (.ref M.p), some (.int (st : Nat)), some (.ref lr), some (.ref lp), o5, some (.int num), o7, o8, o9, some (.ref fl'), o11, some (.int (k : Nat)), o13, o14] ∧ Kp M.own H H7 ∧ GR a K H7 M lr lp E' N k ∧ E'.map (·.1) = E.map (·.1) ∧ E'[k]? = some (pl, e') ∧ e'.t.sort = n.t.sort ∧ e'.t.fs = vs.map (ren (E.map (·.1))) ++ e.t.fs.drop j ∧ H7 fl' = some (.lst fx) ∧ VlL K H7 fx vs ∧ vs.length = j ∧ (∀ z, Vl.th z ∈ vs → 0 ≤ z ∧ z < (L : Int)) ∧ ∀ p ∈ E', p.2.mkd = false)
          ⟨n.num, o13, o14, E, e, [], [], rfl, k6, G6.ex (by omega) k, rfl, hp, r1, rfl, hfl6, VlL.nil _ _, rfl, fun z hz => (nomatch hz), hmk5⟩ ?_ ?_
        · rintro j σ H7 hj ⟨num, o13, o14, E', e', fx, vs, rfl, k7, G7, hE7, hp7, hs7, hf7, hfl7, hvl7, hvj, hth7, hmk7⟩
          have hE7l : E'.length = L := by
            have := congrArg List.length hE7
            rw [List.length_map, List.length_map] at this
            omega
          have hatR7 := hatR
          have hrow7 := (G7.ok n hnN).row
          refine gN ?_
          refine bodyT.of (pss_cons (ps_set (i := 14) sc_z54.nd rfl (Or.inl rfl) (pe_ix ix_list (pe_lst (pa_cons (pe_tup (pa_cons pe_str pa_nil)) (pa_cons (pe_tup (pa_cons pe_str (pa_cons (pe_op op_mod (pv 6) pe_int) pa_nil))) (pa_cons (pe_tup (pa_cons pe_str (pa_cons (pe_op op_mod (pe_op op_fdivL (pv 6) pe_int) (pe_callB call_len_seq rfl T.n_len bt_len (pa_cons (pv 3) pa_nil))) pa_nil))) pa_nil)))) (pe_callB (call_min2 rfl) rfl T.n_min bt_min (pa_cons pe_int (pa_cons (pe_op op_mod (pv 6) pe_int) pa_nil))) (fun _ _ => rfl))) (pss_cons ps_stT pss_bodyT)) ?_
          dsimp! [Int.zero_add]
          have hLpos : 0 < L := by omega
          refine ⟨by simp [sizeLine_eq], fun t1 ht1 => ⟨by decide, by simp [sizeLine_eq], fun t2 ht2 => ⟨.small (by decide) (by decide), N.map fun n => V.ref n.ra, .inl (((Same.put ht1).trans (Same.put ht2)).seq (SqL.of G7.hr)), by rw [List.length_map]; omega, by simp [sizeLine_eq], fun t3 ht3 => ⟨by simp [sizeLine_eq], fun l4 hl4 => ⟨by decide, ?_⟩⟩⟩⟩⟩
          rw [List.length_map, ← G7.len, hE7l] at hl4 ⊢
          have s1' := (Same.put (o := .tup [V.str "nothing"]) ht1)
          have s2' := (Same.put (o := .tup [V.str "number", V.int (num % 7)]) ht2)
          have s3' := (Same.put (o := .tup [V.str "thing", V.int (num / 5 % (L : Int))]) ht3)
          have s4' := (Same.put (o := .lst [V.ref t1, V.ref t2, V.ref t3]) hl4)
          have s8 := ((s1'.trans s2').trans s3').trans s4'
          have i1 := (s2'.trans (s3'.trans s4')) _ _ (upd_same (H := H7) (a := t1) (o := .tup [V.str "nothing"]))
          have i2 := (s3'.trans s4') _ _ (upd_same (H := upd H7 t1 (.tup [V.str "nothing"])) (a := t2) (o := .tup [V.str "number", V.int (num % 7)]))
          have i3 := s4' _ _ (upd_same (H := upd (upd H7 t1 (.tup [V.str "nothing"])) t2 (.tup [V.str "number", V.int (num % 7)])) (a := t3) (o := .tup [V.str "thing", V.int (num / 5 % (L : Int))]))
          have i4 : upd (upd (upd (upd H7 t1 (.tup [V.str "nothing"])) t2 (.tup [V.str "number", V.int (num % 7)])) t3 (.tup [V.str "thing", V.int (num / 5 % (L : Int))])) l4 (.lst [V.ref t1, V.ref t2, V.ref t3]) l4 = some (.lst [V.ref t1, V.ref t2, V.ref t3]) := upd_same
          generalize upd (upd (upd (upd H7 t1 (.tup [V.str "nothing"])) t2 (.tup [V.str "number", V.int (num % 7)])) t3 (.tup [V.str "thing", V.int (num / 5 % (L : Int))])) l4 (.lst [V.ref t1, V.ref t2, V.ref t3]) = H8 at s8 i1 i2 i3 i4
          clear s1' s2' s3' s4'
          have m0 := Int.emod_nonneg (num / 5) (show (L : Int) ≠ 0 by omega)
          have m1 := Int.emod_lt_of_pos (num / 5) (show (0 : Int) < (L : Int) by omega)
          obtain ⟨y, v, hat, hy, hvth⟩ : ∃ y v, atI [V.ref t1, V.ref t2, V.ref t3] (if num % 5 < 2 then num % 5 else 2) = some y ∧ IsVl K H8 y v ∧ ∀ z, v = Vl.th z → 0 ≤ z ∧ z < (L : Int) := by
            rcases (by omega : num % 5 = 0 ∨ num % 5 = 1 ∨ 2 ≤ num % 5) with e | e | e
            · rw [e]
              exact ⟨_, .no, rfl, ⟨t1, rfl, SqT.of i1⟩, fun z h => nomatch h⟩
            · rw [e]
              exact ⟨_, .num _, rfl, ⟨t2, rfl, SqT.of i2⟩, fun z h => nomatch h⟩
            · rw [if_neg (by omega)]
              exact ⟨_, .th _, rfl, ⟨t3, rfl, SqT.of i3⟩, fun z h => by cases h; exact ⟨m0, m1⟩⟩
          refine ⟨l4, _, _, _, rfl, rfl, SqL.of i4, hat, ?_⟩
          have G8 := G7.same s8
          have k8 := k7.trans (Same.kp (S := M.own) s8)
          have hfl8 := s8 _ _ hfl7
          have hvl8 := hvl7.same s8
          clear i1 i2 i3 i4 ht1 ht2 ht3 hl4 hat
          refine joinW (fun σ' H' => ∃ y v, σ' = [some (.ref sc), some (.ref M.p), some (.int (st : Nat)), some (.ref lr), some (.ref lp), o5, some (.int num), o7, o8, o9, some (.ref fl'), o11, some (.int (k : Nat)), some (.int (j : Nat)), some y] ∧ Same H8 H' ∧ IsVl K H' y v ∧ ∀ z, v = Vl.th z → 0 ≤ z ∧ z < (L : Int)) (stT.of (ps_if (PW.pt (pw_and (pt_cmpR op_ne (pe_ix ix_list (pe_ix ix_list (pv 3) (pv 12) (fun _ _ => rfl)) pe_int (fun _ _ => rfl)) pe_str (nomark _)) (pw_and (pt_cmpR op_eq (pv 13) pe_int (nomark _)) (pw_and1 (pt_cmpR op_eq (pe_ix ix_tup (pv 14) pe_int (fun _ _ => rfl)) pe_str (nomark _)))))) (pss_one (ps_set (i := 14) sc_z54.nd rfl (Or.inl rfl) (pe_tup (pa_cons pe_str pa_nil)))) pss_nil) ?_) ?_
          · obtain ⟨ty, rfl, hty⟩ := id hy
            have hrow8 := (G8.ok n hnN).row
            dsimp! []
            refine ⟨lr, _, _, _, rfl, rfl, SqL.of G8.hr, hatR, n.ra, _, _, _, rfl, rfl, SqL.of hrow8, rfl, rfl, ite2 (fun _ => ite2 (fun _ => ⟨ty, _, _, _, rfl, rfl, hty, v.hd, rfl, ite2 (fun _ => ⟨by simp [sizeLine_eq], fun p hp => ⟨Same.put hp, .no, ⟨p, rfl, SqT.of upd_same⟩, fun z h => nomatch h⟩⟩) fun _ => ⟨.refl _, v, hy, hvth⟩⟩) fun _ => ⟨.refl _, v, hy, hvth⟩) fun _ => ⟨.refl _, v, hy, hvth⟩⟩
          · rintro σ' H' ⟨y, v, rfl, s9, hy, hvth⟩
            have G9 := G8.same s9
            have k9 := k8.trans (Same.kp (S := M.own) s9)
            have hfl9 := s9 _ _ hfl8
            have hvl9 := hvl8.same s9
            obtain ⟨ty, rfl, hty⟩ := id hy
            refine bodyT.of (pss_cons (ps_expr (pe_bm PySem.F.plainAttrs_list PySem.F.slot_list_append PySem.F.type_list_append mt_append (pv 10) (pa_cons (pv 14) pa_nil))) (pss_cons (ps_set (i := 6) sc_z54.nd rfl (Or.inl rfl) (pe_op op_fdivL (pe_op op_fdivL (pv 6) pe_int) (pe_callB call_len_seq rfl T.n_len bt_len (pa_cons (pv 3) pa_nil)))) (pss_one (ps_if (pt_cmpR op_eq (pe_ix ix_tup (pv 14) pe_int (fun _ _ => rfl)) pe_str (nomark _)) (pss_one (ps_expr (pe_meth (pv 1) T.cl_Memory T.me_z19 (ok_z19 T) (hr.mono (by decide)) T.b_z19 .nil pass0 (pa_cons (pe_ix ix_list (pv 4) (pv 12) (fun _ _ => rfl)) (pa_cons (pv 13) (pa_cons (pe_tup (pa_cons pe_str (pa_cons (pe_ix ix_list (pv 4) (pe_ix ix_tup (pv 14) pe_int (fun _ _ => rfl)) (fun _ _ => rfl)) pa_nil))) pa_nil)))))) (pss_one (ps_expr (pe_meth (pv 1) T.cl_Memory T.me_z19 (ok_z19 T) (hr.mono (by decide)) T.b_z19 .nil pass0 (pa_cons (pe_ix ix_list (pv 4) (pv 12) (fun _ _ => rfl)) (pa_cons (pv 13) (pa_cons (pv 14) pa_nil)))))))))) ?_
            dsimp! []
            have hfxv := hvl9.1
            refine ⟨.inl ⟨rfl, _, SqL.of hfl9⟩, fl', _, _, rfl, rfl, hfl9, small1000 (by omega), .small (by decide) (by decide), ?_⟩
            have k10 : Kp (· = fl') H' (upd H' fl' (.lst (fx ++ [V.ref ty]))) := (Kp.refl _ _).set rfl
            have mu9 : ∀ b, b = fl' → Mu H' b := fun b e => .inl ⟨fx, by rw [e]; exact hfl9⟩
            have G10 := G9.list k10 hfl9 hfn hfo
            have hvl10 := (hvl9.snoc hy).kp k10 mu9
            have hy10 := hy.kp k10 mu9
            have hfl10 : upd H' fl' (.lst (fx ++ [V.ref ty])) fl' = some (.lst (fx ++ [V.ref ty])) := upd_same
            have hfl0' : H fl' = none := by
              cases e : H fl' with
              | none => rfl
              | some u =>
                rw [k5 fl' u hfo.1 e] at hfl'
                cases hfl'
            have kk10 : Kp M.own H (upd H' fl' (.lst (fx ++ [V.ref ty]))) := fun b u nb e => k10 b u (ne_of_none e hfl0') (k9 b u nb e)
            generalize upd H' fl' (.lst (fx ++ [V.ref ty])) = H10 at k10 G10 hvl10 hy10 hfl10 kk10
            have hjl : j < e.t.fs.length := by omega
            have fin : ∀ (H11 : Hp) (x : V) (Qp : VK), Same H10 H11 → IsVl K H11 x (ren (E.map (·.1)) v) → (∀ H1, (Kp M.own H H1 ∧ ∃ x, GR a K H1 M lr lp x N k ∧ List.map (fun x => x.fst) x = List.map (fun x => x.fst) E ∧ ∃ x_2, x[k]? = some (pl, x_2) ∧ x_2.t.sort = n.t.sort ∧ ∃ x_3 x_4, x_2.t.fs = List.map (ren (List.map (fun x => x.fst) E)) x_4 ++ List.drop (j + 1) e.t.fs ∧ H1 fl' = some (HO.lst x_3) ∧ VlL K H1 x_3 x_4 ∧ x_4.length = j + 1 ∧ (∀ (z : Int), Vl.th z ∈ x_4 → 0 ≤ z ∧ z < (L : Int)) ∧ ∀ (p : Nat × En), p ∈ x → p.snd.mkd = false) → Qp .non H1) → sp_z19 a K [.ref M.p, .int (pl : Nat), .int (j : Nat), x] H11 Qp E0 := fun H11 x Qp s11 hx hq => by
              have G11 := G10.same s11
              obtain ⟨xs, R, hR, eR⟩ := id G11.tm
              have hpm : (pl, e') ∈ R.map Rw.v := by
                rw [eR]
                exact List.mem_of_getElem? hp7
              obtain ⟨r, hrR, er⟩ := List.mem_map.mp hpm
              have er1 : r.pl = pl := congrArg Prod.fst er
              have er2 : r.e = e' := congrArg Prod.snd er
              have hth := hR.there hrR
              rw [er1, er2] at hth
              have hje : j < e'.t.fs.length := by
                rw [hf7, List.length_append, List.length_map, List.length_drop]
                omega
              refine ⟨M, xs, _, pl, e', j, x, _, rfl, hth, hje, hx, fun H12 xs12 cs12 k12 hM12 hc12 => hq H12 ?_⟩
              have hT12 := hR.set k12 hM12 hc12
              rw [eR] at hT12
              have hmd : Mu H11 M.d := .inl ⟨xs, hR.mem.R.li⟩
              have G12 := G11.set k12 hT12 hp7 hmd ⟨rfl, (e'.t.setF_sort j (ren (E.map (·.1)) v)).2.1⟩
              have kk12 : Kp M.own H H12 := (kk10.trans (Same.kp s11)).trans (k12.mono fun b z => .inl z)
              obtain ⟨z1, _, _, _⟩ := e'.t.setF_sort j (ren (E.map (·.1)) v)
              refine ⟨kk12, _, G12, by rw [setE_fst]; exact hE7, _, by rw [setE_at G11.tm.nd hp7, if_pos rfl], ?_, fx ++ [V.ref ty], vs ++ [v], ?_, ?_, ?_, by rw [List.length_append, List.length_singleton, hvj], fun z hz => ?_, fun p hp => ?_⟩
              · dsimp only
                rw [z1]
                exact hs7
              · dsimp only
                rw [Tg.setF_fs hje, hf7, mix_set (by rw [List.length_map]; exact hvj) hjl, List.map_append]
                rfl
              · exact k12 _ _ (fun z => hfo.1 (.inl z)) (s11 _ _ hfl10)
              · exact (hvl10.same s11).kp k12 fun b e => by rw [e]; exact hmd
              · rcases List.mem_append.mp hz with hz | hz
                · exact hth7 z hz
                · exact hvth z (List.mem_singleton.mp hz).symm
              · obtain ⟨p0, hp0, rfl⟩ := List.mem_map.mp hp
                by_cases y : p0.1 = pl
                · rw [if_pos y]
                  exact (hmk7 (pl, e') (List.mem_of_getElem? hp7) : e'.mkd = false)
                · rw [if_neg y]
                  exact hmk7 _ hp0
            have hatP : ∀ (i : Nat) (p : Nat × En), E'[i]? = some p → atI (E'.map fun p => V.int (p.1 : Nat)) (i : Int) = some (V.int (p.1 : Nat)) := fun i p hi => atI_nat (by rw [List.getElem?_map, hi]; rfl)
            obtain ⟨_, e0, hty10⟩ := id hy10
            cases e0
            obtain ⟨dx10, hM10⟩ := G10.tm.ob
            refine ⟨_, .inl (SqL.of G10.hr), ?_, ty, _, _, _, rfl, rfl, hty10, v.hd, rfl, ?_⟩
            · rw [List.length_map]
              have := G10.len
              exact .small (by omega) (by omega)
            cases v with
            | th z =>
              obtain ⟨z0, z1⟩ := hvth z rfl
              obtain ⟨zi, ez⟩ : ∃ zi : Nat, z = (zi : Int) := ⟨z.toNat, by omega⟩
              have hzi : zi < E'.length := by omega
              have hgz : E'[zi]? = some E'[zi] := List.getElem?_eq_getElem hzi
              refine iteT ⟨_, _, hM10, flM_no, lp, _, _, _, rfl, rfl, SqL.of G10.hp, hatP k _ hp7, ty, _, _, V.int z, rfl, rfl, hty10, rfl, lp, _, _, _, rfl, rfl, SqL.of G10.hp, by rw [ez]; exact hatP zi _ hgz, by simp [sizeLine_eq], fun p hp => ?_⟩
              refine fin _ _ _ (Same.put hp) ⟨p, rfl, ?_⟩ fun H1 h => h
              have ezz : ren (E.map (·.1)) (Vl.th z) = Vl.th ((E'[zi].1 : Nat) : Int) := by
                show Vl.th (((E.map (·.1)).getD z.toNat 0 : Nat) : Int) = _
                rw [ez, Int.toNat_natCast, ← hE7, List.getD_eq_getElem?_getD, List.getElem?_map, hgz]
                rfl
              rw [ezz]
              exact SqT.of upd_same
            | no =>
              refine iteF ⟨_, _, hM10, flM_no, lp, _, _, _, rfl, rfl, SqL.of G10.hp, hatP k _ hp7, fin _ _ _ (.refl _) hy10 fun H1 h => h⟩
            | num m =>
              refine iteF ⟨_, _, hM10, flM_no, lp, _, _, _, rfl, rfl, SqL.of G10.hp, hatP k _ hp7, fin _ _ _ (.refl _) hy10 fun H1 h => h⟩
        · rintro σ H7 ⟨num, o13, o14, E', e', fx, vs, rfl, k7, G7, hE7, hp7, hs7, hf7, hfl7, hvl7, hvj, hth7, hmk7⟩
          refine bodyT.of (pss_one (ps_asg (pv 10) (pg_sub (pe_ix ix_list (pv 3) (pv 12) (fun _ _ => rfl)) pe_int set_list))) ?_
          dsimp! []
          have hrow7 := (G7.ok n hnN).row
          have hvn : vs.length = n.t.fs.length := by
            rw [hvj]
            exact hvl0.1.symm
          refine ⟨lr, _, _, _, rfl, rfl, SqL.of G7.hr, hatR, n.ra, _, _, 1, rfl, rfl, hrow7, rfl, ?_⟩
          have rk : e'.t.sort = n.t.sort ∧ e'.t.fs = vs.map (ren (E'.map (·.1))) := ⟨hs7, by
            rw [hf7, hE7, hfxl, List.drop_length, List.append_nil]⟩
          obtain ⟨G8, k8⟩ := G7.row hn hp7 hfl7 hvl7 (by have := hvl7.1; omega) hvn hfn hfo rk rfl
          have hra0 : H n.ra = none := hfr5 _ (mem_ra hnN)
          refine ⟨fun b u nb e => k8 b u (ne_of_none e hra0) (k7 b u nb e), E', _, G8, ?_, fun m hm z hz => ?_, fun b hb => ?_, hmk7⟩
          · have := congrArg List.length hE7
            rw [List.length_map, List.length_map] at this
            omega
          · rcases List.mem_or_eq_of_mem_set hm with hm | rfl
            · exact hcl5 m hm z hz
            · have w3 := (n.t.withF_ok vs hvn).2.2
              dsimp only at hz
              rw [w3] at hz
              exact hth7 z hz
          · rw [adrs_set hn] at hb
            rcases List.mem_or_eq_of_mem_set hb with hb | hb
            · exact hfr5 b hb
            · rw [hb]
              cases e : H fl' with
              | none => rfl
              | some u =>
                rw [k5 fl' u hfo.1 e] at hfl'
                cases hfl'
      · rintro σ H5 ⟨o6, o10, o12, o13, o14, E, N, rfl, k5, G5, hE5, hcl5, hfr5, hmk5⟩
        refine bodyT.of (pss_one (ps_ret (pe_tup (pa_cons (pv 3) (pa_cons (pv 4) pa_nil))))) ?_
        dsimp! []
        refine ⟨by simp [sizeLine_eq], fun t ht => ?_⟩
        have s6 := Same.put (o := .tup [V.ref lr, V.ref lp]) ht
        exact q t lr lp _ E N (k5.trans (Same.kp s6)) (G5.same s6) (by omega) upd_same hfr5 (by rw [hE5]; exact hcl5) hmk5
def stat (E : List (Nat × En)) : List (Nat × Tg × Int) := E.map fun p => (p.1, p.2.t, p.2.ser)
def unm (E : List (Nat × En)) : Nat := (E.filter fun p => !p.2.mkd).length
def ms (S : List (Nat × En) × List Nat) : Nat := 2 * unm S.1 + S.2.length
def Tg.wt : Tg → Option (Nat × Option Nat)
  | .pair (.th n) v => some (n.toNat, v.na.map Int.toNat)
  | _ => none
def shv (S : List (Nat × En) × List Nat) (t : Tg) : List (Nat × En) × List Nat := match t.wt with
  | some (kn, some vn) => if mkE S.1 kn = true then shd S vn else S
  | _ => S
def shvp (S : List (Nat × En) × List Nat) (q : Nat × Tg) : List (Nat × En) × List Nat := if mkE S.1 q.1 = true then shv S q.2 else S
structure Cl (E : List (Nat × En)) (S : Nat → Prop) : Prop where
  hold : ∀ p e, (p, e) ∈ E → S p → ∀ n : Nat, (n : Int) ∈ e.t.hold → S n
  wait : ∀ p e, (p, e) ∈ E → S p → ∀ kn vn, e.t.wt = some (kn, some vn) → S kn → S vn
theorem stat_mem {E E' : List (Nat × En)} (h : stat E' = stat E) {p : Nat} {e : En} (he : (p, e) ∈ E') : ∃ e0, (p, e0) ∈ E ∧ e0.t = e.t ∧ e0.ser = e.ser := by
  have h1 : (p, e.t, e.ser) ∈ stat E := by
    rw [← h]
    exact List.mem_map.mpr ⟨(p, e), he, rfl⟩
  obtain ⟨⟨p2, e2⟩, h2, h3⟩ := List.mem_map.mp h1
  injection h3 with h4 h5
  injection h5 with h6 h7
  have h4 : p2 = p := h4
  subst h4
  exact ⟨e2, h2, h6, h7⟩
theorem stat_fst {E E' : List (Nat × En)} (h : stat E' = stat E) : E'.map (·.1) = E.map (·.1) := by
  have := congrArg (List.map fun (x : Nat × Tg × Int) => x.1) h
  unfold stat at this
  rw [List.map_map, List.map_map] at this
  exact this
theorem Cl.stat {E E' : List (Nat × En)} (h : stat E' = stat E) {S : Nat → Prop} (c : Cl E S) : Cl E' S := by
  refine ⟨fun p e he hp n hn => ?_, fun p e he hp kn vn hw hk => ?_⟩
  · obtain ⟨e0, h0, h1, _⟩ := stat_mem h he
    exact c.hold p e0 h0 hp n (by rw [h1]; exact hn)
  · obtain ⟨e0, h0, h1, _⟩ := stat_mem h he
    exact c.wait p e0 h0 hp kn vn (by rw [h1]; exact hw) hk
structure Rel (E E' : List (Nat × En)) : Prop where
  st : stat E' = stat E
  up : ∀ p, mkE E p = true → mkE E' p = true
  lo : ∀ S : Nat → Prop, Cl E S → (∀ p, mkE E p = true → S p) → ∀ p, mkE E' p = true → S p
theorem Rel.refl (E : List (Nat × En)) : Rel E E := ⟨rfl, fun _ h => h, fun _ _ h => h⟩
theorem Rel.trans {E E1 E2 : List (Nat × En)} (a : Rel E E1) (b : Rel E1 E2) : Rel E E2 := ⟨b.st.trans a.st, fun p h => b.up p (a.up p h), fun S c h => b.lo S (c.stat a.st) (a.lo S c h)⟩
theorem mkE_iff {E : List (Nat × En)} {p : Nat} : mkE E p = true ↔ ∃ e, (p, e) ∈ E ∧ e.mkd = true := by
  unfold mkE
  rw [List.any_eq_true]
  constructor
  · rintro ⟨⟨q, e⟩, hq, z⟩
    rw [Bool.and_eq_true] at z
    have h1 : q = p := of_decide_eq_true z.1
    subst h1
    exact ⟨e, hq, z.2⟩
  · rintro ⟨e, he, z⟩
    exact ⟨_, he, by rw [decide_eq_true rfl, z]; rfl⟩
theorem setM_mk {E : List (Nat × En)} {q p : Nat} : mkE (setM E q) p = true ↔ mkE E p = true ∨ (p = q ∧ p ∈ E.map (·.1)) := by
  rw [mkE_iff, mkE_iff]
  constructor
  · rintro ⟨e, he, z⟩
    obtain ⟨⟨p2, e2⟩, h2, h3⟩ := List.mem_map.mp he
    by_cases c : p2 = q
    · rw [if_pos c] at h3
      injection h3 with h4 h5
      have h4 : p2 = p := h4
      exact .inr ⟨h4.symm.trans c, List.mem_map.mpr ⟨_, h2, h4⟩⟩
    · rw [if_neg c] at h3
      injection h3 with h4 h5
      subst h4
      subst h5
      exact .inl ⟨_, h2, z⟩
  · rintro (⟨e, he, z⟩ | ⟨rfl, hp⟩)
    · by_cases c : p = q
      · exact ⟨⟨e.t, e.ser, true⟩, List.mem_map.mpr ⟨_, he, by rw [if_pos c]⟩, rfl⟩
      · exact ⟨e, List.mem_map.mpr ⟨_, he, by rw [if_neg c]⟩, z⟩
    · obtain ⟨⟨p2, e2⟩, h2, h3⟩ := List.mem_map.mp hp
      have h3 : p2 = p := h3
      subst h3
      exact ⟨⟨e2.t, e2.ser, true⟩, List.mem_map.mpr ⟨_, h2, by rw [if_pos rfl]⟩, rfl⟩
theorem setM_stat (E : List (Nat × En)) (q : Nat) : stat (setM E q) = stat E := by
  unfold stat setM
  rw [List.map_map]
  refine List.map_congr_left fun p _ => ?_
  show (fun p : Nat × En => (p.1, p.2.t, p.2.ser)) (if p.1 = q then (p.1, (⟨p.2.t, p.2.ser, true⟩ : En)) else p) = _
  split <;> rfl
theorem unm_le : ∀ (E : List (Nat × En)) (q : Nat), unm (setM E q) ≤ unm E
  | [], _ => Nat.le_refl _
  | p :: E, q => by
    have ih := unm_le E q
    unfold unm setM at ih ⊢
    rw [List.map_cons, List.filter_cons, List.filter_cons]
    by_cases c : p.1 = q
    · rw [if_pos c]
      cases p.2.mkd <;> simp <;> omega
    · rw [if_neg c]
      cases p.2.mkd <;> simp <;> omega
theorem unm_lt : ∀ (E : List (Nat × En)) (q : Nat), (∃ e, (q, e) ∈ E ∧ e.mkd = false) → unm (setM E q) < unm E
  | [], _, h => by
    obtain ⟨_, h, _⟩ := h
    cases h
  | p :: E, q, h => by
    obtain ⟨e, he, hm⟩ := h
    have le := unm_le E q
    by_cases c : p.1 = q ∧ p.2.mkd = false
    · unfold unm setM at le ⊢
      rw [List.map_cons, List.filter_cons, List.filter_cons, if_pos c.1, c.2]
      simp
      omega
    · have ih := unm_lt E q ⟨e, (by
        rcases List.mem_cons.mp he with z | z
        · exact absurd ⟨by rw [← z], by rw [← z]; exact hm⟩ c
        · exact z), hm⟩
      unfold unm setM at ih ⊢
      rw [List.map_cons, List.filter_cons, List.filter_cons]
      by_cases c1 : p.1 = q
      · rw [if_pos c1]
        cases h2 : p.2.mkd
        · exact absurd ⟨c1, h2⟩ c
        · simpa using ih
      · rw [if_neg c1]
        cases p.2.mkd <;> simp <;> omega
structure Shd (S S' : List (Nat × En) × List Nat) : Prop where
  st : stat S'.1 = stat S.1
  up : ∀ p, mkE S.1 p = true → mkE S'.1 p = true
  pre : ∃ more, S'.2 = S.2 ++ more
  new : ∀ p, mkE S'.1 p = true → mkE S.1 p = true ∨ p ∈ S'.2
  ms : ms S' ≤ ms S
  none : S'.2 = S.2 → S' = S
theorem Shd.refl (S : List (Nat × En) × List Nat) : Shd S S := ⟨rfl, fun _ h => h, ⟨[], by simp⟩, fun _ h => .inl h, Nat.le_refl _, fun _ => rfl⟩
theorem Shd.trans {S S1 S2 : List (Nat × En) × List Nat} (a : Shd S S1) (b : Shd S1 S2) : Shd S S2 := by
  obtain ⟨m1, e1⟩ := a.pre
  obtain ⟨m2, e2⟩ := b.pre
  refine ⟨b.st.trans a.st, fun p h => b.up p (a.up p h), ⟨m1 ++ m2, by rw [e2, e1, List.append_assoc]⟩, fun p h => ?_, Nat.le_trans b.ms a.ms, fun e => ?_⟩
  · rcases b.new p h with h | h
    · rcases a.new p h with h | h
      · exact .inl h
      · exact .inr (by rw [e2]; exact List.mem_append_left _ h)
    · exact .inr h
  · rw [e2, e1, List.append_assoc] at e
    have h0 : m1 ++ m2 = [] := List.append_right_eq_self.mp e
    have h1 := List.append_eq_nil_iff.mp h0
    have h2 : S2 = S1 := b.none (by rw [e2, h1.2, List.append_nil])
    have h3 : S1 = S := a.none (by rw [e1, h1.1, List.append_nil])
    rw [h2, h3]
theorem shd_is (S : List (Nat × En) × List Nat) {q : Nat} (hq : q ∈ S.1.map (·.1)) : Shd S (shd S q) ∧ mkE (shd S q).1 q = true ∧ ∀ p, mkE (shd S q).1 p = true → mkE S.1 p = true ∨ p = q := by
  unfold shd
  by_cases c : mkE S.1 q = true
  · rw [if_pos c]
    exact ⟨.refl S, c, fun _ h => .inl h⟩
  · rw [if_neg c]
    have hlt : unm (setM S.1 q) < unm S.1 := by
      obtain ⟨⟨q2, e⟩, he, h2⟩ := List.mem_map.mp hq
      have h2 : q2 = q := h2
      subst h2
      refine unm_lt S.1 q2 ⟨e, he, ?_⟩
      cases h : e.mkd with
      | false => rfl
      | true => exact absurd (mkE_iff.mpr ⟨e, he, h⟩) c
    refine ⟨⟨setM_stat _ _, fun p h => setM_mk.mpr (.inl h), ⟨[q], rfl⟩, fun p h => ?_, ?_, fun e => ?_⟩, setM_mk.mpr (.inr ⟨rfl, hq⟩), fun p h => ?_⟩
    · rcases setM_mk.mp h with h | ⟨rfl, _⟩
      · exact .inl h
      · exact .inr (List.mem_append_right _ (List.mem_singleton_self _))
    · unfold K37.ms
      show 2 * unm (setM S.1 q) + (S.2 ++ [q]).length ≤ _
      rw [List.length_append, List.length_singleton]
      omega
    · have : S.2 ++ [q] = S.2 := e
      simp at this
    · rcases setM_mk.mp h with h | ⟨rfl, _⟩
      · exact .inl h
      · exact .inr rfl
theorem shds_is : ∀ (ps : List Nat) (S : List (Nat × En) × List Nat), (∀ p ∈ ps, p ∈ S.1.map (·.1)) → Shd S (ps.foldl shd S) ∧ (∀ p ∈ ps, mkE (ps.foldl shd S).1 p = true) ∧ ∀ p, mkE (ps.foldl shd S).1 p = true → mkE S.1 p = true ∨ p ∈ ps
  | [], S, _ => ⟨.refl S, (fun _ h => nomatch h), fun _ h => .inl h⟩
  | q :: ps, S, h => by
    obtain ⟨a1, a2, a3⟩ := shd_is S (h q List.mem_cons_self)
    obtain ⟨b1, b2, b3⟩ := shds_is ps (shd S q) fun p hp => by
      rw [stat_fst a1.st]
      exact h p (List.mem_cons_of_mem _ hp)
    rw [List.foldl_cons]
    refine ⟨a1.trans b1, fun p hp => ?_, fun p hp => ?_⟩
    · rcases List.mem_cons.mp hp with rfl | hp
      · exact b1.up p a2
      · exact b2 p hp
    · rcases b3 p hp with h2 | h2
      · rcases a3 p h2 with h3 | rfl
        · exact .inl h3
        · exact .inr List.mem_cons_self
      · exact .inr (List.mem_cons_of_mem _ h2)
def BC (E : List (Nat × En)) (G : List Nat) : Prop := ∀ p e, (p, e) ∈ E → e.mkd = true → p ∉ G → ∀ n : Nat, (n : Int) ∈ e.t.hold → mkE E n = true
theorem BC.shd {S S' : List (Nat × En) × List Nat} (hA : Aps S.1) (b : BC S.1 S.2) (s : Shd S S') : BC S'.1 S'.2 := fun p e he hm hp n hn => by
  obtain ⟨more, em⟩ := s.pre
  have hp2 : p ∉ S.2 := fun z => hp (by rw [em]; exact List.mem_append_left _ z)
  rcases s.new p (mkE_iff.mpr ⟨e, he, hm⟩) with h | h
  · obtain ⟨e0, h0, h1⟩ := mkE_iff.mp h
    obtain ⟨e1, h2, h3, _⟩ := stat_mem s.st he
    have := hA.same h0 h2 rfl
    injection this with _ h4
    subst h4
    exact s.up n (b p e0 h0 h1 hp2 n (by rw [h3]; exact hn))
  · exact absurd h hp
def VE (E : List (Nat × En)) : Prop := ∀ p e, (p, e) ∈ E → ∀ n, Vl.th n ∈ e.t.fs → ∃ q : Nat, n = (q : Int) ∧ q ∈ E.map (·.1)
theorem VE.stat {E E' : List (Nat × En)} (h : stat E' = stat E) (v : VE E) : VE E' := fun p e he n hn => by
  obtain ⟨e0, h0, h1, _⟩ := stat_mem h he
  obtain ⟨q, h2, h3⟩ := v p e0 h0 n (by rw [h1]; exact hn)
  exact ⟨q, h2, by rw [stat_fst h]; exact h3⟩
theorem ints_nat {P : Nat → Prop} : ∀ l : List Int, (∀ n ∈ l, ∃ q : Nat, n = (q : Int) ∧ P q) → ∃ hn : List Nat, l = hn.map (fun (n : Nat) => (n : Int)) ∧ ∀ n ∈ hn, P n
  | [], _ => ⟨[], rfl, (fun _ h => nomatch h)⟩
  | x :: l, h => by
    obtain ⟨q, rfl, hq⟩ := h x List.mem_cons_self
    obtain ⟨hn, e, h2⟩ := ints_nat l fun n hn => h n (List.mem_cons_of_mem _ hn)
    refine ⟨q :: hn, by rw [e]; rfl, fun n h3 => ?_⟩
    rcases List.mem_cons.mp h3 with rfl | h3
    · exact hq
    · exact h2 n h3
theorem VE.hold {E : List (Nat × En)} (v : VE E) {p : Nat} {e : En} (he : (p, e) ∈ E) : ∃ hn : List Nat, e.t.hold = hn.map (fun (n : Nat) => (n : Int)) ∧ ∀ n ∈ hn, n ∈ E.map (·.1) := by
  refine ints_nat _ fun n hn => ?_
  cases ht : e.t with
  | plain fs w =>
    rw [ht] at hn
    obtain ⟨x, hx, e1⟩ := List.mem_filterMap.mp (show n ∈ fs.filterMap Vl.na from hn)
    cases x with
    | th m =>
      cases e1
      exact v p e he _ (by rw [ht]; exact hx)
    | no => cases e1
    | num z => cases e1
  | weak f =>
    rw [ht] at hn
    cases hn
  | pair k u =>
    rw [ht] at hn
    cases hn
theorem VE.wt {E : List (Nat × En)} (v : VE E) {p : Nat} {e : En} (he : (p, e) ∈ E) {kn : Nat} {ov : Option Nat} (hw : e.t.wt = some (kn, ov)) : kn ∈ E.map (·.1) ∧ ∀ vn, ov = some vn → vn ∈ E.map (·.1) := by
  cases ht : e.t with
  | plain fs w => rw [ht] at hw; cases hw
  | weak f => rw [ht] at hw; cases hw
  | pair k u =>
    rw [ht] at hw
    cases k with
    | no => cases hw
    | num z => cases hw
    | th n =>
      cases hw
      obtain ⟨q, rfl, hq⟩ := v p e he n (by rw [ht]; exact List.mem_cons_self)
      refine ⟨hq, fun vn hv => ?_⟩
      cases u with
      | no => cases hv
      | num z => cases hv
      | th m =>
        cases hv
        obtain ⟨q2, rfl, hq2⟩ := v p e he m (by rw [ht]; exact List.mem_cons_of_mem _ List.mem_cons_self)
        exact hq2
theorem step_is {E : List (Nat × En)} {G : List Nat} {p : Nat} {e : En} {hn : List Nat} (hA : Aps E) (he : (p, e) ∈ E) (hm : e.mkd = true) (hh : e.t.hold = hn.map (fun (n : Nat) => (n : Int))) (hin : ∀ n ∈ hn, n ∈ E.map (·.1)) (b : BC E (p :: G)) :
    Rel E (hn.foldl shd (E, G)).1 ∧ BC (hn.foldl shd (E, G)).1 (hn.foldl shd (E, G)).2 ∧ ms (hn.foldl shd (E, G)) < ms (E, p :: G) := by
  obtain ⟨s, s2, s3⟩ := shds_is hn (E, G) hin
  have inh : ∀ n : Nat, (n : Int) ∈ e.t.hold ↔ n ∈ hn := fun n => by
    rw [hh, List.mem_map]
    constructor
    · rintro ⟨m, h1, h2⟩
      have h2 : (m : Int) = (n : Int) := h2
      have h3 : m = n := by omega
      subst h3
      exact h1
    · exact fun h => ⟨n, h, rfl⟩
  refine ⟨⟨s.st, s.up, fun S c h q hq => ?_⟩, fun q e2 he2 hm2 hq n hn2 => ?_, ?_⟩
  · rcases s3 q hq with h1 | h1
    · exact h q h1
    · exact c.hold p e he (h p (mkE_iff.mpr ⟨e, he, hm⟩)) q ((inh q).mpr h1)
  · obtain ⟨e1, h1, h3, _⟩ := stat_mem s.st he2
    by_cases z : q = p
    · subst z
      have := hA.same h1 he rfl
      injection this with _ h4
      subst h4
      exact s2 n ((inh n).mp (by rw [h3]; exact hn2))
    · obtain ⟨more, em⟩ := s.pre
      rcases s.new q (mkE_iff.mpr ⟨e2, he2, hm2⟩) with h | h
      · obtain ⟨e0, h0, h5⟩ := mkE_iff.mp h
        have := hA.same h0 h1 rfl
        injection this with _ h4
        subst h4
        have hq2 : q ∉ p :: G := fun y => by
          rcases List.mem_cons.mp y with y | y
          · exact z y
          · exact hq (by rw [em]; exact List.mem_append_left _ y)
        exact s.up n (b q e0 h0 h5 hq2 n (by rw [h3]; exact hn2))
      · exact absurd h hq
  · have := s.ms
    unfold K37.ms at this ⊢
    show 2 * unm _ + _ < 2 * unm E + (p :: G).length
    rw [List.length_cons]
    have h2 : 2 * unm (hn.foldl shd (E, G)).1 + (hn.foldl shd (E, G)).2.length ≤ 2 * unm E + G.length := this
    omega
theorem shv_is {S : List (Nat × En) × List Nat} {p : Nat} {e : En} (v : VE S.1) (he : (p, e) ∈ S.1) (hm : mkE S.1 p = true) : Shd S (shv S e.t) ∧ Rel S.1 (shv S e.t).1 ∧ (shv S e.t = S → ∀ kn vn, e.t.wt = some (kn, some vn) → mkE S.1 kn = true → mkE S.1 vn = true) := by
  unfold shv
  cases hw : e.t.wt with
  | none => exact ⟨.refl S, .refl _, fun _ kn vn z => nomatch z⟩
  | some x =>
    obtain ⟨kn, ov⟩ := x
    cases ov with
    | none => exact ⟨.refl S, .refl _, fun _ kn vn z => nomatch z⟩
    | some vn =>
      show Shd S (if mkE S.1 kn = true then shd S vn else S) ∧ Rel S.1 (if mkE S.1 kn = true then shd S vn else S).1 ∧ _
      by_cases c : mkE S.1 kn = true
      · rw [if_pos c]
        obtain ⟨a1, a2, a3⟩ := shd_is S ((v.wt he hw).2 vn rfl)
        refine ⟨a1, ⟨a1.st, a1.up, fun T ct h q hq => ?_⟩, fun z kn2 vn2 ew _ => ?_⟩
        · rcases a3 q hq with h1 | rfl
          · exact h q h1
          · exact ct.wait p e he (h p hm) kn q hw (h kn c)
        · cases ew
          have z : (if mkE S.1 kn = true then shd S vn else S) = S := z
          rw [if_pos c] at z
          rw [z] at a2
          exact a2
      · rw [if_neg c]
        refine ⟨.refl S, .refl _, fun _ kn2 vn2 ew h => ?_⟩
        cases ew
        exact absurd h c
theorem shvp_is {S : List (Nat × En) × List Nat} {p : Nat} {e : En} (v : VE S.1) (he : (p, e) ∈ S.1) : Shd S (shvp S (p, e.t)) ∧ Rel S.1 (shvp S (p, e.t)).1 ∧ (shvp S (p, e.t) = S → mkE S.1 p = true → ∀ kn vn, e.t.wt = some (kn, some vn) → mkE S.1 kn = true → mkE S.1 vn = true) := by
  unfold shvp
  by_cases c : mkE S.1 p = true
  · have h := shv_is v he c
    show Shd S (if mkE S.1 p = true then shv S e.t else S) ∧ Rel S.1 (if mkE S.1 p = true then shv S e.t else S).1 ∧ ((if mkE S.1 p = true then shv S e.t else S) = S → _)
    rw [if_pos c]
    exact ⟨h.1, h.2.1, fun z _ => h.2.2 z⟩
  · show Shd S (if mkE S.1 p = true then shv S e.t else S) ∧ Rel S.1 (if mkE S.1 p = true then shv S e.t else S).1 ∧ ((if mkE S.1 p = true then shv S e.t else S) = S → _)
    rw [if_neg c]
    exact ⟨.refl S, .refl _, fun _ h => absurd h c⟩
def Ths (E : List (Nat × En)) (ts : List (Nat × Tg)) : Prop := ∀ q ∈ ts, ∃ e, (q.1, e) ∈ E ∧ e.t = q.2
theorem Ths.stat {E E' : List (Nat × En)} (h : stat E' = stat E) {ts : List (Nat × Tg)} (t : Ths E ts) : Ths E' ts := fun q hq => by
  obtain ⟨e, h1, h2⟩ := t q hq
  obtain ⟨e2, h3, h4, _⟩ := stat_mem h.symm h1
  exact ⟨e2, h3, h4.trans h2⟩
theorem shvs_is : ∀ (ts : List (Nat × Tg)) (S : List (Nat × En) × List Nat), VE S.1 → Ths S.1 ts → Shd S (ts.foldl shvp S) ∧ Rel S.1 (ts.foldl shvp S).1 ∧ ((ts.foldl shvp S).2 = S.2 → ts.foldl shvp S = S ∧ ∀ q ∈ ts, mkE S.1 q.1 = true → ∀ kn vn, q.2.wt = some (kn, some vn) → mkE S.1 kn = true → mkE S.1 vn = true)
  | [], S, _, _ => ⟨.refl S, .refl _, fun _ => ⟨rfl, (fun _ h => nomatch h)⟩⟩
  | q :: ts, S, v, t => by
    obtain ⟨e, he, ht⟩ := t q List.mem_cons_self
    obtain ⟨q1, q2⟩ := q
    have ht : e.t = q2 := ht
    subst ht
    obtain ⟨a1, a2, a3⟩ := shvp_is v he
    obtain ⟨b1, b2, b3⟩ := shvs_is ts (shvp S (q1, e.t)) (v.stat a1.st) (Ths.stat a1.st fun x hx => t x (List.mem_cons_of_mem _ hx))
    rw [List.foldl_cons]
    refine ⟨a1.trans b1, a2.trans b2, fun z => ?_⟩
    have hS : ts.foldl shvp (shvp S (q1, e.t)) = S := (a1.trans b1).none z
    obtain ⟨m1, e1⟩ := a1.pre
    obtain ⟨m2, e2⟩ := b1.pre
    have h0 : m1 ++ m2 = [] := by
      rw [e2, e1, List.append_assoc] at z
      exact List.append_right_eq_self.mp z
    have h1 := List.append_eq_nil_iff.mp h0
    have hS1 : shvp S (q1, e.t) = S := a1.none (by rw [e1, h1.1, List.append_nil])
    obtain ⟨c1, c2⟩ := b3 (by rw [e2, h1.2, List.append_nil])
    refine ⟨hS, fun x hx hp kn vn hw hk => ?_⟩
    rcases List.mem_cons.mp hx with rfl | hx
    · exact a3 hS1 hp kn vn hw hk
    · rw [hS1] at c2
      exact c2 x hx hp kn vn hw hk
theorem clo_of {E : List (Nat × En)} {ts : List (Nat × Tg)} (b : BC E []) (hp : ∀ p e, (p, e) ∈ E → e.t.sort = "pair" → (p, e.t) ∈ ts) (hA : Aps E) (h : ∀ q ∈ ts, mkE E q.1 = true → ∀ kn vn, q.2.wt = some (kn, some vn) → mkE E kn = true → mkE E vn = true) : Cl E (fun p => mkE E p = true) := by
  refine ⟨fun p e he hm n hn => ?_, fun p e he hm kn vn hw hk => ?_⟩
  · obtain ⟨e0, h0, h1⟩ := mkE_iff.mp hm
    have := hA.same h0 he rfl
    injection this with _ h2
    subst h2
    exact b p e0 he h1 (fun z => nomatch z) n hn
  · refine h (p, e.t) (hp p e he ?_) hm kn vn hw hk
    cases ht : e.t with
    | plain fs w => rw [ht] at hw; cases hw
    | weak f => rw [ht] at hw; cases hw
    | pair k u => rfl
def sp_z41 : Sp := fun vs H Q _ => ∃ p, vs = [.ref p] ∧ ∀ r, H r = none → Q (.ref r) (upd H r (.lst []))
theorem ok_z41 (T : Txt K mg a) : FnOk P w K mg base CX0 1 a.a_z41 a.d_z41 ["self"] sp_z41 := by
  refine T.f_z41.ok sc_z41 (fun vs H Q E h => ?_) (fun cdv A outer s H vs Q E hr h => ?_)
  · obtain ⟨_, rfl, _⟩ := h
    rfl
  · obtain ⟨p, rfl, q⟩ := h
    refine ⟨_, (pss_one (ps_ret (pe_lst pa_nil))), ?_⟩
    dsimp! []
    exact q
def WtAt (K : PySem.W.Frag) (H : Hp) (ws : List V) : Tg → Prop
  | .pair (.th n) v => ∃ t vx, ws = [.ref t] ∧ H t = some (.tup [.int n, vx]) ∧ IsVl K H vx v
  | _ => ws = []
def sp_z26 (a : Adr) (K : PySem.W.Frag) : Sp := fun vs H Q _ => ∃ p d k v, vs = [.ref p] ∧ ThAt a K H p d (.pair k v) ∧ ∀ (l : Addr) (ws : List V) (H' : Hp), Same H H' → H l = none → H' l = some (.lst ws) → WtAt K H' ws (.pair k v) → Q (.ref l) H'
theorem ok_z26 (T : Txt K mg a) : FnOk P w K mg base CX0 5 a.a_z26 a.d_z26 ["self"] (sp_z26 a K) := by
  refine T.f_z26.ok sc_z26 (fun vs H Q E h => ?_) (fun cdv A outer s H vs Q E hr h => ?_)
  · obtain ⟨_, _, _, _, rfl, _⟩ := h
    rfl
  · obtain ⟨p, d, k, v, rfl, h, q⟩ := h
    obtain ⟨⟨dx, h1⟩, xs, h2, h3, h4⟩ := id h
    refine ⟨_, (pss_one (ps_ret (pe_lc rfl (lcok (x := "name") (ns := ["self"]) (fr := [0]) rfl (by decide +kernel) rfl (by decide +kernel) rfl (List.forall_mem_cons.mpr ⟨rfl, List.forall_mem_nil _⟩) rfl rfl (List.forall_mem_cons.mpr ⟨⟨rfl, rfl, .inl rfl⟩, List.forall_mem_nil _⟩) (by decide +kernel)) (pi_list (pe_call (ok_z57 T) (hr.mono (by decide)) rfl T.m_z57 T.f_z57.kp T.b_z57 .nil pass0 (pa_cons (pe_slice sl_list (pe_fld (pv 0) rfl) po_none (po_some pe_int)) pa_nil))) (fun _ _ _ _ => (pe_tup (pa_cons (pv 0) (pa_cons (pe_ix (ix_listC (K := K) rfl) (pe_fldC (K := K) rfl (pv 1) rfl) pe_int (fun _ _ => rfl)) pa_nil)))) (fun _ _ _ _ => .nil)))), ?_⟩
    have h1' : H p = some (.ins a.c_PairThing dx (flT "pair" d)) := h1
    have f2 : (flT "pair" d).lookup ("parts" : Str) = some (.ref d) := (Tg.pair k v).parts d
    dsimp! [h1', HO.ins.injEq, T.cl_PairThing, T.na_PairThing_parts, f2]
    have hl2 : xs.length = 2 := h3.1.symm
    obtain ⟨kx, vx, rfl⟩ : ∃ kx vx, xs = [kx, vx] := by
      match xs, hl2 with
      | [x, y], _ => exact ⟨x, y, rfl⟩
    have hk := h3.2 0 kx k rfl rfl
    have hv := h3.2 1 vx v rfl rfl
    refine ⟨d, _, rfl, SqL.of h2, fun l1 hl1 => ?_⟩
    have ec : cutV [kx, vx] none (some 1) = [kx] := rfl
    rw [ec]
    have s1 := Same.put (o := .lst [kx]) hl1
    have hl11 : upd H l1 (.lst [kx]) l1 = some (.lst [kx]) := upd_same
    generalize upd H l1 (.lst [kx]) = H1 at s1 hl11
    refine ⟨l1, [kx], [k], rfl, SqL.of hl11, by simp, rfl, (VlL.cons (hk.same s1) (VlL.nil _ _)).2, fun r hr2 => ⟨r, rfl, ⟨_, SqL.of upd_same⟩, fun D hD => ?_⟩⟩
    have s2 := s1.trans (Same.put (o := .lst ([k].filterMap Vl.nm)) hr2)
    have hr22 : upd H1 r (.lst ([k].filterMap Vl.nm)) r = some (.lst ([k].filterMap Vl.nm)) := upd_same
    generalize upd H1 r (.lst ([k].filterMap Vl.nm)) = H2 at s2 hr22 hD
    have hD0 : H D = none := s2.free hD
    cases k with
    | th n =>
      refine lcl [V.int n] (fun i ys G => Same H2 G ∧ G D = some (.lst ys) ∧ (i = 0 ∧ ys = [] ∨ i = 1 ∧ ∃ t, ys = [.ref t] ∧ G t = some (.tup [.int n, vx]))) ⟨Same.put hD, upd_same, .inl ⟨rfl, rfl⟩⟩ ?_ ?_ ?_
      · rintro i ys G _ ⟨sG, _⟩
        exact SqL.of (sG _ _ hr22)
      · rintro i m x ys G hm hx ⟨sG, hDG, hst⟩
        have ei : i = 0 := by
          simp at hm
          omega
        subst ei
        cases hx
        rcases hst with ⟨_, rfl⟩ | ⟨z, _⟩
        · have h1G := (s2.trans sG) _ _ h1'
          have h2G := (s2.trans sG) _ _ h2
          dsimp! [lcSlots, Option.join_some, h1G, HO.ins.injEq, T.cl_PairThing, T.na_PairThing_parts, f2]
          refine ⟨d, _, _, vx, rfl, rfl, SqL.of h2G, rfl, by simp [sizeLine_eq], fun t ht => lcS.mk hm (by rw [upd_ne (ne_of_none hDG ht)]; exact hDG) (by simp) ⟨fun b u e => ?_, upd_same, .inr ⟨rfl, t, rfl, ?_⟩⟩⟩
          · rw [upd_ne (ne_of_none e hD), upd_ne (ne_of_none (sG b u e) ht)]
            exact sG b u e
          · rw [upd_ne (ne_of_none hDG ht).symm, upd_same]
        · cases z
      · rintro ys G ⟨sG, hDG, hst⟩
        rcases hst with ⟨z, _⟩ | ⟨_, t, rfl, ht⟩
        · cases z
        · exact q D [V.ref t] G (s2.trans sG) hD0 hDG ⟨t, vx, rfl, ht, hv.same (s2.trans sG)⟩
    | no =>
      refine lcl [] (fun i ys G => Same H2 G ∧ G D = some (.lst ys) ∧ ys = []) ⟨Same.put hD, upd_same, rfl⟩ ?_ ?_ ?_
      · rintro i ys G _ ⟨sG, _⟩
        exact SqL.of (sG _ _ hr22)
      · rintro i m x ys G hm hx _
        simp at hx
      · rintro ys G ⟨sG, hDG, rfl⟩
        exact q D [] G (s2.trans sG) hD0 hDG rfl
    | num z =>
      refine lcl [] (fun i ys G => Same H2 G ∧ G D = some (.lst ys) ∧ ys = []) ⟨Same.put hD, upd_same, rfl⟩ ?_ ?_ ?_
      · rintro i ys G _ ⟨sG, _⟩
        exact SqL.of (sG _ _ hr22)
      · rintro i m x ys G hm hx _
        simp at hx
      · rintro ys G ⟨sG, hDG, rfl⟩
        exact q D [] G (s2.trans sG) hD0 hDG rfl
theorem waits_mem (t : Tg) {p d : Addr} {H : Hp} {Q : VK} {E : XK} (h : ThAt a K H p d t) (q : ∀ (l : Addr) (ws : List V) (H' : Hp), Same H H' → H l = none → H' l = some (.lst ws) → WtAt K H' ws t → Q (.ref l) H') : ∃ sp, (t.cls a, sp) ∈ [(a.c_Thing, sp_z41), (a.c_PlainThing, sp_z41), (a.c_PairThing, sp_z26 a K)] ∧ sp [.ref p] H Q E := by
  cases t with
  | plain fs w => exact ⟨_, .tail _ (.head _), p, rfl, fun r hr => q r [] _ (.put hr) hr upd_same rfl⟩
  | weak f => exact ⟨_, .head _, p, rfl, fun r hr => q r [] _ (.put hr) hr upd_same rfl⟩
  | pair k v => exact ⟨_, .tail _ (.tail _ (.head _)), p, d, k, v, rfl, h, q⟩
theorem shv_pair (S : List (Nat × En) × List Nat) (n : Int) (v : Vl) : shv S (.pair (.th n) v) = if mkE S.1 n.toNat = true then ((v.na.map Int.toNat).toList).foldl shd S else S := by
  cases v with
  | th m => rfl
  | no => show S = if _ then S else S; split <;> rfl
  | num z => show S = if _ then S else S; split <;> rfl
def sp_has_grey (a : Adr) (K : PySem.W.Frag) : Sp := fun vs H Q _ => ∃ M k gd E G, vs = [.ref k] ∧ MS a K H M k gd E G ∧ Q (.bl (decide (0 < G.length))) H
theorem ok_z3 (T : Txt K mg a) : FnOk P w K mg base CX0 1 a.a_z3 a.d_z3 ["self"] (sp_has_grey a K) := by
  refine T.f_z3.ok sc_z3 (fun vs H Q E h => ?_) (fun cdv A outer s H vs Q E hr h => ?_)
  · obtain ⟨_, _, _, _, _, rfl, _⟩ := h
    rfl
  · obtain ⟨M, k, gd, E, G, rfl, h, q⟩ := h
    refine ⟨_, (pss_one (ps_ret (pe_cmpR op_gt (pe_callB call_lenD rfl T.n_len bt_len (pa_cons (pe_fld (pv 0) rfl) pa_nil)) pe_int (nomark _)))), ?_⟩
    obtain ⟨dx, h1⟩ := h.ob
    dsimp! [h1, HO.ins.injEq, T.cl_Marking, T.na_Marking_grey_places, flK_grey]
    refine ⟨_, h.di, ?_⟩
    have e1 : decide ((0 : Int) < ((gk G).length : Int)) = decide (0 < G.length) := by
      unfold gk
      rw [List.length_map]
      by_cases z : 0 < G.length
      · rw [decide_eq_true z, decide_eq_true (by omega)]
      · rw [decide_eq_false z, decide_eq_false (by omega)]
    rw [e1]
    exact q
def sp_shade_value (a : Adr) (K : PySem.W.Frag) : Sp := fun vs H Q _ => ∃ M k gd E G pl e, vs = [.ref k, .int (pl : Nat)] ∧ MS a K H M k gd E G ∧ (pl, e) ∈ E ∧ VE E ∧ E.length ≤ 900 ∧
  ∀ H', Kp (fun b => M.own b ∨ b = gd) H H' → MS a K H' M k gd (shv (E, G) e.t).1 (shv (E, G) e.t).2 → Q .non H'
theorem ok_z8 (T : Txt K mg a) : FnOk P w K mg base CX0 11 a.a_z8 a.d_z8 ["self", "place"] (sp_shade_value a K) := by
  refine T.f_z8.ok sc_z8 (fun vs H Q E h => ?_) (fun cdv A outer s H vs Q E hr h => ?_)
  · obtain ⟨_, _, _, _, _, _, _, rfl, _⟩ := h
    rfl
  · obtain ⟨M, k, gd, E, G, pl, e, rfl, h, he, hv, hEl, q⟩ := h
    refine ⟨_, (pss_one (ps_forW PassesOwn.never rfl (pi_list (pe_methV0 (L := [(a.c_Thing, sp_z41), (a.c_PlainThing, sp_z41), (a.c_PairThing, sp_z26 a K)]) (pe_meth (pe_fld (pv 0) rfl) T.cl_Memory T.me_z23 (ok_z23 T) (hr.mono (by decide)) T.b_z23 .nil pass0 (pa_cons (pv 1) pa_nil)) (List.forall_mem_cons.mpr ⟨⟨_, _, _, _, T.cl_Thing, T.me_z41, ok_z41 T, hr.mono (by decide), T.b_z41⟩, List.forall_mem_cons.mpr ⟨⟨_, _, _, _, T.cl_PlainThing, T.me_PlainThing_waits, ok_z41 T, hr.mono (by decide), T.b_z41⟩, List.forall_mem_cons.mpr ⟨⟨_, _, _, _, T.cl_PairThing, T.me_z26, ok_z26 T, hr.mono (by decide), T.b_z26⟩, List.forall_mem_nil _⟩⟩⟩) .nil pass0)) (pg_tup (n := 2) rfl (pgs_cons (pg_name (i := 2) sc_z8.nd rfl (Or.inl rfl)) (pgs_cons (pg_name (i := 3) sc_z8.nd rfl (Or.inl rfl)) pgs_nil))) pss_bodyT)), ?_⟩
    obtain ⟨dx, h1⟩ := h.ob
    obtain ⟨dx2, h2⟩ := h.tm.ob
    have f1 := flM_no (pr := M.pr) (lb := M.lb) (n := "thing_at")
    have f2 := flM_no (pr := M.pr) (lb := M.lb) (n := "marked_at")
    dsimp! [h1, h2, HO.ins.injEq, T.cl_Marking, T.na_Marking_memory, flK_memory, f1]
    obtain ⟨xs, es, hth⟩ := h.tm.there he
    refine ⟨M, xs, es, pl, e, rfl, hth, fun tp td H4 s4 htp htd hT4 => ?_⟩
    obtain ⟨dx5, hT41⟩ := hT4.ob
    refine ⟨tp, rfl, _, _, _, hT41, e.t.no td, waits_mem e.t hT4 fun l ws H5 s5 hl hl5 hw => ?_⟩
    have s05 := s4.trans s5
    have h5 := h.same s05
    have hl0 : H l = none := s4.free hl
    have nol : ¬ M.own l := h.tm.nown hl0
    have hA := h.tm.nd
    refine ⟨l, rfl, ⟨_, SqL.of hl5⟩, fw_list ws (fun i σ H6 => ∃ o2 o3 : Option V, σ = [some (.ref k), some (.int (pl : Nat)), o2, o3] ∧ (i = 0 ∧ H6 = H5 ∨ i = 1 ∧ Kp (fun b => M.own b ∨ b = gd) H5 H6 ∧ MS a K H6 M k gd (shv (E, G) e.t).1 (shv (E, G) e.t).2 ∧ H6 l = some (.lst ws))) ⟨none, none, rfl, .inl ⟨rfl, rfl⟩⟩ ?_ ?_ ?_⟩
    · rintro i σ H6 _ ⟨o2, o3, rfl, ⟨_, rfl⟩ | ⟨_, _, _, hl6⟩⟩
      · exact SqL.of hl5
      · exact SqL.of hl6
    · rintro i x σ H6 hx ⟨o2, o3, rfl, hst⟩
      cases ht : e.t with
      | plain fs w =>
        rw [ht] at hw
        rw [show ws = [] from hw] at hx
        cases hx
      | weak f =>
        rw [ht] at hw
        rw [show ws = [] from hw] at hx
        cases hx
      | pair kv u =>
        rw [ht] at hw
        cases kv with
        | no =>
          rw [show ws = [] from hw] at hx
          cases hx
        | num z =>
          rw [show ws = [] from hw] at hx
          cases hx
        | th n =>
          obtain ⟨t, vx, rfl, ht5, hvx⟩ := hw
          have ei : i = 0 := by
            have := (List.getElem?_eq_some_iff.mp hx).1
            simp at this
            exact this
          subst ei
          cases hx
          rcases hst with ⟨_, rfl⟩ | ⟨z, _⟩
          · refine ⟨t, _, rfl, SqT.of ht5, rfl, ?_⟩
            obtain ⟨q2, hq2, hq3⟩ := hv pl e he n (by rw [ht]; exact List.mem_cons_self)
            subst hq2
            obtain ⟨⟨q4, e2⟩, he2, eq2⟩ := List.mem_map.mp hq3
            have eq2 : q4 = q2 := eq2
            subst eq2
            obtain ⟨dx6, h16⟩ := h5.ob
            obtain ⟨dx7, h26⟩ := h5.tm.ob
            have esh := shv_pair (E, G) (q4 : Int) u
            rw [Int.toNat_natCast] at esh
            have hmk := hA.mk he2
            dsimp! []
            refine bodyT.of (pss_one (ps_if (pt_val (pe_meth (pe_fld (pv 0) rfl) T.cl_Memory T.me_z14 (ok_z14 T) (hr.mono (by decide)) T.b_z14 .nil pass0 (pa_cons (pv 2) pa_nil))) (pss_one (ps_expr (pe_meth (pv 0) T.cl_Marking T.me_z7 (ok_z7 T) (hr.mono (by decide)) T.b_z7 .nil pass0 (pa_cons (pe_call (ok_z57 T) (hr.mono (by decide)) rfl T.m_z57 T.f_z57.kp T.b_z57 .nil pass0 (pa_cons (pe_lst (pa_cons (pv 3) pa_nil)) pa_nil)) pa_nil)))) pss_nil)) ?_
            dsimp! [h16, h26, HO.ins.injEq, T.cl_Marking, T.na_Marking_memory, flK_memory, f2, sp_z57]
            obtain ⟨xs6, es6, hth6⟩ := h5.tm.there he2
            refine ⟨M, xs6, es6, _, e2, rfl, hth6, _, rfl, ?_⟩
            cases em : e2.mkd with
            | false =>
              rw [if_neg (by dsimp only; rw [hmk, em]; exact Bool.false_ne_true)] at esh
              rw [esh]
              exact iteF ⟨Kp.refl _ _, h5, hl5⟩
            | true =>
              rw [if_pos (by dsimp only; rw [hmk, em])] at esh
              rw [esh]
              refine iteT ?_
              have hval : [u].filterMap Vl.nm = (((u.na.map Int.toNat).toList).map fun (p : Nat) => (p : Int)).map V.int ∧ ∀ p ∈ (u.na.map Int.toNat).toList, p ∈ E.map (·.1) := by
                cases u with
                | no => exact ⟨rfl, (fun _ z => nomatch z)⟩
                | num z => exact ⟨rfl, (fun _ z => nomatch z)⟩
                | th m =>
                  obtain ⟨q5, rfl, hq5⟩ := hv pl e he m (by rw [ht]; exact List.mem_cons_of_mem _ List.mem_cons_self)
                  refine ⟨rfl, fun p hp => ?_⟩
                  have hp : p ∈ [Int.toNat (q5 : Int)] := hp
                  rw [List.mem_singleton.mp hp, Int.toNat_natCast]
                  exact hq5
              refine ⟨_, _, h16, flK_no, by rw [sizeLine_eq]; decide, fun p hp => ⟨[vx], SqL.of upd_same, by simp, [u], rfl, fun i x v e1 e2 => ?_, fun r hr => ?_⟩⟩
              · match i, e1, e2 with
                | 0, e1, e2 =>
                  cases e1
                  cases e2
                  exact hvx.same (.put hp)
              · have s7 := (Same.put (o := .lst [vx]) hp).trans (Same.put (o := .lst ([u].filterMap Vl.nm)) hr)
                have hr0 : H6 r = none := (Same.put (o := .lst [vx]) hp).free hr
                have nlr : ¬ M.own r := h5.tm.nown hr0
                have nlg : l ≠ gd := ne_of hl5 h5.di (by intro z; cases z)
                refine ⟨M, k, gd, E, G, r, (u.na.map Int.toNat).toList, rfl, h5.same s7, by rw [upd_same, hval.1], nlr, hval.2, hEl, fun H7 k7 h7 => ⟨(Same.kp s7).trans k7, h7, k7 _ _ (fun z => ?_) (s7 _ _ hl5)⟩⟩
                rcases z with z | z
                · exact nol z
                · exact nlg z
          · cases z
    · rintro σ H6 ⟨o2, o3, rfl, hst⟩
      rcases hst with ⟨hz, rfl⟩ | ⟨_, k6, h6, _⟩
      · have e0 : shv (E, G) e.t = (E, G) := by
          have hws : ws = [] := List.length_eq_zero_iff.mp hz
          cases ht : e.t with
          | plain fs w => rfl
          | weak f => rfl
          | pair kv u =>
            rw [ht] at hw
            cases kv with
            | no => rfl
            | num z => rfl
            | th n =>
              obtain ⟨t, vx, e1, _⟩ := hw
              rw [hws] at e1
              cases e1
        rw [e0] at q
        exact q _ (Same.kp s05) h5
      · exact q _ ((Same.kp s05).trans k6) h6
def sp_shade_values (a : Adr) (K : PySem.W.Frag) : Sp := fun vs H Q _ => ∃ M k gd E G l, ∃ ts : List (Nat × Tg), vs = [.ref k, .ref l] ∧ MS a K H M k gd E G ∧ H l = some (.lst ((ts.map fun q => ((q.1 : Nat) : Int)).map V.int)) ∧ ¬ M.own l ∧ Ths E ts ∧ VE E ∧ E.length ≤ 900 ∧
  ∀ H', Kp (fun b => M.own b ∨ b = gd) H H' → MS a K H' M k gd (ts.foldl shvp (E, G)).1 (ts.foldl shvp (E, G)).2 → Q .non H'
theorem ok_z9 (T : Txt K mg a) : FnOk P w K mg base CX0 12 a.a_z9 a.d_z9 ["self", "pairs"] (sp_shade_values a K) := by
  refine T.f_z9.ok sc_z9 (fun vs H Q E h => ?_) (fun cdv A outer s H vs Q E hr h => ?_)
  · obtain ⟨_, _, _, _, _, _, _, rfl, _⟩ := h
    rfl
  · obtain ⟨M, k, gd, E, G, l, ts, rfl, h, hl, nl, hT, hv, hEl, q⟩ := h
    refine ⟨_, (pss_one (ps_forW PassesOwn.never rfl (pi_list (pv 1)) (pg_name (i := 2) sc_z9.nd rfl (Or.inl rfl)) pss_bodyT)), ?_⟩
    dsimp! []
    have nlg : l ≠ gd := ne_of hl h.di (by intro z; cases z)
    refine ⟨⟨_, SqL.of hl⟩, fw_list ((ts.map fun q => ((q.1 : Nat) : Int)).map V.int) (fun i σ H1 => ∃ o2 : Option V, σ = [some (.ref k), some (.ref l), o2] ∧ Kp (fun b => M.own b ∨ b = gd) H H1 ∧ H1 l = some (.lst ((ts.map fun q => ((q.1 : Nat) : Int)).map V.int)) ∧ MS a K H1 M k gd ((ts.take i).foldl shvp (E, G)).1 ((ts.take i).foldl shvp (E, G)).2) ⟨none, rfl, Kp.refl _ _, hl, h⟩ ?_ ?_ ?_⟩
    · rintro i σ H1 _ ⟨o2, rfl, _, hl1, _⟩
      exact SqL.of hl1
    · rintro i x σ H1 hx ⟨o2, rfl, k1, hl1, h1⟩
      obtain ⟨⟨p, t⟩, hp, rfl⟩ : ∃ q, ts[i]? = some q ∧ x = V.int ((q.1 : Nat) : Int) := by
        rw [List.getElem?_map, List.getElem?_map] at hx
        cases e : ts[i]? with
        | none => rw [e] at hx; cases hx
        | some w => rw [e] at hx; cases hx; exact ⟨w, rfl, rfl⟩
      have hTi : Ths E (ts.take i) := fun q hq => hT q (List.mem_of_mem_take hq)
      obtain ⟨c1, c2, _⟩ := shvs_is (ts.take i) (E, G) hv hTi
      have hfold : (ts.take (i + 1)).foldl shvp (E, G) = shvp ((ts.take i).foldl shvp (E, G)) (p, t) := by
        rw [List.take_add_one, hp, List.foldl_append]
        rfl
      obtain ⟨e, he, ht⟩ := Ths.stat c1.st hT (p, t) (List.mem_of_getElem? hp)
      have he : (p, e) ∈ ((ts.take i).foldl shvp (E, G)).1 := he
      have ht : e.t = t := ht
      subst ht
      have hlen : ((ts.take i).foldl shvp (E, G)).1.length ≤ 900 := by
        have := congrArg List.length (stat_fst c1.st)
        rw [List.length_map, List.length_map] at this
        rw [this]
        exact hEl
      have hv1 := hv.stat c1.st
      generalize (ts.take i).foldl shvp (E, G) = S1 at h1 hfold he hlen hv1
      obtain ⟨dx, hk⟩ := h1.ob
      obtain ⟨dx2, h2⟩ := h1.tm.ob
      have hmk := h1.tm.nd.mk he
      have f2 := flM_no (pr := M.pr) (lb := M.lb) (n := "marked_at")
      refine gN ?_
      refine bodyT.of (pss_one (ps_if (pt_val (pe_meth (pe_fld (pv 0) rfl) T.cl_Memory T.me_z14 (ok_z14 T) (hr.mono (by decide)) T.b_z14 .nil pass0 (pa_cons (pv 2) pa_nil))) (pss_one (ps_expr (pe_meth (pv 0) T.cl_Marking T.me_z8 (ok_z8 T) (hr.mono (by decide)) T.b_z8 .nil pass0 (pa_cons (pv 2) pa_nil)))) pss_nil)) ?_
      dsimp! [hk, h2, HO.ins.injEq, T.cl_Marking, T.na_Marking_memory, flK_memory, f2]
      obtain ⟨xs, es, hth⟩ := h1.tm.there he
      refine ⟨M, xs, es, p, e, rfl, hth, _, rfl, ?_⟩
      rw [hfold]
      unfold shvp
      show if _ then _ else _
      cases em : e.mkd with
      | false =>
        refine iteF ⟨k1, hl1, ?_⟩
        rw [if_neg (by show ¬ mkE S1.1 p = true; rw [hmk, em]; exact Bool.false_ne_true)]
        exact h1
      | true =>
        refine iteT ⟨_, _, hk, flK_no, M, k, gd, S1.1, S1.2, p, e, rfl, h1, he, hv1, hlen, fun H2 k2 h2 => ⟨k1.trans k2, k2 _ _ (fun z => ?_) hl1, ?_⟩⟩
        · rcases z with z | z
          · exact nl z
          · exact nlg z
        · rw [if_pos (by show mkE S1.1 p = true; rw [hmk, em])]
          exact h2
    · rintro σ H1 ⟨o2, rfl, k1, hl1, h1⟩
      rw [List.length_map, List.length_map, List.take_length] at h1
      exact q H1 k1 h1
def sp_empty_row (a : Adr) (K : PySem.W.Frag) : Sp := fun vs H Q _ => ∃ M k gd E G, vs = [.ref k] ∧ MS a K H M k gd E G ∧ BC E G ∧ VE E ∧ E.length ≤ 900 ∧
  ∀ H' E', Kp (fun b => M.own b ∨ b = gd) H H' → MS a K H' M k gd E' [] → Rel E E' → BC E' [] → ms (E', []) ≤ ms (E, G) → (G ≠ [] → ms (E', []) < ms (E, G)) → Q .non H'
theorem ok_z1 (T : Txt K mg a) : FnOk P w K mg base CX0 12 a.a_z1 a.d_z1 ["self"] (sp_empty_row a K) := by
  refine T.f_z1.ok sc_z1 (fun vs H Q E h => ?_) (fun cdv A outer s H vs Q E hr h => ?_)
  · obtain ⟨_, _, _, _, _, rfl, _⟩ := h
    rfl
  · obtain ⟨M, k, gd, E, G, rfl, h, hb, hv, hEl, q⟩ := h
    refine ⟨_, (pss_one (ps_whileW PassesOwn.never pss_bodyT)), ?_⟩
    dsimp! []
    refine ww2 (fun m σ H1 => ∃ E1 G1, σ = [some (.ref k)] ∧ Kp (fun b => M.own b ∨ b = gd) H H1 ∧ MS a K H1 M k gd E1 G1 ∧ Rel E E1 ∧ BC E1 G1 ∧ m = ms (E1, G1) ∧ (ms (E1, G1) < ms (E, G) ∨ (E1, G1) = (E, G)))
      (fun σ H1 => ∃ E1, σ = [some (.ref k)] ∧ Kp (fun b => M.own b ∨ b = gd) H H1 ∧ MS a K H1 M k gd E1 [] ∧ Rel E E1 ∧ BC E1 [] ∧ (ms (E1, []) < ms (E, G) ∨ (E1, []) = (E, G))) (ms (E, G)) ⟨E, G, rfl, Kp.refl _ _, h, .refl _, hb, rfl, .inr rfl⟩ ?_ ?_
    · rintro m σ H1 ⟨E1, G1, rfl, k1, h1, r1, b1, rfl, hm⟩
      obtain ⟨dx, hk⟩ := h1.ob
      have f3 := flK_no (m := M.p) (g := gd) (n := "has_grey")
      refine testT.of (pt_val (pe_meth0 (pv 0) T.cl_Marking T.me_z3 (ok_z3 T) (hr.mono (by decide)) T.b_z3 .nil pass0)) ?_
      dsimp! [hk, HO.ins.injEq, f3, sp_has_grey]
      refine ⟨M, gd, E1, G1, h1, ?_⟩
      cases G1 with
      | nil =>
        rw [if_neg (by decide)]
        exact ⟨k1, E1, h1, r1, b1, hm⟩
      | cons p G2 =>
        rw [if_pos (by simp)]
        obtain ⟨e, he, hmk⟩ := h1.gm p List.mem_cons_self
        obtain ⟨hn, hh, hin⟩ := (hv.stat r1.st).hold he
        obtain ⟨c1, c2, c3⟩ := step_is h1.tm.nd he hmk hh hin b1
        have hlen : E1.length ≤ 900 := by
          have := congrArg List.length (stat_fst r1.st)
          rw [List.length_map, List.length_map] at this
          rw [this]
          exact hEl
        have f4 := flK_no (m := M.p) (g := gd) (n := "step")
        refine bodyT.of (pss_one (ps_expr (pe_meth0 (pv 0) T.cl_Marking T.me_z10 (ok_z10 T) (hr.mono (by decide)) T.b_z10 .nil pass0))) ?_
        dsimp! [hk, HO.ins.injEq, f4]
        refine ⟨M, k, gd, E1, G2, p, e, hn, rfl, h1, he, hh, hin, hlen, fun H2 k2 h2 => ⟨_, c3, k1.trans k2, _, _, h2, r1.trans c1, c2, rfl, .inl ?_⟩⟩
        rcases hm with hm | hm
        · exact Nat.lt_trans c3 hm
        · rw [← hm]
          exact c3
    · rintro σ H1 ⟨E1, rfl, k1, h1, r1, b1, hm⟩
      refine q H1 E1 k1 h1 r1 b1 ?_ fun hG => ?_
      · rcases hm with hm | hm
        · omega
        · rw [hm]; exact Nat.le_refl _
      · rcases hm with hm | hm
        · exact hm
        · cases hm
          exact absurd rfl hG
theorem Kp.seqTb {K : PySem.W.Frag} {S : Addr → Prop} {H H' : Hp} (k : Kp S H H') (tb : ∀ b, S b → ∃ ps, H b = some (.tbl ps)) {c : Addr} {xs : List V} (h : SqT K H c xs) : SqT K H' c xs := by
  rcases h with h | h
  · have n : ¬ S c := fun z => by
      obtain ⟨ps, e⟩ := tb c z
      rcases h with h | ⟨o, h⟩ <;> (rw [e] at h; cases h)
    rcases h with h | ⟨o, h⟩
    · exact .inl (.inl (k _ _ n h))
    · exact .inl (.inr ⟨o, k _ _ n h⟩)
  · exact .inr h
theorem IsVl.kt {S : Addr → Prop} {H H' : Hp} {x : V} {v : Vl} (h : IsVl K H x v) (k : Kp S H H') (tb : ∀ b, S b → ∃ ps, H b = some (.tbl ps)) : IsVl K H' x v := by
  obtain ⟨t, e, h⟩ := h
  exact ⟨t, e, k.seqTb tb h⟩
theorem TM.kt {S : Addr → Prop} {H H' : Hp} {M : MA} {E : List (Nat × En)} (h : TM a K H M E) (k : Kp S H H') (tb : ∀ b, S b → ∃ ps, H b = some (.tbl ps)) : TM a K H' M E := by
  obtain ⟨xs, R, h1, h2⟩ := h
  have no : ∀ b u, H b = some u → (∀ ps, u ≠ .tbl ps) → ¬ S b := fun b u e n z => by
    obtain ⟨ps, e2⟩ := tb b z
    rw [e2] at e
    cases e
    exact n _ rfl
  obtain ⟨dx5, h5⟩ := h1.mem.ob
  obtain ⟨dx6, h6⟩ := h1.mem.R.ob
  refine ⟨xs, R, ⟨h1.mem.off k (no _ _ h5 (fun _ z => by cases z)) (no _ _ h6 (fun _ z => by cases z)) (no _ _ h1.mem.li (fun _ z => by cases z)) (fun b hb => ?_), fun r hr => ?_⟩, h2⟩
  · rcases h1.mem.mu b hb with ⟨y, e⟩ | ⟨y, e⟩
    · exact no _ _ e (fun _ z => by cases z)
    · exact no _ _ e (fun _ z => by cases z)
  · obtain ⟨mid, fx, e1, h7, h3, h4⟩ := (h1.ok r hr).ex
    exact ⟨mid, fx, e1, ⟨h7.1, fun i x v e1 e2 => (h7.2 i x v e1 e2).kt k tb⟩, h3, fun x hx => (h4 x hx).kt k tb⟩
theorem MS.kt {S : Addr → Prop} {H H' : Hp} {M : MA} {k gd : Addr} {E : List (Nat × En)} {G : List Nat} (h : MS a K H M k gd E G) (kk : Kp S H H') (tb : ∀ b, S b → ∃ ps, H b = some (.tbl ps)) : MS a K H' M k gd E G := by
  have no : ∀ b u, H b = some u → (∀ ps, u ≠ .tbl ps) → ¬ S b := fun b u e n z => by
    obtain ⟨ps, e2⟩ := tb b z
    rw [e2] at e
    cases e
    exact n _ rfl
  obtain ⟨dx, h1⟩ := h.ob
  exact ⟨h.tm.kt kk tb, ⟨dx, kk _ _ (no _ _ h1 (fun _ z => by cases z)) h1⟩, kk _ _ (no _ _ h.di (fun _ z => by cases z)) h.di, h.no, h.gm, h.nd⟩
abbrev lpP : Pos := ⟨99, 34, 99, 76⟩
abbrev lqP : Str := (Str.ofString "Marking.pairs_by_serial" ++ Str.ofString ".<locals>.") ++ Str.ofString "<lambda>"
abbrev TbA (a : Adr) (H : Hp) : Prop := Tb a.pc_z5 lpP lqP H
def prs (E : List (Nat × En)) : List (Nat × Tg) := (E.filter fun p => decide (p.2.t.sort = ("pair" : Str))).map fun p => (p.1, p.2.t)
theorem perm_inv {α β : Type} (f : α → β) {x y : List β} (h : x.Perm y) : ∀ l : List α, y = l.map f → ∃ l' : List α, l'.Perm l ∧ l'.map f = x := by
  induction h with
  | nil =>
    intro l e
    cases l with
    | nil => exact ⟨[], .refl _, rfl⟩
    | cons a l => cases e
  | cons z _ ih =>
    intro l e
    cases l with
    | nil => cases e
    | cons a l =>
      injection e with e1 e2
      obtain ⟨l', h1, h2⟩ := ih l e2
      exact ⟨a :: l', h1.cons a, by rw [List.map_cons, h2, e1]⟩
  | swap u v r =>
    intro l e
    match l, e with
    | b :: c :: l, e =>
      injection e with e1 e2
      injection e2 with e2 e3
      exact ⟨c :: b :: l, .swap b c l, by rw [List.map_cons, List.map_cons, e1, e2, e3]⟩
  | trans _ _ ih1 ih2 =>
    intro l e
    obtain ⟨l1, h1, h2⟩ := ih2 l e
    obtain ⟨l2, h3, h4⟩ := ih1 l1 h2.symm
    exact ⟨l2, h3.trans h1, h4⟩
def prI (E : List (Nat × En)) (n : Int) : Bool := E.any fun p => decide ((p.1 : Int) = n) && decide (p.2.t.sort = ("pair" : Str))
theorem prI_at {E : List (Nat × En)} (hA : Aps E) {p : Nat} {e : En} (he : (p, e) ∈ E) : prI E (p : Int) = decide (e.t.sort = ("pair" : Str)) := by
  rw [Bool.eq_iff_iff]
  unfold prI
  rw [List.any_eq_true]
  constructor
  · rintro ⟨q, hq, z⟩
    rw [Bool.and_eq_true] at z
    have h1 : (q.1 : Int) = (p : Int) := of_decide_eq_true z.1
    have := hA.same hq he (show q.1 = p by omega)
    subst this
    exact z.2
  · intro z
    exact ⟨_, he, by rw [decide_eq_true rfl, z]; rfl⟩
def serI (E : List (Nat × En)) (n : Int) : Int := ((E.find? fun p => decide ((p.1 : Int) = n)).map fun p => p.2.ser).getD 0
theorem serI_at {E : List (Nat × En)} (hA : Aps E) {p : Nat} {e : En} (he : (p, e) ∈ E) : serI E (p : Int) = e.ser := by
  unfold serI
  cases hf : E.find? fun q => decide ((q.1 : Int) = (p : Int)) with
  | none =>
    have := List.find?_eq_none.mp hf _ he
    simp at this
  | some q =>
    have h0 := List.find?_some hf
    have h1 : (q.1 : Int) = (p : Int) := by simpa using h0
    have := hA.same (List.mem_of_find?_eq_some hf) he (show q.1 = p by omega)
    subst this
    rfl
theorem prs_ints {E : List (Nat × En)} (hA : Aps E) : (E.map fun p => ((p.1 : Nat) : Int)).filter (prI E) = (prs E).map fun q => ((q.1 : Nat) : Int) := by
  unfold prs
  rw [List.map_map, List.filter_map]
  have e1 : E.filter (prI E ∘ fun p => ((p.1 : Nat) : Int)) = E.filter fun p => decide (p.2.t.sort = ("pair" : Str)) := List.filter_congr fun p hp => prI_at hA hp
  rw [e1]
  rfl
def sp_pairs (a : Adr) (K : PySem.W.Frag) : Sp := fun vs H Q _ => ∃ M k gd E G, vs = [.ref k] ∧ MS a K H M k gd E G ∧ E.length < 64 ∧ TbA a H ∧
  ∀ (l : Addr) (H' : Hp) (ts : List (Nat × Tg)), SameT a.pc_z5 H H' → TbA a H' → H l = none → H' l = some (.lst ((ts.map fun q => ((q.1 : Nat) : Int)).map V.int)) → ts.Perm (prs E) → MS a K H' M k gd E G → Q (.ref l) H'
theorem ok_z5 (T : Txt K mg a) (B : BM mg base) : FnOk P w K mg base CX0 9 a.a_z5 a.d_z5 ["self"] (sp_pairs a K) := by
  refine T.f_z5.okC sc_z5 (fun vs H Q E h => ?_) (fun cdv A outer s H vs Q E hcd hr h => ?_)
  · obtain ⟨_, _, _, _, _, rfl, _⟩ := h
    rfl
  · obtain ⟨M, k, gd, E, G, rfl, h, h64, hT, q⟩ := h
    refine ⟨_, (pss_cons (ps_lc (j := 1) rfl sc_z5.nd rfl rfl (lcok (x := "place") (ns := ["self"]) (fr := [0]) rfl (by decide +kernel) rfl (by decide +kernel) rfl (List.forall_mem_cons.mpr ⟨rfl, List.forall_mem_nil _⟩) rfl rfl (List.forall_mem_cons.mpr ⟨⟨rfl, rfl, .inl rfl⟩, List.forall_mem_nil _⟩) (by decide +kernel)) (pi_list (pe_meth0 (pe_fld (pv 0) rfl) T.cl_Memory T.me_z15 (ok_z15 T) (hr.mono (by decide)) T.b_z15 .nil pass0)) (fun _ _ _ _ => (pv 0)) (fun _ _ _ _ => (.one (pt_cmpR op_eq (pe_meth (pe_fldC (K := K) rfl (pv 1) rfl) T.cl_Memory T.me_z22 (ok_z22 T) (hr.mono (by decide)) T.b_z22 .nil pass0 (pa_cons (pv 0) pa_nil)) pe_str (nomark _))))) (pss_one (ps_ret (pe_sortLam (B := B) (i := 0) (k := 3) rfl T.n_sorted (pv 1) (hr.mono (by decide)) ⟨rfl, rfl, rfl, rfl, rfl, by decide, by decide, by decide⟩ rfl rfl rfl (hcd.symm.trans T.lc_z5) T.lh_z5 rfl rfl (fun _ _ _ _ => rfl) (fun _ _ _ _ => have hr := (Room.deeper (Room.in1 (Room.in1 (hr.mono (by decide : 5 ≤ 8)))) _); (pe_meth (pe_fldC (K := K) rfl (pv 1) rfl) T.cl_Memory T.me_z18 (ok_z18 T) (hr.mono (by decide)) T.b_z18 .nil pass0 (pa_cons (pv 0) pa_nil))))))), ?_⟩
    obtain ⟨dx, h1⟩ := h.ob
    obtain ⟨dx2, h2⟩ := h.tm.ob
    have f1 := flM_no (pr := M.pr) (lb := M.lb) (n := "places")
    have f2 := flM_no (pr := M.pr) (lb := M.lb) (n := "sort_at")
    have f3 := flM_no (pr := M.pr) (lb := M.lb) (n := "serial_at")
    dsimp! [h1, h2, HO.ins.injEq, T.cl_Marking, T.na_Marking_memory, flK_memory, f1]
    obtain ⟨xs, R, hR, eR⟩ := id h.tm
    have hA := h.tm.nd
    have hRl : R.length = E.length := by rw [← eR, List.length_map]
    refine ⟨M, xs, _, rfl, hR.mem, by rw [List.length_map]; omega, fun l ns H1 s1 hl hl1 hp hs => ⟨l, rfl, ⟨_, SqL.of hl1⟩, fun D hD => ?_⟩⟩
    rw [allP_b] at hp
    have ep : plsI R = E.map fun p => ((p.1 : Nat) : Int) := by
      rw [← eR, List.map_map]
      rfl
    rw [ep] at hp
    have hnl : ns.length = E.length := by rw [hp.length_eq, List.length_map]
    have at_ : ∀ n ∈ ns, ∃ p e, n = ((p : Nat) : Int) ∧ (p, e) ∈ E := fun n hn => by
      obtain ⟨⟨p, e⟩, h3, h4⟩ := List.mem_map.mp (hp.mem_iff.mp hn)
      exact ⟨p, e, h4.symm, h3⟩
    have hM1 := h.same s1
    have hT1 := hT.same s1
    have hl01 : H1 D = none := hD
    refine lcl (ns.map V.int) (fun i ys H2 => Same H1 H2 ∧ H2 D = some (.lst ys) ∧ ys = (((ns.take i).filter (prI E)).map V.int)) ⟨.put hD, upd_same, rfl⟩ ?_ ?_ ?_
    · rintro i ys H2 _ ⟨s2, _⟩
      exact SqL.of (s2 _ _ hl1)
    · rintro i m x ys H2 hm hx ⟨s2, hD2, rfl⟩
      rw [List.getElem?_map, Option.map_eq_some_iff] at hx
      obtain ⟨n, hn, rfl⟩ := hx
      obtain ⟨p, e, rfl, he⟩ := at_ n (List.mem_of_getElem? hn)
      have h2M := hM1.same s2
      obtain ⟨dx3, h13⟩ := h2M.ob
      obtain ⟨dx4, h24⟩ := h2M.tm.ob
      obtain ⟨xs3, es3, hth⟩ := h2M.tm.there he
      have hpr := prI_at hA he
      rw [List.length_map] at hm
      have etk : (ns.take (i + 1)).filter (prI E) = (ns.take i).filter (prI E) ++ (if prI E (p : Int) = true then [(p : Int)] else []) := by
        rw [List.take_add_one, hn, List.filter_append]
        congr 1
        show List.filter (prI E) [(p : Int)] = _
        rw [List.filter_cons, List.filter_nil]
      have fl : ((ns.take i).filter (prI E)).length ≤ 64 := by
        have h5 := List.length_filter_le (prI E) (ns.take i)
        rw [List.length_take] at h5
        omega
      dsimp! [lcSlots, h13, h24, HO.ins.injEq, T.cl_Marking, T.na_Marking_memory, flK_memory, f2]
      refine ⟨_, rfl, k, rfl, _, _, _, h13, T.cl_Marking, T.na_Marking_memory, _, flK_memory _ _, M.p, rfl, _, _, h24, f2, M, xs3, es3, p, e, rfl, hth, ?_⟩
      rw [List.length_map]
      dsimp only
      refine ⟨rfl, ?_⟩
      by_cases hsort : e.t.sort = ("pair" : Str)
      · rw [if_pos (by rw [hsort]; exact decide_eq_true rfl)]
        refine lcS.mk hm hD2 (by rw [List.length_map]; omega) ⟨s2.putD hD, upd_same, ?_⟩
        rw [etk, hpr, if_pos (decide_eq_true hsort), List.map_append]
        rfl
      · rw [if_neg (fun z => hsort (V.str.inj (of_decide_eq_true z)))]
        refine lcK.mk hm ⟨s2, hD2, ?_⟩
        rw [etk, hpr, if_neg (fun z => hsort (of_decide_eq_true z)), List.append_nil]
    · rintro ys H2 ⟨s2, hD2, rfl⟩
      rw [List.length_map, List.take_length] at hD2
      have h2M := hM1.same s2
      have hT2 := hT1.same s2
      obtain ⟨ps, eps⟩ := hT2.tbl
      refine ⟨ns.filter (prI E), SqL.of hD2, by have := List.length_filter_le (prI E) ns; omega, hT2, serI E, fun H3 s3 n hn => ?_, fun D2 H3 ns3 hD3 s3 hT3 hl3 hp3 _ => ?_⟩
      · obtain ⟨p, e, rfl, he⟩ := at_ n (List.mem_filter.mp hn).1
        have h3M := h2M.kt (S := (· = a.pc_z5)) (H' := H3) (fun b o n e => s3 b o n e) (fun b e => ⟨ps, by rw [e]; exact eps⟩)
        obtain ⟨dx3, h13⟩ := h3M.ob
        obtain ⟨dx4, h24⟩ := h3M.tm.ob
        obtain ⟨xs3, es3, hth⟩ := h3M.tm.there he
        exact ⟨_, _, _, h13, T.cl_Marking, T.na_Marking_memory, _, flK_memory _ _, M.p, rfl, _, _, h24, f3, M, xs3, es3, p, e, rfl, hth, by rw [serI_at hA he], rfl⟩
      · have h3M := h2M.kt (S := (· = a.pc_z5)) (H' := H3) (fun b o n e => s3 b o n e) (fun b e => ⟨ps, by rw [e]; exact eps⟩)
        have hpp : ns3.Perm ((prs E).map fun q => ((q.1 : Nat) : Int)) := by
          rw [← prs_ints hA]
          exact hp3.trans (hp.filter _)
        obtain ⟨ts, ht1, ht2⟩ := perm_inv (fun q : Nat × Tg => ((q.1 : Nat) : Int)) hpp (prs E) rfl
        rw [← ht2] at hl3
        exact q D2 H3 ts ((SameT.of (s1.trans s2)).trans s3) hT3 ((s1.trans s2).free hD3) hl3 ht1 h3M
theorem tba_kp {H H' : Hp} {M : MA} {k gd : Addr} {E : List (Nat × En)} {G : List Nat} (t : TbA a H) (h : MS a K H M k gd E G) (kk : Kp (fun b => M.own b ∨ b = gd) H H') : TbA a H' := by
  have no : ∀ b u, H b = some u → (∀ xs, u ≠ .lst xs) → (∀ xs, u ≠ .dK xs) → ¬ (M.own b ∨ b = gd) := fun b u e n1 n2 z => by
    rcases z with z | rfl
    · rcases h.tm.mu b z with ⟨y, e2⟩ | ⟨y, e2⟩
      · rw [e] at e2
        cases e2
        exact n1 _ rfl
      · rw [e] at e2
        cases e2
        exact n2 _ rfl
    · have e2 := h.di
      rw [e] at e2
      cases e2
      exact n2 _ rfl
  rcases t with t | ⟨c', t, u⟩
  · exact .inl (kk _ _ (no _ _ t (fun _ z => by cases z) (fun _ z => by cases z)) t)
  · exact .inr ⟨c', kk _ _ (no _ _ t (fun _ z => by cases z) (fun _ z => by cases z)) t, kk _ _ (no _ _ u (fun _ z => by cases z) (fun _ z => by cases z)) u⟩
def sp_drain (a : Adr) (K : PySem.W.Frag) : Sp := fun vs H Q _ => ∃ M k gd E G, vs = [.ref k] ∧ MS a K H M k gd E G ∧ BC E G ∧ VE E ∧ E.length < 64 ∧ TbA a H ∧
  ∀ H' E', Kp (fun b => M.own b ∨ b = gd ∨ b = a.pc_z5) H H' → TbA a H' → MS a K H' M k gd E' [] → Rel E E' → Cl E' (fun p => mkE E' p = true) → Q .non H'
theorem ok_z0 (T : Txt K mg a) (B : BM mg base) : FnOk P w K mg base CX0 13 a.a_z0 a.d_z0 ["self"] (sp_drain a K) := by
  refine T.f_z0.ok sc_z0 (fun vs H Q E h => ?_) (fun cdv A outer s H vs Q E hr h => ?_)
  · obtain ⟨_, _, _, _, _, rfl, _⟩ := h
    rfl
  · obtain ⟨M, k, gd, E, G, rfl, h, hb, hv, h64, hT, q⟩ := h
    refine ⟨_, (pss_cons (ps_set (i := 1) sc_z0.nd rfl (Or.inl rfl) (pe_meth0 (pv 0) T.cl_Marking T.me_z5 (ok_z5 T B) (hr.mono (by decide)) T.b_z5 .nil pass0)) (pss_cons (ps_expr (pe_meth0 (pv 0) T.cl_Marking T.me_z1 (ok_z1 T) (hr.mono (by decide)) T.b_z1 .nil pass0)) (pss_cons (ps_expr (pe_meth (pv 0) T.cl_Marking T.me_z9 (ok_z9 T) (hr.mono (by decide)) T.b_z9 .nil pass0 (pa_cons (pv 1) pa_nil))) (pss_one (ps_whileW PassesOwn.never pss_bodyT))))), ?_⟩
    obtain ⟨dx, h1⟩ := h.ob
    have g1 := flK_no (m := M.p) (g := gd) (n := "pairs_by_serial")
    have g2 := flK_no (m := M.p) (g := gd) (n := "empty_row")
    have g3 := flK_no (m := M.p) (g := gd) (n := "shade_values")
    have g4 := flK_no (m := M.p) (g := gd) (n := "has_grey")
    dsimp! [h1, HO.ins.injEq, g1, sp_pairs, sp_empty_row]
    refine ⟨M, gd, E, G, h, h64, hT, fun l H1 ts s1 hT1 hl hl1 hp h1M => ?_⟩
    have hts : Ths E ts := fun x hx => by
      obtain ⟨⟨p, e⟩, h3, rfl⟩ := List.mem_map.mp (hp.mem_iff.mp hx)
      exact ⟨e, (List.mem_filter.mp h3).1, rfl⟩
    have hall : ∀ E1, stat E1 = stat E → ∀ p e, (p, e) ∈ E1 → e.t.sort = ("pair" : Str) → (p, e.t) ∈ ts := fun E1 hs p e he hsort => by
      obtain ⟨e0, h3, h4, _⟩ := stat_mem hs he
      refine hp.mem_iff.mpr (List.mem_map.mpr ⟨(p, e0), List.mem_filter.mpr ⟨h3, decide_eq_true (by rw [h4]; exact hsort)⟩, ?_⟩)
      rw [← h4]
    have nl : ¬ M.own l := h.tm.nown hl
    have len : ∀ E1, stat E1 = stat E → E1.length ≤ 900 := fun E1 hs => by
      have := congrArg List.length (stat_fst hs)
      rw [List.length_map, List.length_map] at this
      omega
    have nlg : l ≠ gd := ne_of hl1 h1M.di (by intro z; cases z)
    have nlk : ¬ (M.own l ∨ l = gd) := fun z => z.elim nl nlg
    obtain ⟨dx1, hk1⟩ := h1M.ob
    refine ⟨_, _, hk1, g2, M, gd, E, G, h1M, hb, hv, len E rfl, fun H2 E2 k2 h2 r2 b2 m2 m2' => ?_⟩
    have hT2 := tba_kp hT1 h1M k2
    have hl2 := k2 _ _ nlk hl1
    obtain ⟨dx2, hk2⟩ := h2.ob
    refine ⟨_, _, hk2, g3, M, k, gd, E2, [], l, ts, rfl, h2, hl2, nl, Ths.stat r2.st hts, hv.stat r2.st, len E2 r2.st, fun H3 k3 h3 => ?_⟩
    obtain ⟨c1, c2, c3⟩ := shvs_is ts (E2, []) (hv.stat r2.st) (Ths.stat r2.st hts)
    have hT3 := tba_kp hT2 h2 k3
    have hl3 := k3 _ _ nlk hl2
    have b3 := BC.shd (S := (E2, [])) h2.tm.nd b2 c1
    have cl3 : (ts.foldl shvp (E2, [])).2 = [] → ∀ x ∈ ts, mkE (ts.foldl shvp (E2, [])).1 x.1 = true → ∀ kn vn, x.2.wt = some (kn, some vn) → mkE (ts.foldl shvp (E2, [])).1 kn = true → mkE (ts.foldl shvp (E2, [])).1 vn = true := fun z => by
      obtain ⟨z1, z2⟩ := c3 z
      rw [z1]
      exact z2
    have r3 := r2.trans c2
    have k03 : Kp (fun b => M.own b ∨ b = gd ∨ b = a.pc_z5) H H3 := fun b o n e => k3 b o (fun z => n (z.elim .inl fun z => .inr (.inl z))) (k2 b o (fun z => n (z.elim .inl fun z => .inr (.inl z))) (s1 b o (fun z => n (.inr (.inr z))) e))
    generalize ts.foldl shvp (E2, []) = S3 at h3 b3 cl3 r3
    refine ww2 (fun m σ H4 => ∃ E1 G1, σ = [some (.ref k), some (.ref l)] ∧ Kp (fun b => M.own b ∨ b = gd ∨ b = a.pc_z5) H H4 ∧ TbA a H4 ∧ H4 l = some (.lst ((ts.map fun q => ((q.1 : Nat) : Int)).map V.int)) ∧ MS a K H4 M k gd E1 G1 ∧ Rel E E1 ∧ BC E1 G1 ∧ m = ms (E1, G1) ∧ (G1 = [] → ∀ x ∈ ts, mkE E1 x.1 = true → ∀ kn vn, x.2.wt = some (kn, some vn) → mkE E1 kn = true → mkE E1 vn = true))
      (fun σ H4 => ∃ E1, Kp (fun b => M.own b ∨ b = gd ∨ b = a.pc_z5) H H4 ∧ TbA a H4 ∧ MS a K H4 M k gd E1 [] ∧ Rel E E1 ∧ BC E1 [] ∧ ∀ x ∈ ts, mkE E1 x.1 = true → ∀ kn vn, x.2.wt = some (kn, some vn) → mkE E1 kn = true → mkE E1 vn = true) (ms S3) ⟨S3.1, S3.2, rfl, k03, hT3, hl3, h3, r3, b3, rfl, cl3⟩ ?_ ?_
    · rintro m σ H4 ⟨E1, G1, rfl, k4, hT4, hl4, h4, r4, b4, rfl, cl4⟩
      obtain ⟨dx4, hk4⟩ := h4.ob
      refine testT.of (pt_val (pe_meth0 (pv 0) T.cl_Marking T.me_z3 (ok_z3 T) (hr.mono (by decide)) T.b_z3 .nil pass0)) ?_
      dsimp! [hk4, HO.ins.injEq, g4, sp_has_grey]
      refine ⟨M, gd, E1, G1, h4, ?_⟩
      cases hG : G1 with
      | nil =>
        subst hG
        rw [if_neg (by decide)]
        exact ⟨k4, hT4, E1, h4, r4, b4, cl4 rfl⟩
      | cons p G2 =>
        rw [if_pos (by simp)]
        rw [← hG]
        refine bodyT.of (pss_cons (ps_expr (pe_meth0 (pv 0) T.cl_Marking T.me_z1 (ok_z1 T) (hr.mono (by decide)) T.b_z1 .nil pass0)) (pss_one (ps_expr (pe_meth (pv 0) T.cl_Marking T.me_z9 (ok_z9 T) (hr.mono (by decide)) T.b_z9 .nil pass0 (pa_cons (pv 1) pa_nil))))) ?_
        dsimp! [hk4, HO.ins.injEq, g2, sp_empty_row]
        refine ⟨M, gd, E1, G1, h4, b4, hv.stat r4.st, len E1 r4.st, fun H5 E5 k5 h5 r5 b5 m5 m5' => ?_⟩
        have hT5 := tba_kp hT4 h4 k5
        have hl5 := k5 _ _ nlk hl4
        obtain ⟨dx5, hk5⟩ := h5.ob
        have st5 := (r4.trans r5).st
        refine ⟨_, _, hk5, g3, M, k, gd, E5, [], l, ts, rfl, h5, hl5, nl, Ths.stat st5 hts, hv.stat st5, len E5 st5, fun H6 k6 h6 => ?_⟩
        obtain ⟨d1, d2, d3⟩ := shvs_is ts (E5, []) (hv.stat st5) (Ths.stat st5 hts)
        refine ⟨_, Nat.lt_of_le_of_lt d1.ms (m5' (by rw [hG]; exact List.cons_ne_nil _ _)), fun b o n e => k6 b o (fun z => n (z.elim .inl fun z => .inr (.inl z))) (k5 b o (fun z => n (z.elim .inl fun z => .inr (.inl z))) (k4 b o n e)), tba_kp hT5 h5 k6, k6 _ _ nlk hl5, _, _, h6, (r4.trans r5).trans d2, BC.shd (S := (E5, [])) h5.tm.nd b5 d1, rfl, fun z => ?_⟩
        obtain ⟨z1, z2⟩ := d3 z
        rw [z1]
        exact z2
    · rintro σ H4 ⟨E1, k4, hT4, h4, r4, b4, cl4⟩
      exact q H4 E1 k4 hT4 h4 r4 (clo_of b4 (hall E1 r4.st) h4.tm.nd cl4)
def natsV (l : List Nat) : List V := (l.map fun (p : Nat) => (p : Int)).map V.int
theorem natsV_len (l : List Nat) : (natsV l).length = l.length := by
  unfold natsV
  rw [List.length_map, List.length_map]
theorem inV_nats {k : Nat} {l : List Nat} : inV (V.int (k : Int)) (natsV l) = decide (k ∈ l) := by
  rw [Bool.eq_iff_iff, decide_eq_true_iff]
  unfold inV natsV
  rw [List.any_eq_true]
  constructor
  · rintro ⟨x, hx, e⟩
    obtain ⟨y, hy, rfl⟩ := List.mem_map.mp hx
    obtain ⟨z, hz, rfl⟩ := List.mem_map.mp hy
    have : (z : Int) = (k : Int) := by simpa [eqV] using e
    have e2 : z = k := by omega
    rw [← e2]
    exact hz
  · intro h
    exact ⟨_, List.mem_map.mpr ⟨_, List.mem_map.mpr ⟨k, h, rfl⟩, rfl⟩, by simp [eqV]⟩
theorem natsV_flat (l : List Nat) : (natsV l).all flatV = true := by
  rw [List.all_eq_true]
  exact fun x hx => flat_ints _ x hx
def kids (n : Gn) : List Nat := if n.t.sort = "plain" then (n.t.fs.filterMap Vl.na).map Int.toNat else []
theorem ren_na (ps : List Nat) : ∀ vs : List Vl, (vs.map (ren ps)).filterMap Vl.na = ((vs.filterMap Vl.na).map Int.toNat).map fun k => ((ps.getD k 0 : Nat) : Int)
  | [] => rfl
  | v :: vs => by
    rw [List.map_cons, List.filterMap_cons, List.filterMap_cons, ren_na ps vs]
    cases v <;> rfl
theorem hold_kids {t : Tg} {n : Gn} {ps : List Nat} (h1 : t.sort = n.t.sort) (h2 : t.fs = n.t.fs.map (ren ps)) : t.hold = ((kids n).map fun k => ps.getD k 0).map fun (k : Nat) => (k : Int) := by
  unfold kids
  cases t with
  | plain fs w =>
    have e : n.t.sort = "plain" := h1.symm
    have h3 : fs = n.t.fs.map (ren ps) := h2
    rw [if_pos e]
    show fs.filterMap Vl.na = _
    rw [h3, ren_na, List.map_map, List.map_map]
    simp
  | weak f =>
    have e : ¬ n.t.sort = "plain" := by rw [← h1]; exact n_wp
    rw [if_neg e]
    rfl
  | pair k v =>
    have e : ¬ n.t.sort = "plain" := by rw [← h1]; exact n_pp
    rw [if_neg e]
    rfl
structure CN (N : List Gn) (S : Nat → Prop) : Prop where
  hold : ∀ (k : Nat) n, N[k]? = some n → S k → ∀ j ∈ kids n, S j
  wait : ∀ (k : Nat) n, N[k]? = some n → S k → ∀ kn vn, n.t.wt = some (kn, some vn) → S kn → S vn
def Cls (N : List Gn) : Prop := ∀ n ∈ N, ∀ z, Vl.th z ∈ n.t.fs → 0 ≤ z ∧ z < (N.length : Int)
theorem Cls.kids {N : List Gn} (h : Cls N) {n : Gn} (hn : n ∈ N) : ∀ k ∈ kids n, k < N.length := fun k hk => by
  unfold K37.kids at hk
  split at hk
  · obtain ⟨z, hz, rfl⟩ := List.mem_map.mp hk
    obtain ⟨v, hv, hna⟩ := List.mem_filterMap.mp hz
    cases v with
    | th y =>
      cases hna
      have := h n hn _ hv
      omega
    | no => cases hna
    | num y => cases hna
  · exact absurd hk (List.not_mem_nil)
theorem Cls.wt {N : List Gn} (h : Cls N) {n : Gn} (hn : n ∈ N) {kn vn : Nat} (hw : n.t.wt = some (kn, some vn)) : kn < N.length ∧ vn < N.length := by
  cases ht : n.t with
  | plain fs w => rw [ht] at hw; cases hw
  | weak f => rw [ht] at hw; cases hw
  | pair k u =>
    rw [ht] at hw
    cases k with
    | no => cases hw
    | num z => cases hw
    | th m =>
      cases u with
      | no => cases hw
      | num z => cases hw
      | th y =>
        cases hw
        have h1 := h n hn m (by rw [ht]; exact List.mem_cons_self)
        have h2 := h n hn y (by rw [ht]; exact List.mem_cons_of_mem _ List.mem_cons_self)
        omega
theorem nats_na : ∀ fs : List Vl, (∀ z, Vl.th z ∈ fs → 0 ≤ z) → natsV ((fs.filterMap Vl.na).map Int.toNat) = fs.filterMap fun v => v.na.map V.int
  | [], _ => rfl
  | v :: fs, h => by
    have ih := nats_na fs fun z hz => h z (List.mem_cons_of_mem _ hz)
    cases v with
    | no => exact ih
    | num z => exact ih
    | th z =>
      show V.int ((z.toNat : Nat) : Int) :: natsV ((fs.filterMap Vl.na).map Int.toNat) = V.int z :: _
      rw [ih, Int.toNat_of_nonneg (h z List.mem_cons_self)]
structure Cst (N : List Gn) (sm U0 U : List Nat) (b : Bool) : Prop where
  nd : U.Nodup
  lt : ∀ k ∈ U, k < N.length
  has : ∀ k ∈ sm, k ∈ U
  sub : ∀ k ∈ U0, k ∈ U
  min : ∀ S : Nat → Prop, CN N S → (∀ k ∈ sm, S k) → ∀ k ∈ U, S k
  grew : b = true → U0.length < U.length
  eq : b = false → U = U0
def Jus (N : List Gn) (sm : List Nat) (x : Nat) : Prop := x < N.length ∧ ∀ S : Nat → Prop, CN N S → (∀ k ∈ sm, S k) → S x
theorem Cst.len {N : List Gn} {sm U0 U : List Nat} {b : Bool} (h : Cst N sm U0 U b) : U.length ≤ N.length := by
  have := nd_len (m := List.range N.length) h.nd fun k hk => List.mem_range.mpr (h.lt k hk)
  rwa [List.length_range] at this
theorem Cst.more {N : List Gn} {sm U0 U : List Nat} {b : Bool} (h : Cst N sm U0 U b) {x : Nat} (hx : x ∉ U) (j : Jus N sm x) : Cst N sm U0 (U ++ [x]) true := by
  refine ⟨nd_snoc h.nd hx, fun k hk => ?_, fun k hk => List.mem_append_left _ (h.has k hk), fun k hk => List.mem_append_left _ (h.sub k hk), fun S c hs k hk => ?_, fun _ => ?_, fun z => nomatch z⟩
  · rcases List.mem_append.mp hk with hk | hk
    · exact h.lt k hk
    · rw [List.mem_singleton.mp hk]
      exact j.1
  · rcases List.mem_append.mp hk with hk | hk
    · exact h.min S c hs k hk
    · rw [List.mem_singleton.mp hk]
      exact j.2 S c hs
  · rw [List.length_append, List.length_singleton]
    cases b with
    | true => have := h.grew rfl; omega
    | false => rw [h.eq rfl]; omega
theorem Cst.start {N : List Gn} {sm U0 U : List Nat} {b : Bool} (h : Cst N sm U0 U b) : Cst N sm U U false := ⟨h.nd, h.lt, h.has, fun _ z => z, h.min, (fun z => nomatch z), fun _ => rfl⟩
def Rcl (N : List Gn) (U : List Nat) (k : Nat) : Prop := ∀ n, N[k]? = some n → (∀ j ∈ kids n, j ∈ U) ∧ ∀ kn vn, n.t.wt = some (kn, some vn) → kn ∈ U → vn ∈ U
def dks (E : List (Nat × En)) : List Nat := (List.range E.length).filter fun i => ((E[i]?).map fun p => p.2.mkd).getD false
theorem dks_mem {E : List (Nat × En)} {i : Nat} : i ∈ dks E ↔ ∃ p, E[i]? = some p ∧ p.2.mkd = true := by
  unfold dks
  rw [List.mem_filter, List.mem_range]
  constructor
  · rintro ⟨h1, h2⟩
    rw [List.getElem?_eq_getElem h1] at h2
    exact ⟨_, List.getElem?_eq_getElem h1, h2⟩
  · rintro ⟨p, h1, h2⟩
    refine ⟨(List.getElem?_eq_some_iff.mp h1).1, ?_⟩
    rw [h1]
    exact h2
theorem dks_nd (E : List (Nat × En)) : (dks E).Nodup := List.Pairwise.filter _ List.nodup_range
theorem dks_le (E : List (Nat × En)) : ((dks E).map fun (p : Nat) => (p : Int)).Pairwise (· ≤ ·) := by
  refine List.pairwise_map.mpr (List.Pairwise.imp (fun {x y} h => ?_) ((List.pairwise_lt_range (n := E.length)).filter _))
  have h : x < y := h
  omega
def sp_z53 (a : Adr) (K : PySem.W.Frag) : Sp := fun vs H Q _ => ∃ M E lp, vs = [.ref M.p, .ref lp] ∧ TM a K H M E ∧ H lp = some (.lst (E.map fun p => V.int (p.1 : Nat))) ∧ E.length ≤ 24 ∧ ∀ D, H D = none → Q (.ref D) (upd H D (.lst (natsV (dks E))))
theorem ok_z53 (T : Txt K mg a) : FnOk P w K mg base CX0 5 a.a_z53 a.d_z53 ["_law_memory", "_law_places"] (sp_z53 a K) := by
  refine T.f_z53.ok sc_z53 (fun vs H Q E h => ?_) (fun cdv A outer s H vs Q E hr h => ?_)
  · obtain ⟨_, _, _, rfl, _⟩ := h
    rfl
  · obtain ⟨M, E, lp, rfl, h, hlp, h24, q⟩ := h
    refine ⟨_, (pss_one (ps_ret (pe_lc rfl (lcok (x := "_law_k") (ns := ["_law_memory", "_law_places"]) (fr := [0, 1]) rfl (by decide +kernel) rfl (by decide +kernel) rfl (List.forall_mem_cons.mpr ⟨rfl, List.forall_mem_cons.mpr ⟨rfl, List.forall_mem_nil _⟩⟩) rfl rfl (List.forall_mem_cons.mpr ⟨⟨rfl, rfl, .inl rfl⟩, List.forall_mem_cons.mpr ⟨⟨rfl, rfl, .inl rfl⟩, List.forall_mem_nil _⟩⟩) (by decide +kernel)) (pi_range1 rfl T.n_range (pa_cons (pe_callB call_len_seq rfl T.n_len bt_len (pa_cons (pv 1) pa_nil)) pa_nil)) (fun _ _ _ _ => (pv 0)) (fun _ _ _ _ => (.one (pt_val (pe_meth (pv 1) T.cl_Memory T.me_z14 (ok_z14 T) (hr.mono (by decide)) T.b_z14 .nil pass0 (pa_cons (pe_ix (ix_listC (K := K) rfl) (pv 2) (pv 0) (fun _ _ => rfl)) pa_nil)))))))), ?_⟩
    dsimp! []
    refine ⟨_, .inl (SqL.of hlp), by rw [List.length_map]; omega, by rw [List.length_map]; omega, fun D hD => ?_⟩
    rw [List.length_map]
    refine lcr (fun i ys H2 => H2 = upd H D (.lst ys) ∧ ys = natsV ((List.range i).filter fun i => ((E[i]?).map fun p => p.2.mkd).getD false)) ⟨rfl, rfl⟩ ?_ ?_
    · rintro i m ys H2 hm hi ⟨rfl, rfl⟩
      obtain ⟨⟨pl, e⟩, ep⟩ : ∃ p, E[i] = p := ⟨_, rfl⟩
      have hp : E[i]? = some (pl, e) := by rw [List.getElem?_eq_getElem hi, ep]
      have s2 := Same.put (o := .lst (natsV ((List.range i).filter fun i => ((E[i]?).map fun p => p.2.mkd).getD false))) hD
      have h2 := h.same s2
      obtain ⟨dx, hM⟩ := h2.ob
      obtain ⟨xs, es, hth⟩ := h2.there (List.mem_of_getElem? hp)
      have er : (List.range (i + 1)).filter (fun i => ((E[i]?).map fun p => p.2.mkd).getD false) = (List.range i).filter (fun i => ((E[i]?).map fun p => p.2.mkd).getD false) ++ if e.mkd = true then [i] else [] := by
        rw [List.range_succ, List.filter_append, List.filter_cons, List.filter_nil, hp]
        rfl
      have ll : (natsV ((List.range i).filter fun i => ((E[i]?).map fun p => p.2.mkd).getD false)).length ≤ 1000 := by
        rw [natsV_len]
        have := List.length_filter_le (fun i => ((E[i]?).map fun p => p.2.mkd).getD false) (List.range i)
        rw [List.length_range] at this
        omega
      dsimp! [lcSlots, Option.join_some, Int.zero_add]
      refine ⟨_, _, hM, flM_no, lp, _, _, _, rfl, rfl, SqL.of (s2 _ _ hlp), atI_nat (by rw [List.getElem?_map, hp]; rfl), M, xs, es, pl, e, rfl, hth, _, rfl, ?_⟩
      cases em : e.mkd with
      | true =>
        rw [if_pos rfl]
        refine lcS.mk hm upd_same ll ⟨upd_upd, ?_⟩
        rw [er, if_pos em]
        unfold natsV
        rw [List.map_append, List.map_append]
        rfl
      | false =>
        rw [if_neg Bool.false_ne_true]
        refine lcK.mk hm ⟨rfl, ?_⟩
        rw [er, em, if_neg Bool.false_ne_true, List.append_nil]
    · rintro ys H2 ⟨rfl, rfl⟩
      exact q D hD
def sp_z52 (a : Adr) (K : PySem.W.Frag) : Sp := fun vs H Q _ => ∃ N lr ls, ∃ sm : List Nat, vs = [.ref lr, .ref ls] ∧ H lr = some (.lst (N.map fun n => V.ref n.ra)) ∧ (∀ n ∈ N, n.ok K H) ∧ Cls N ∧ N.length ≤ 24 ∧ H ls = some (.lst (natsV sm)) ∧ sm.Nodup ∧ (∀ k ∈ sm, k < N.length) ∧
  ∀ (D : Addr) (ns : List Int) (U : List Nat) (H' : Hp), Same H H' → H D = none → H' D = some (.lst (ns.map V.int)) → ns.Perm (U.map fun (p : Nat) => (p : Int)) → ns.Pairwise (· ≤ ·) → Cst N sm U U false → CN N (· ∈ U) → Q (.ref D) H'
theorem ok_z52 (T : Txt K mg a) : FnOk P w K mg base CX0 2 a.a_z52 a.d_z52 ["_law_rows", "_law_some"] (sp_z52 a K) := by
  refine T.f_z52.ok sc_z52 (fun vs H Q E h => ?_) (fun cdv A outer s H vs Q E hr h => ?_)
  · obtain ⟨_, _, _, _, rfl, _⟩ := h
    rfl
  · obtain ⟨N, lr, ls, sm, rfl, hlr, hok, hcl, h24, hls, hnd, hlt, q⟩ := h
    refine ⟨_, (pss_cons (ps_set (i := 2) sc_z52.nd rfl (Or.inl rfl) (pe_callTy call_list_of rfl T.n_list bt_list (pa_cons (pv 1) pa_nil))) (pss_cons (ps_set (i := 3) sc_z52.nd rfl (Or.inl rfl) pe_bl) (pss_cons (ps_whileW PassesOwn.never pss_bodyT) pss_bodyT))), ?_⟩
    dsimp! []
    refine ⟨_, .inl (SqL.of hls), fun th hth => ?_⟩
    have s1 := Same.put (o := .lst (natsV sm)) hth
    have hth1 : upd H th (.lst (natsV sm)) th = some (.lst (natsV sm)) := upd_same
    generalize upd H th (.lst (natsV sm)) = H1 at s1 hth1
    have nth : ∀ b u, H b = some u → b ≠ th := fun b u e => ne_of_none e hth
    have c0 : Cst N sm sm sm false := ⟨hnd, hlt, fun _ z => z, fun _ z => z, fun _ _ h => h, (fun z => nomatch z), fun _ => rfl⟩
    refine ww2 (fun m σ H2 => ∃ (o4 o5 o6 o7 o8 o9 o10 : Option V) (U : List Nat) (b : Bool), σ = [some (.ref lr), some (.ref ls), some (.ref th), some (.bl b), o4, o5, o6, o7, o8, o9, o10] ∧ Same H H2 ∧ H2 th = some (.lst (natsV U)) ∧ Cst N sm U U false ∧ (b = false → ∀ k ∈ U, Rcl N U k) ∧ m = (N.length - U.length) + (if b = true then 1 else 0))
      (fun σ H2 => ∃ (o3 o4 o5 o6 o7 o8 o9 o10 : Option V) (U : List Nat), σ = [some (.ref lr), some (.ref ls), some (.ref th), o3, o4, o5, o6, o7, o8, o9, o10] ∧ Same H H2 ∧ H2 th = some (.lst (natsV U)) ∧ Cst N sm U U false ∧ ∀ k ∈ U, Rcl N U k) _ ⟨_, _, _, _, _, _, _, sm, true, rfl, s1, hth1, c0, (fun z => nomatch z), rfl⟩ ?_ ?_
    · rintro m σ H2 ⟨o4, o5, o6, o7, o8, o9, o10, U, b, rfl, s2, hth2, c2, hb, rfl⟩
      refine testT.of (pt_val (pv 3)) ?_
      dsimp! []
      cases b with
      | false =>
        rw [if_neg Bool.false_ne_true]
        exact ⟨s2, U, hth2, c2, hb rfl⟩
      | true =>
        rw [if_pos rfl]
        refine bodyT.of (pss_cons (ps_set (i := 3) sc_z52.nd rfl (Or.inl rfl) pe_bl) (pss_one (ps_forW PassesOwn.never rfl (pi_list (pe_callTy call_list_of rfl T.n_list bt_list (pa_cons (pv 2) pa_nil))) (pg_name (i := 4) sc_z52.nd rfl (Or.inl rfl)) pss_bodyT))) ?_
        dsimp! []
        have hUl : U.length ≤ N.length := c2.len
        refine ⟨_, .inl (SqL.of hth2), fun l hl => ?_⟩
        have s3 := Same.put (o := .lst (natsV U)) hl
        have hl3 : upd H2 l (.lst (natsV U)) l = some (.lst (natsV U)) := upd_same
        have hth3 := s3 _ _ hth2
        have ntl : th ≠ l := ne_of_none hth2 hl
        have nl : ∀ b u, H b = some u → b ≠ l := fun b u e => ne_of_none (s2 _ _ e) hl
        have s03 := s2.trans s3
        generalize upd H2 l (.lst (natsV U)) = H3 at s3 hl3 hth3 s03
        refine ⟨⟨_, SqL.of hl3⟩, fw_list (natsV U) (fun i σ H4 => ∃ (o4 o5 o6 o7 o8 o9 o10 : Option V) (U1 : List Nat) (b1 : Bool), σ = [some (.ref lr), some (.ref ls), some (.ref th), some (.bl b1), o4, o5, o6, o7, o8, o9, o10] ∧ Same H H4 ∧ H4 l = some (.lst (natsV U)) ∧ H4 th = some (.lst (natsV U1)) ∧ Cst N sm U U1 b1 ∧ (b1 = false → ∀ (j k : Nat), j < i → U[j]? = some k → Rcl N U k)) ⟨_, _, _, _, _, _, _, U, false, rfl, s03, hl3, hth3, c2, fun _ j k hj => absurd hj (Nat.not_lt_zero j)⟩ ?_ ?_ ?_⟩
        · rintro i σ H4 _ ⟨o4, o5, o6, o7, o8, o9, o10, U1, b1, rfl, s4, hl4, _⟩
          exact SqL.of hl4
        · rintro i x σ H4 hx ⟨o4, o5, o6, o7, o8, o9, o10, U1, b1, rfl, s4, hl4, hth4, c4, hb4⟩
          obtain ⟨k, hk, rfl⟩ : ∃ k, U[i]? = some k ∧ x = V.int (k : Nat) := by
            unfold natsV at hx
            rw [List.getElem?_map, List.getElem?_map] at hx
            cases e : U[i]? with
            | none => rw [e] at hx; cases hx
            | some w => rw [e] at hx; cases hx; exact ⟨w, rfl, rfl⟩
          have hkU := List.mem_of_getElem? hk
          have hkN := c2.lt k hkU
          obtain ⟨n, en⟩ : ∃ n, N[k] = n := ⟨_, rfl⟩
          have hn : N[k]? = some n := by rw [List.getElem?_eq_getElem hkN, en]
          have hnN := List.mem_of_getElem? hn
          have hok4 : n.ok K H4 := (hok n hnN).kp (S := fun _ => False) (Same.kp s4) (fun _ z => z.elim) (fun z => z) (fun z => z)
          obtain ⟨fx, hfx, hvl, hfx3⟩ := hok4.fls
          have hatR : atI (N.map fun n => V.ref n.ra) (k : Int) = some (V.ref n.ra) := atI_nat (by rw [List.getElem?_map, hn]; rfl)
          refine gN ?_
          refine bodyT.of (pss_cons (ps_asg (pe_ix ix_list (pv 0) (pv 4) (fun _ _ => rfl)) (pg_lst (n := 4) rfl (pgs_cons (pg_name (i := 5) sc_z52.nd rfl (Or.inr rfl)) (pgs_cons (pg_name (i := 6) sc_z52.nd rfl (Or.inl rfl)) (pgs_cons (pg_name (i := 7) sc_z52.nd rfl (Or.inl rfl)) (pgs_cons (pg_name (i := 8) sc_z52.nd rfl (Or.inl rfl)) pgs_nil)))))) (pss_cons (ps_lc (j := 9) rfl sc_z52.nd rfl rfl (lcok (x := "_law_value") (ns := ["_law_sort"]) (fr := [5]) rfl (by decide +kernel) rfl (by decide +kernel) rfl (List.forall_mem_cons.mpr ⟨rfl, List.forall_mem_nil _⟩) rfl rfl (List.forall_mem_cons.mpr ⟨⟨rfl, rfl, .inl rfl⟩, List.forall_mem_nil _⟩) (by decide +kernel)) (pi_list (pv 6)) (fun _ _ _ _ => (pe_ix (ix_tupC (K := K) rfl) (pv 0) pe_int (fun _ _ => rfl))) (fun _ _ _ _ => (.one (PW.pt (pw_and (pt_cmpR op_eq (pe_ix (ix_tupC (K := K) rfl) (pv 0) pe_int (fun _ _ => rfl)) pe_str (nomark _)) (pw_and1 (pt_cmpR op_eq (pv 1) pe_str (nomark _)))))))) (pss_cons ps_stT pss_bodyT))) ?_
          dsimp! []
          refine ⟨lr, _, _, _, rfl, rfl, SqL.of (s4 _ _ hlr), hatR, n.ra, rfl, _, SqL.of hok4.row, rfl, _, _, rfl, _, _, rfl, _, _, rfl, _, _, rfl, rfl, n.fl, rfl, ⟨_, SqL.of hfx⟩, fun D hD => ?_⟩
          refine lc_listG fx n.t.fs (fun v => if n.t.sort = "plain" then v.na.map V.int else none) (by omega) hvl.1 (fun ys => (Same.put hD).seq (SqL.of hfx)) ?_ ?_ ?_
          · intro i x b ys R' hx hb hR'
            obtain ⟨ty, rfl, hty⟩ := hvl.2 i x b hx hb
            have hty2 := ((IsVl.same (x := .ref ty) (v := b) ⟨ty, rfl, hty⟩ (Same.put (o := .lst ys) hD)))
            obtain ⟨_, e0, hty2⟩ := hty2
            cases e0
            dsimp! [lcSlots, Option.join_some]
            refine ⟨ty, _, _, _, rfl, rfl, hty2, b.hd, rfl, ?_⟩
            cases b with
            | th z =>
              refine iteT ?_
              by_cases hpl : n.t.sort = "plain"
              · rw [if_pos hpl] at hR'
                rw [decide_eq_true hpl]
                exact hR'
              · rw [if_neg hpl] at hR'
                rw [decide_eq_false hpl]
                exact hR'
            | no =>
              refine iteF ?_
              split at hR' <;> exact hR'
            | num z =>
              refine iteF ?_
              split at hR' <;> exact hR'
          · intro i x b y ys R' hx hb hy hR'
            obtain ⟨ty, rfl, hty⟩ := hvl.2 i x b hx hb
            have hty2 := ((IsVl.same (x := .ref ty) (v := b) ⟨ty, rfl, hty⟩ (Same.put (o := .lst ys) hD)))
            obtain ⟨_, e0, hty2⟩ := hty2
            cases e0
            split at hy
            · cases b with
              | th z =>
                cases hy
                dsimp! [lcSlots, Option.join_some]
                exact ⟨ty, _, _, _, rfl, rfl, hty2, rfl, hR'⟩
              | no => cases hy
              | num z => cases hy
            · cases hy
          obtain ⟨js, ejs, ejk⟩ : ∃ js : List Nat, natsV js = n.t.fs.filterMap (fun v => if n.t.sort = "plain" then v.na.map V.int else none) ∧ js = kids n := by
            refine ⟨_, ?_, rfl⟩
            unfold kids
            by_cases hpl : n.t.sort = "plain"
            · simp only [if_pos hpl]
              exact nats_na _ fun z hz => (hcl n hnN z hz).1
            · simp only [if_neg hpl]
              rw [List.filterMap_eq_nil_iff.mpr fun _ _ => rfl]
              rfl
          rw [← ejs]
          have hjk : js.length ≤ 3 := by
            have h1 := congrArg List.length ejs
            rw [natsV_len] at h1
            have h2 := List.length_filterMap_le (fun v : Vl => if n.t.sort = "plain" then v.na.map V.int else none) n.t.fs
            have h3 := hvl.1
            omega
          have jus0 : ∀ x ∈ js, Jus N sm x := fun x hx => by
            rw [ejk] at hx
            exact ⟨hcl.kids hnN x hx, fun S c hs => c.hold k n hn (c2.min S c hs k hkU) x hx⟩
          have s5 := Same.put (o := .lst (natsV js)) hD
          have hD5 : upd H4 D (.lst (natsV js)) D = some (.lst (natsV js)) := upd_same
          have hth5 := s5 _ _ hth4
          have hl5 := s5 _ _ hl4
          have s05 := s4.trans s5
          have hfx5 := s5 _ _ hfx
          have hvl5 := hvl.same s5
          have hD0 : H D = none := s4.free hD
          generalize upd H4 D (.lst (natsV js)) = H5 at s5 hD5 hth5 hl5 s05 hfx5 hvl5
          refine joinW (fun σ' H' => ∃ (D' : Addr) (js : List Nat), σ' = [some (.ref lr), some (.ref ls), some (.ref th), some (.bl b1), some (.int (k : Nat)), some (.str n.t.sort), some (.ref n.fl), some (wV n.t.words), some (.int n.num), some (.ref D'), o10] ∧ Same H5 H' ∧ H' D' = some (.lst (natsV js)) ∧ D' ≠ th ∧ D' ≠ l ∧ js.length ≤ 3 ∧ (∀ x ∈ js, Jus N sm x) ∧ (∀ j ∈ kids n, j ∈ js) ∧ ∀ kn vn, n.t.wt = some (kn, some vn) → kn ∈ U1 → vn ∈ js) (stT.of (ps_if (PW.pt (pw_and (pt_cmpR op_eq (pv 5) pe_str (nomark _)) (pw_and (pt_cmpR op_eq (pe_ix ix_tup (pe_ix ix_list (pv 6) pe_int (fun _ _ => rfl)) pe_int (fun _ _ => rfl)) pe_str (nomark _)) (pw_and (pt_cmpR op_in_seq (pe_ix ix_tup (pe_ix ix_list (pv 6) pe_int (fun _ _ => rfl)) pe_int (fun _ _ => rfl)) (pv 2) (by with_unfolding_all rfl)) (pw_and1 (pt_cmpR op_eq (pe_ix ix_tup (pe_ix ix_list (pv 6) pe_int (fun _ _ => rfl)) pe_int (fun _ _ => rfl)) pe_str (nomark _))))))) (pss_one (ps_set (i := 9) sc_z52.nd rfl (Or.inl rfl) (pe_lst (pa_cons (pe_ix ix_tup (pe_ix ix_list (pv 6) pe_int (fun _ _ => rfl)) pe_int (fun _ _ => rfl)) pa_nil)))) pss_nil) ?_) ?_
          · dsimp! []
            have nDt : D ≠ th := (ne_of_none hth4 hD).symm
            have nDl : D ≠ l := (ne_of_none hl4 hD).symm
            have stay : ∀ Hx, Same H5 Hx → (∀ kn vn, n.t.wt = some (kn, some vn) → kn ∈ U1 → vn ∈ js) → (Same H5 Hx ∧ ∃ x : List Nat, Hx D = some (.lst (natsV x)) ∧ D ≠ th ∧ D ≠ l ∧ x.length ≤ 3 ∧ (∀ y ∈ x, Jus N sm y) ∧ (∀ j ∈ kids n, j ∈ x) ∧ ∀ kn vn, n.t.wt = some (kn, some vn) → kn ∈ U1 → vn ∈ x) := fun Hx sx hw => ⟨sx, js, sx _ _ hD5, nDt, nDl, hjk, jus0, fun j hj => by rw [ejk]; exact hj, hw⟩
            refine ite2 (fun hp => ?_) fun hp => ?_
            · have hp2 : n.t.sort = "pair" := of_decide_eq_true hp
              obtain ⟨kv, u, ht⟩ : ∃ kv u, n.t = .pair kv u := by
                cases ht : n.t with
                | plain fs w => rw [ht] at hp2; exact absurd hp2 (by show ¬ (("plain" : Str) = "pair"); decide +kernel)
                | weak f => rw [ht] at hp2; exact absurd hp2 (by show ¬ (("weak" : Str) = "pair"); decide +kernel)
                | pair kv u => exact ⟨kv, u, rfl⟩
              have hfs : n.t.fs = [kv, u] := by rw [ht]; rfl
              have hkd : kids n = [] := by
                unfold kids
                rw [if_neg (by rw [hp2]; exact n_pp)]
              rw [hfs] at hvl5
              have hl2 : fx.length = 2 := hvl5.1.symm
              obtain ⟨kx, ux, rfl⟩ : ∃ kx ux, fx = [kx, ux] := by
                match fx, hl2 with
                | [x, y], _ => exact ⟨x, y, rfl⟩
              obtain ⟨tk, rfl, htk⟩ := hvl5.2 0 kx kv rfl rfl
              obtain ⟨tu, rfl, htu⟩ := hvl5.2 1 ux u rfl rfl
              refine ⟨n.fl, _, _, _, rfl, rfl, SqL.of hfx5, atI_nat (j := 0) rfl, tk, _, _, _, rfl, rfl, htk, kv.hd, rfl, ?_⟩
              cases kv with
              | no =>
                refine iteF (stay _ (.refl _) fun kn vn hw => ?_)
                rw [ht] at hw
                cases hw
              | num z =>
                refine iteF (stay _ (.refl _) fun kn vn hw => ?_)
                rw [ht] at hw
                cases hw
              | th z =>
                have hz := hcl n hnN z (by rw [hfs]; exact List.mem_cons_self)
                obtain ⟨zi, ez⟩ : ∃ zi : Nat, z = (zi : Int) := ⟨z.toNat, by omega⟩
                subst ez
                refine iteT ⟨n.fl, _, _, _, rfl, rfl, SqL.of hfx5, atI_nat (j := 0) rfl, tk, _, _, V.int (zi : Int), rfl, rfl, htk, rfl, th, _, rfl, .inl (SqL.of hth5), rfl, natsV_flat U1, _, rfl, ?_⟩
                rw [if_neg Bool.false_ne_true, inV_nats]
                have key : ∀ kn vn, n.t.wt = some (kn, some vn) → kn = zi ∧ u = .th (vn : Int) := fun kn vn hw => by
                  rw [ht] at hw
                  cases u with
                  | no => cases hw
                  | num y => cases hw
                  | th y =>
                    have hy := hcl n hnN y (by rw [hfs]; exact List.mem_cons_of_mem _ List.mem_cons_self)
                    cases hw
                    exact ⟨Int.toNat_natCast zi, by rw [Int.toNat_of_nonneg hy.1]⟩
                by_cases hin : zi ∈ U1
                · rw [decide_eq_true hin]
                  refine iteT ⟨n.fl, _, _, _, rfl, rfl, SqL.of hfx5, atI_nat (j := 1) rfl, tu, _, _, _, rfl, rfl, htu, u.hd, rfl, ?_⟩
                  cases u with
                  | no =>
                    exact iteF (stay _ (.refl _) fun kn vn hw => nomatch (key kn vn hw).2)
                  | num y =>
                    exact iteF (stay _ (.refl _) fun kn vn hw => nomatch (key kn vn hw).2)
                  | th y =>
                    have hy := hcl n hnN y (by rw [hfs]; exact List.mem_cons_of_mem _ List.mem_cons_self)
                    obtain ⟨yi, ey⟩ : ∃ yi : Nat, y = (yi : Int) := ⟨y.toNat, by omega⟩
                    subst ey
                    refine iteT ⟨n.fl, _, _, _, rfl, rfl, SqL.of hfx5, atI_nat (j := 1) rfl, tu, _, _, V.int (yi : Int), rfl, rfl, htu, rfl, by rw [sizeLine_eq]; decide, fun p hp => ⟨Same.put hp, [yi], upd_same, (ne_of_none hth5 hp).symm, (ne_of_none hl5 hp).symm, by simp, fun x hx => ?_, fun j hj => ?_, fun kn vn hw _ => ?_⟩⟩
                    · rw [List.mem_singleton.mp hx]
                      have hw : n.t.wt = some (zi, some yi) := by
                        rw [ht]
                        rfl
                      exact ⟨(hcl.wt hnN hw).2, fun S c hs => c.wait k n hn (c2.min S c hs k hkU) zi yi hw (c4.min S c hs zi hin)⟩
                    · rw [hkd] at hj
                      cases hj
                    · have := (key kn vn hw).2
                      injection this with this
                      rw [List.mem_singleton]
                      omega
                · rw [decide_eq_false hin]
                  refine iteF (stay _ (.refl _) fun kn vn hw h => ?_)
                  rw [(key kn vn hw).1] at h
                  exact absurd h hin
            · refine stay _ (.refl _) fun kn vn hw => ?_
              cases ht : n.t with
              | plain fs w => rw [ht] at hw; cases hw
              | weak f => rw [ht] at hw; cases hw
              | pair kv u =>
                rw [ht] at hp
                exact absurd (decide_eq_true rfl) hp
          · rintro σ' H6 ⟨D', js2, rfl, s6, hD6, nDt, nDl, hjl, hj1, hj2, hj3⟩
            refine bodyT.of (pss_one (ps_forW PassesOwn.never rfl (pi_list (pv 9)) (pg_name (i := 10) sc_z52.nd rfl (Or.inl rfl)) pss_bodyT)) ?_
            dsimp! []
            have s06 := s05.trans s6
            refine ⟨⟨_, SqL.of hD6⟩, fw_list (natsV js2) (fun j σ H7 => ∃ (o10 : Option V) (U2 : List Nat) (b2 : Bool), σ = [some (.ref lr), some (.ref ls), some (.ref th), some (.bl b2), some (.int (k : Nat)), some (.str n.t.sort), some (.ref n.fl), some (wV n.t.words), some (.int n.num), some (.ref D'), o10] ∧ Same H H7 ∧ H7 D' = some (.lst (natsV js2)) ∧ H7 l = some (.lst (natsV U)) ∧ H7 th = some (.lst (natsV U2)) ∧ Cst N sm U U2 b2 ∧ (b2 = false → b1 = false ∧ ∀ x ∈ js2.take j, x ∈ U)) ⟨_, U1, b1, rfl, s06, hD6, s6 _ _ hl5, s6 _ _ hth5, c4, fun z => ⟨z, fun x hx => nomatch hx⟩⟩ ?_ ?_ ?_⟩
            · rintro j σ H7 _ ⟨o10, U2, b2, rfl, s7, hD7, _⟩
              exact SqL.of hD7
            · rintro j x σ H7 hx ⟨o10, U2, b2, rfl, s7, hD7, hl7, hth7, c7, hb7⟩
              obtain ⟨y, hy, rfl⟩ : ∃ y, js2[j]? = some y ∧ x = V.int (y : Nat) := by
                unfold natsV at hx
                rw [List.getElem?_map, List.getElem?_map] at hx
                cases e : js2[j]? with
                | none => rw [e] at hx; cases hx
                | some w => rw [e] at hx; cases hx; exact ⟨w, rfl, rfl⟩
              have etk : js2.take (j + 1) = js2.take j ++ [y] := by
                rw [List.take_add_one, hy]
                rfl
              have hUl7 : U2.length ≤ 24 := Nat.le_trans c7.len h24
              refine gN ?_
              refine bodyT.of (pss_one (ps_if (pt_cmpR op_notIn_seq (pv 10) (pv 2) (by with_unfolding_all rfl)) (pss_cons (ps_expr (pe_bm PySem.F.plainAttrs_list PySem.F.slot_list_append PySem.F.type_list_append mt_append (pv 2) (pa_cons (pv 10) pa_nil))) (pss_one (ps_set (i := 3) sc_z52.nd rfl (Or.inl rfl) pe_bl))) pss_nil)) ?_
              dsimp! []
              refine ⟨th, _, rfl, .inl (SqL.of hth7), rfl, natsV_flat U2, _, rfl, ?_⟩
              rw [if_pos rfl, inV_nats]
              by_cases hin : y ∈ U2
              · rw [decide_eq_true hin]
                refine iteF ⟨s7, hD7, hl7, U2, hth7, c7, fun z => ⟨(hb7 z).1, fun x hx => ?_⟩⟩
                rw [etk] at hx
                rcases List.mem_append.mp hx with hx | hx
                · exact (hb7 z).2 x hx
                · rw [List.mem_singleton.mp hx, ← c7.eq z]
                  exact hin
              · rw [decide_eq_false hin]
                have ea : natsV U2 ++ [V.int (y : Int)] = natsV (U2 ++ [y]) := by
                  unfold natsV
                  rw [List.map_append, List.map_append]
                  rfl
                refine iteT ⟨.inl ⟨rfl, _, SqL.of hth7⟩, th, _, _, rfl, rfl, hth7, small1000 (by rw [natsV_len]; omega), ?_⟩
                rw [ea]
                exact ⟨fun b u e => by rw [upd_ne (nth b u e)]; exact s7 b u e, by rw [upd_ne nDt]; exact hD7, by rw [upd_ne ntl.symm]; exact hl7, _, upd_same, c7.more hin (hj1 y (List.mem_of_getElem? hy)), (fun z => nomatch z)⟩
            · rintro σ H7 ⟨o10, U2, b2, rfl, s7, hD7, hl7, hth7, c7, hb7⟩
              refine ⟨_, _, _, _, _, _, _, U2, b2, rfl, s7, hl7, hth7, c7, fun z j k2 hj hk2 => ?_⟩
              obtain ⟨z1, z2⟩ := hb7 z
              rw [natsV_len, List.take_length] at z2
              rcases Nat.lt_or_ge j i with hji | hji
              · exact hb4 z1 j k2 hji hk2
              · have : j = i := by omega
                subst this
                rw [hk] at hk2
                cases hk2
                intro n2 hn2
                rw [hn] at hn2
                cases hn2
                exact ⟨fun j hj => z2 j (hj2 j hj), fun kn vn hw hkn => z2 vn (hj3 kn vn hw (by rw [c4.eq z1]; exact hkn))⟩
        · rintro σ H4 ⟨o4, o5, o6, o7, o8, o9, o10, U1, b1, rfl, s4, hl4, hth4, c4, hb4⟩
          rw [natsV_len] at hb4
          cases b1 with
          | true =>
            have g := c4.grew rfl
            have g2 := c4.len
            exact ⟨_, by rw [if_pos rfl]; omega, _, _, _, _, _, _, _, U1, true, rfl, s4, hth4, c4.start, (fun z => nomatch z), rfl⟩
          | false =>
            have e := c4.eq rfl
            subst e
            refine ⟨_, by rw [if_neg Bool.false_ne_true]; omega, _, _, _, _, _, _, _, U1, false, rfl, s4, hth4, c4, fun _ k hk => ?_, rfl⟩
            obtain ⟨j, hj⟩ := List.getElem?_of_mem hk
            exact hb4 rfl j k (List.getElem?_eq_some_iff.mp hj).1 hj
    · rintro σ H2 ⟨o3, o4, o5, o6, o7, o8, o9, o10, U, rfl, s2, hth2, c2, hb⟩
      refine bodyT.of (pss_one (ps_ret (pe_callB call_sortedL rfl T.n_sorted bt_sorted (pa_cons (pv 2) pa_nil)))) ?_
      dsimp! []
      have hU : U.length ≤ 24 := Nat.le_trans c2.len h24
      refine ⟨U.map fun (p : Nat) => (p : Int), SqL.of hth2, by rw [List.length_map]; omega, fun l ns' hl hp hs => ?_⟩
      exact q l ns' U _ (s2.trans (Same.put hl)) (s2.free hl) upd_same hp hs c2 ⟨fun k n hn hk => (hb k hk n hn).1, fun k n hn hk => (hb k hk n hn).2⟩
theorem wt_ren {t : Tg} {n : Gn} {ps : List Nat} (h1 : t.sort = n.t.sort) (h2 : t.fs = n.t.fs.map (ren ps)) : t.wt = n.t.wt.map fun q => (ps.getD q.1 0, q.2.map fun v => ps.getD v 0) := by
  obtain ⟨ra, fl, tn, num⟩ := n
  dsimp only at h1 h2 ⊢
  have d1 : ¬ (("plain" : Str) = "pair") := by decide +kernel
  have d2 : ¬ (("weak" : Str) = "pair") := by decide +kernel
  cases t with
  | plain fs w =>
    cases tn with
    | plain fs2 w2 => rfl
    | weak f => rfl
    | pair k v => exact absurd h1 d1
  | weak f =>
    cases tn with
    | plain fs2 w2 => rfl
    | weak f => rfl
    | pair k v => exact absurd h1 d2
  | pair k v =>
    cases tn with
    | plain fs2 w2 => exact absurd h1.symm d1
    | weak f => exact absurd h1.symm d2
    | pair k2 v2 =>
      have h3 : [k, v] = [ren ps k2, ren ps v2] := h2
      injection h3 with h3 h4
      injection h4 with h4 _
      subst h3
      subst h4
      cases k2 with
      | no => rfl
      | num z => rfl
      | th z =>
        cases v2 with
        | no => rfl
        | num y => rfl
        | th y => rfl
structure Nm (ps : List Nat) (E : List (Nat × En)) (N : List Gn) : Prop where
  fst : E.map (·.1) = ps
  len : E.length = N.length
  rel : ∀ (i : Nat) p n, E[i]? = some p → N[i]? = some n → p.2.t.sort = n.t.sort ∧ p.2.t.fs = n.t.fs.map (ren ps)
  nd : ps.Nodup
section
variable {ps : List Nat} {E : List (Nat × En)} {N : List Gn}
theorem Nm.at_ (h : Nm ps E N) {i : Nat} (hi : i < N.length) : ∃ e n, E[i]? = some (ps.getD i 0, e) ∧ N[i]? = some n ∧ e.t.sort = n.t.sort ∧ e.t.fs = n.t.fs.map (ren ps) := by
  have hl : i < E.length := by rw [h.len]; exact hi
  have hn : N[i]? = some N[i] := List.getElem?_eq_getElem hi
  have he : E[i]? = some E[i] := List.getElem?_eq_getElem hl
  have e1 : ps.getD i 0 = E[i].1 := by
    rw [List.getD_eq_getElem?_getD, ← h.fst, List.getElem?_map, he]
    rfl
  obtain ⟨r1, r2⟩ := h.rel i _ _ he hn
  exact ⟨E[i].2, N[i], by rw [he, e1], hn, r1, r2⟩
theorem Nm.plen (h : Nm ps E N) : ps.length = N.length := by
  rw [← h.fst, List.length_map]
  exact h.len
theorem Nm.inj (h : Nm ps E N) {i j : Nat} (hi : i < N.length) (hj : j < N.length) (e : ps.getD i 0 = ps.getD j 0) : i = j := by
  have hi2 : i < ps.length := by rw [h.plen]; exact hi
  have hj2 : j < ps.length := by rw [h.plen]; exact hj
  rw [List.getD_eq_getElem?_getD, List.getD_eq_getElem?_getD, List.getElem?_eq_getElem hi2, List.getElem?_eq_getElem hj2] at e
  have e : ps[i] = ps[j] := e
  rcases Nat.lt_trichotomy i j with z | z | z
  · exact absurd e (List.pairwise_iff_getElem.mp h.nd i j hi2 hj2 z)
  · exact z
  · exact absurd e.symm (List.pairwise_iff_getElem.mp h.nd j i hj2 hi2 z)
theorem Nm.aps (h : Nm ps E N) : Aps E := by
  have := h.nd
  rw [← h.fst] at this
  exact List.pairwise_map.mp this
theorem Nm.mkd (h : Nm ps E N) {i : Nat} (hi : i < N.length) : mkE E (ps.getD i 0) = true ↔ i ∈ dks E := by
  obtain ⟨e, n, he, _⟩ := h.at_ hi
  rw [h.aps.mk (List.mem_of_getElem? he), dks_mem]
  constructor
  · exact fun z => ⟨_, he, z⟩
  · rintro ⟨p, hp, z⟩
    rw [he] at hp
    cases hp
    exact z
theorem Nm.in_ (h : Nm ps E N) {p : Nat} {e : En} (hp : (p, e) ∈ E) : ∃ i n, i < N.length ∧ ps.getD i 0 = p ∧ N[i]? = some n ∧ e.t.sort = n.t.sort ∧ e.t.fs = n.t.fs.map (ren ps) := by
  obtain ⟨i, hi⟩ := List.getElem?_of_mem hp
  have hl := (List.getElem?_eq_some_iff.mp hi).1
  have hN : i < N.length := by rw [← h.len]; exact hl
  obtain ⟨e2, n, he, hn, r1, r2⟩ := h.at_ hN
  rw [hi] at he
  have := Option.some.inj he
  injection this with h1 h2
  subst h2
  exact ⟨i, n, hN, h1.symm, hn, r1, r2⟩
theorem Nm.dlt (h : Nm ps E N) : ∀ i ∈ dks E, i < N.length := fun i hi => by
  obtain ⟨p, hp, _⟩ := dks_mem.mp hi
  rw [← h.len]
  exact (List.getElem?_eq_some_iff.mp hp).1
theorem due_eq {E' : List (Nat × En)} {U : List Nat} (h : Nm ps E N) (h' : Nm ps E' N) (hc : Cls N) (r : Rel E E') (cl : Cl E' fun p => mkE E' p = true) (c : Cst N (dks E) U U false) (cn : CN N (· ∈ U)) : ∀ i, i ∈ dks E' ↔ i ∈ U := by
  intro i
  constructor
  · intro hi
    have hiN := h'.dlt i hi
    have clS : Cl E fun p => ∃ k, k ∈ U ∧ ps.getD k 0 = p := by
      refine ⟨fun p e he hp n hn => ?_, fun p e he hp kn vn hw hk => ?_⟩
      · obtain ⟨k, hk, ek⟩ := hp
        obtain ⟨k2, n2, hk2, ek2, hn2, r1, r2⟩ := h.in_ he
        have := h.inj (c.lt k hk) hk2 (ek.trans ek2.symm)
        subst this
        rw [hold_kids r1 r2] at hn
        obtain ⟨y, hy, ey⟩ := List.mem_map.mp hn
        obtain ⟨j, hj, rfl⟩ := List.mem_map.mp hy
        exact ⟨j, cn.hold k n2 hn2 hk j hj, by have ey : ((ps.getD j 0 : Nat) : Int) = (n : Int) := ey; omega⟩
      · obtain ⟨k, hk0, ek⟩ := hp
        obtain ⟨k2, n2, hk2, ek2, hn2, r1, r2⟩ := h.in_ he
        have := h.inj (c.lt k hk0) hk2 (ek.trans ek2.symm)
        subst this
        rw [wt_ren r1 r2] at hw
        cases hw2 : n2.t.wt with
        | none => rw [hw2] at hw; cases hw
        | some q =>
          obtain ⟨kn2, ov⟩ := q
          rw [hw2] at hw
          cases ov with
          | none => cases hw
          | some vn2 =>
            cases hw
            obtain ⟨k3, hk3, ek3⟩ := hk
            have h4 := hc.wt (List.mem_of_getElem? hn2) hw2
            have := h.inj (c.lt k3 hk3) h4.1 ek3
            subst this
            exact ⟨vn2, cn.wait k n2 hn2 hk0 k3 vn2 hw2 hk3, rfl⟩
    obtain ⟨k, hk, ek⟩ := r.lo _ clS (fun p hp => by
      obtain ⟨e, he, hm⟩ := mkE_iff.mp hp
      obtain ⟨k, n, hk, ek, _⟩ := h.in_ he
      exact ⟨k, c.has k ((h.mkd hk).mp (by rw [ek]; exact hp)), ek⟩) (ps.getD i 0) ((h'.mkd hiN).mpr hi)
    have := h.inj (c.lt k hk) hiN ek
    subst this
    exact hk
  · intro hi
    refine c.min (fun j => j ∈ dks E') ⟨fun k n hn hk j hj => ?_, fun k n hn hk kn vn hw hkn => ?_⟩ (fun k hk => ?_) i hi
    · have hkN := h'.dlt k hk
      have hjN := hc.kids (List.mem_of_getElem? hn) j hj
      obtain ⟨e, n2, he, hn2, r1, r2⟩ := h'.at_ hkN
      rw [hn] at hn2
      cases hn2
      refine (h'.mkd hjN).mp (cl.hold _ e (List.mem_of_getElem? he) ((h'.mkd hkN).mpr hk) _ ?_)
      rw [hold_kids r1 r2]
      exact List.mem_map.mpr ⟨_, List.mem_map.mpr ⟨j, hj, rfl⟩, rfl⟩
    · have hkN := h'.dlt k hk
      obtain ⟨h1, h2⟩ := hc.wt (List.mem_of_getElem? hn) hw
      obtain ⟨e, n2, he, hn2, r1, r2⟩ := h'.at_ hkN
      rw [hn] at hn2
      cases hn2
      refine (h'.mkd h2).mp (cl.wait _ e (List.mem_of_getElem? he) ((h'.mkd hkN).mpr hk) (ps.getD kn 0) _ ?_ ((h'.mkd h1).mpr hkn))
      rw [wt_ren r1 r2, hw]
      rfl
    · have hkN := h.dlt k hk
      exact (h'.mkd hkN).mp (r.up _ ((h.mkd hkN).mpr hk))
theorem due_ints {E' : List (Nat × En)} {U : List Nat} {ns : List Int} (hp : ns.Perm (U.map fun (p : Nat) => (p : Int))) (hs : ns.Pairwise (· ≤ ·)) (hU : U.Nodup) (h : ∀ i, i ∈ dks E' ↔ i ∈ U) : (dks E').map (fun (p : Nat) => (p : Int)) = ns := by
  have h1 : (dks E').Perm U := (List.perm_ext_iff_of_nodup (dks_nd E') hU).mpr h
  exact perm_eq ((h1.map _).trans hp.symm) (dks_le E') hs
end
def vD (v : Vl) : D := .tup (v.items.map fD)
theorem IsVl.isD {H : Hp} {x : V} {v : Vl} (h : IsVl K H x v) : IsD K H x (vD v) := by
  obtain ⟨t, rfl, ht⟩ := h
  refine .flatT ht fun x hx => ?_
  cases v with
  | no =>
    rw [List.mem_singleton.mp hx]
    rfl
  | num n =>
    simp only [Vl.items, List.mem_cons, List.not_mem_nil, or_false] at hx
    rcases hx with rfl | rfl <;> rfl
  | th n =>
    simp only [Vl.items, List.mem_cons, List.not_mem_nil, or_false] at hx
    rcases hx with rfl | rfl <;> rfl
theorem vD_dep (v : Vl) : (vD v).dep = 1 := by rw [vD, D.dep, deps_flat]
theorem vDs_dep : ∀ vl : List Vl, deps (vl.map vD) ≤ 1
  | [] => by rw [List.map_nil, deps]; exact Nat.zero_le _
  | v :: vl => by
    rw [List.map_cons, deps, vD_dep]
    have := vDs_dep vl
    omega
theorem VlL.isD {H : Hp} {l : Addr} {xs : List V} {vl : List Vl} (h : SqL K H l xs) (hv : VlL K H xs vl) : IsD K H (.ref l) (.lst (vl.map vD)) := by
  refine .lst h (by rw [List.length_map]; exact hv.1.symm) fun i x d hx hd => ?_
  rw [List.getElem?_map] at hd
  cases e : vl[i]? with
  | none => rw [e] at hd; cases hd
  | some v =>
    rw [e] at hd
    cases hd
    exact (hv.2 i x v hx e).isD
theorem wV_flat (w : Option Int) : flatV (wV w) = true := by cases w <;> rfl
theorem lst_dep (vl : List Vl) : (D.lst (vl.map vD)).dep ≤ 60 := by
  rw [D.dep]
  have := vDs_dep vl
  omega
def gD (n : Gn) : D := .lst [.str n.t.sort, .lst (n.t.fs.map vD), fD (wV n.t.words), .int n.num]
theorem Gn.ok.isD {H : Hp} {n : Gn} (h : n.ok K H) : IsD K H (.ref n.ra) (gD n) := by
  obtain ⟨fx, h1, h2, h3⟩ := h.fls
  refine .lst (SqL.of h.row) rfl fun i x d hx hd => ?_
  match i, hx, hd with
  | 0, hx, hd =>
    cases hx
    cases hd
    exact .str _
  | 1, hx, hd =>
    cases hx
    cases hd
    exact VlL.isD (SqL.of h1) h2
  | 2, hx, hd =>
    cases hx
    cases hd
    exact .flat (wV_flat _)
  | 3, hx, hd =>
    cases hx
    cases hd
    exact .int _
theorem gD_dep (n : Gn) : (gD n).dep ≤ 3 := by
  have := vDs_dep n.t.fs
  have e : (fD (wV n.t.words)).dep = 0 := by
    cases n.t.words <;> rfl
  unfold gD
  simp only [D.dep, deps, e]
  omega
theorem gDs_dep : ∀ N : List Gn, deps (N.map gD) ≤ 3
  | [] => by rw [List.map_nil, deps]; exact Nat.zero_le _
  | n :: N => by
    rw [List.map_cons, deps]
    have := gDs_dep N
    have := gD_dep n
    omega
theorem deq_rows (N : List Gn) : deq (D.lst (N.map gD)) (D.lst (([] : List V).map fD)) = N.isEmpty := by
  cases N <;> simp [deq, deqs]
def Cg (H : Hp) (b : Addr) : Prop := Mu H b ∨ ∃ ps, H b = some (.tbl ps)
theorem Kp.seqC {K : PySem.W.Frag} {S : Addr → Prop} {H H' : Hp} (k : Kp S H H') (cg : ∀ b, S b → Cg H b) {c : Addr} {xs : List V} (h : SqT K H c xs) : SqT K H' c xs := by
  rcases h with h | h
  · have n : ¬ S c := fun z => by
      rcases cg c z with (⟨ys, e⟩ | ⟨ys, e⟩) | ⟨ps, e⟩ <;> rcases h with h | ⟨o, h⟩ <;> (rw [e] at h; cases h)
    rcases h with h | ⟨o, h⟩
    · exact .inl (.inl (k _ _ n h))
    · exact .inl (.inr ⟨o, k _ _ n h⟩)
  · exact .inr h
theorem VlL.kc {S : Addr → Prop} {H H' : Hp} {xs : List V} {vl : List Vl} (h : VlL K H xs vl) (k : Kp S H H') (cg : ∀ b, S b → Cg H b) : VlL K H' xs vl := ⟨h.1, fun i x v e1 e2 => by
  obtain ⟨t, e, h2⟩ := h.2 i x v e1 e2
  exact ⟨t, e, k.seqC cg h2⟩⟩
structure LJ (a : Adr) (K : PySem.W.Frag) (H : Hp) (M : MA) (km gd lr lp : Addr) (N : List Gn) (E0 E : List (Nat × En)) (G : List Nat) : Prop where
  ms : MS a K H M km gd E G
  hr : H lr = some (.lst (N.map fun n => V.ref n.ra))
  hp : H lp = some (.lst (E0.map fun p => V.int (p.1 : Nat)))
  ok : ∀ n ∈ N, n.ok K H
  st : stat E = stat E0
  bc : BC E G
  tb : TbA a H
section
variable {H H' : Hp} {M : MA} {km gd lr lp : Addr} {N : List Gn} {E0 E E' : List (Nat × En)} {G G' : List Nat}
theorem LJ.same (h : LJ a K H M km gd lr lp N E0 E G) (k : Same H H') : LJ a K H' M km gd lr lp N E0 E G :=
  ⟨h.ms.same k, k _ _ h.hr, k _ _ h.hp, fun n hn => (h.ok n hn).kp (S := fun _ => False) (Same.kp k) (fun _ z => z.elim) (fun z => z) (fun z => z), h.st, h.bc, h.tb.same k⟩
theorem LJ.cg (h : LJ a K H M km gd lr lp N E0 E G) : ∀ b, (M.own b ∨ b = gd ∨ b = a.pc_z5) → Cg H b := fun b z => by
  rcases z with z | rfl | rfl
  · exact .inl (h.ms.tm.mu b z)
  · exact .inl (.inr ⟨_, h.ms.di⟩)
  · exact .inr h.tb.tbl
theorem LJ.next (h : LJ a K H M km gd lr lp N E0 E G) (nS : ∀ b ∈ adrs lr lp N, ¬ (M.own b ∨ b = gd ∨ b = a.pc_z5)) (k : Kp (fun b => M.own b ∨ b = gd ∨ b = a.pc_z5) H H') (ms : MS a K H' M km gd E' G') (st : stat E' = stat E) (bc : BC E' G') (tb : TbA a H') : LJ a K H' M km gd lr lp N E0 E' G' := by
  refine ⟨ms, k _ _ (nS _ List.mem_cons_self) h.hr, k _ _ (nS _ (List.mem_cons_of_mem _ List.mem_cons_self)) h.hp, fun n hn => ?_, st.trans h.st, bc, tb⟩
  obtain ⟨fx, h1, h2, h3⟩ := (h.ok n hn).fls
  exact ⟨k _ _ (nS _ (mem_ra hn)) (h.ok n hn).row, fx, k _ _ (nS _ (mem_fl hn)) h1, h2.kc k h.cg, h3⟩
theorem LJ.hpE (h : LJ a K H M km gd lr lp N E0 E G) : H lp = some (.lst (E.map fun p => V.int (p.1 : Nat))) := by
  have := congrArg (List.map fun (n : Nat) => V.int (n : Int)) (stat_fst h.st)
  rw [List.map_map, List.map_map] at this
  have e1 : (E.map fun p => V.int (p.1 : Nat)) = E0.map fun p => V.int (p.1 : Nat) := this
  rw [e1]
  exact h.hp
theorem LJ.len (h : LJ a K H M km gd lr lp N E0 E G) : E.length = E0.length := by
  have := congrArg List.length (stat_fst h.st)
  rw [List.length_map, List.length_map] at this
  exact this
theorem LJ.at_ (h : LJ a K H M km gd lr lp N E0 E G) {i : Nat} {p : Nat × En} (hp : E0[i]? = some p) : ∃ e, E[i]? = some (p.1, e) ∧ e.t = p.2.t ∧ e.ser = p.2.ser := by
  have h1 := congrArg (fun l => l[i]?) h.st
  unfold stat at h1
  rw [List.getElem?_map, List.getElem?_map, hp] at h1
  cases e : E[i]? with
  | none => rw [e] at h1; cases h1
  | some q =>
    rw [e] at h1
    obtain ⟨q1, q2⟩ := q
    have h2 : (q1, q2.t, q2.ser) = (p.1, p.2.t, p.2.ser) := Option.some.inj h1
    injection h2 with h3 h4
    injection h4 with h4 h5
    subst h3
    exact ⟨q2, rfl, h4, h5⟩
end
def FL (K : PySem.W.Frag) (S : Addr → Prop) (H : Hp) (D : Addr) (E : List (Nat × En)) : Prop := ¬ S D ∧ ∃ fls : List Addr, H D = some (.lst (fls.map V.ref)) ∧ fls.length = E.length ∧ ∀ (j : Nat) fl p, fls[j]? = some fl → E[j]? = some p → ¬ S fl ∧ ∃ fx, H fl = some (.lst fx) ∧ VlL K H fx p.2.t.fs
theorem FL.kc {S : Addr → Prop} {H H' : Hp} {D : Addr} {E : List (Nat × En)} (h : FL K S H D E) (k : Kp S H H') (cg : ∀ b, S b → Cg H b) : FL K S H' D E := by
  obtain ⟨h1, fls, h2, h3, h4⟩ := h
  refine ⟨h1, fls, k _ _ h1 h2, h3, fun j fl p hj hp => ?_⟩
  obtain ⟨h5, fx, h6, h7⟩ := h4 j fl p hj hp
  exact ⟨h5, fx, k _ _ h5 h6, h7.kc k cg⟩
theorem FL.same {S : Addr → Prop} {H H' : Hp} {D : Addr} {E : List (Nat × En)} (h : FL K S H D E) (k : Same H H') : FL K S H' D E := by
  obtain ⟨h1, fls, h2, h3, h4⟩ := h
  refine ⟨h1, fls, k _ _ h2, h3, fun j fl p hj hp => ?_⟩
  obtain ⟨h5, fx, h6, h7⟩ := h4 j fl p hj hp
  exact ⟨h5, fx, k _ _ h6, h7.same k⟩
def sp_law (ts : List Addr) (K : PySem.W.Frag) : Sp := fun vs H Q _ => ∃ (a : Addr) (ns : List Int), vs = [.ref a] ∧ SqL K H a (ns.map V.int) ∧ ns.length ≤ 63 ∧ (∀ b ∈ ts, H b = some (.tbl #[])) ∧ ∀ H', Q (.bl true) H'
theorem ok_law (T : Txt K mg a) (B : BM mg base) {ts : List Addr} (hts : a.pc_z5 ∈ ts) : FnOk P w K mg base CX0 15 a.a_law a.d_law ["_law_script"] (sp_law ts K) := by
  refine T.f_law.ok sc_law (fun vs H Q E h => ?_) (fun cdv A outer s H vs Q E hr h => ?_)
  · obtain ⟨_, _, rfl, _⟩ := h
    rfl
  · obtain ⟨sc, ns, rfl, hS, hl, htb, q⟩ := h
    refine ⟨_, (pss_cons (ps_set (i := 1) sc_law.nd rfl (Or.inl rfl) (pe_call (ok_z51 T) (hr.mono (by decide)) rfl T.m_z51 T.f_z51.kp T.b_z51 .nil pass0 (pa_cons (pv 0) (pa_cons pe_int pa_nil)))) (pss_cons (ps_set (i := 2) sc_law.nd rfl (Or.inr rfl) (pe_make T.mk_Memory (ok_z13 T) (hr.mono (by decide)) rfl T.mc_Memory T.b_z13 .nil pass0 (pa_cons (pe_op op_add pe_int (pe_op op_mod (pv 1) pe_int)) (pa_cons (pe_op op_add pe_int (pe_op op_mod (pe_op op_fdivL (pv 1) pe_int) pe_int)) pa_nil)))) (pss_cons (ps_asg (pe_call (ok_z54 T) (hr.mono (by decide)) rfl T.m_z54 T.f_z54.kp T.b_z54 .nil pass0 (pa_cons (pv 0) (pa_cons (pv 2) (pa_cons pe_int pa_nil)))) (pg_tup (n := 2) rfl (pgs_cons (pg_name (i := 3) sc_law.nd rfl (Or.inl rfl)) (pgs_cons (pg_name (i := 4) sc_law.nd rfl (Or.inl rfl)) pgs_nil)))) (pss_cons (ps_set (i := 5) sc_law.nd rfl (Or.inl rfl) (pe_make T.mk_Marking (ok_z4 T) (hr.mono (by decide)) rfl T.mc_Marking T.b_z4 .nil pass0 (pa_cons (pv 2) pa_nil))) (pss_cons (ps_forW PassesOwn.never rfl (pi_list (pe_slice sl_list (pv 0) (po_some pe_int) (po_some pe_int))) (pg_name (i := 1) sc_law.nd rfl (Or.inl rfl)) pss_bodyT) pss_bodyT))))), ?_⟩
    dsimp! []
    refine ⟨sc, ns, 0, rfl, hS, by decide, fun first => ?_⟩
    obtain ⟨m, em, hm0, hm1⟩ : ∃ m : Nat, 1 + first % 4 = (m : Int) ∧ 0 < m ∧ m ≤ 4 := ⟨(1 + first % 4).toNat, by omega, by omega, by omega⟩
    obtain ⟨c, ec, hc0, hc1⟩ : ∃ c : Nat, 8 + first / 4 % 32 = (c : Int) ∧ 0 < c ∧ c ≤ 39 := ⟨(8 + first / 4 % 32).toNat, by omega, by omega, by omega⟩
    have hmc : m * c ≤ 1000 := Nat.le_trans (Nat.mul_le_mul hm1 hc1) (by decide)
    refine ⟨first, rfl, by decide, first, rfl, .small (by decide) (by decide), by decide, fun pm dxm hpm hdxm ne => ?_⟩
    rw [em, ec]
    refine ⟨pm, dxm, m, c, rfl, upd_same, hm0, hc0, hmc, fun M H1 eMp eMm eMc hMem kp1 hown hlb hpr => ⟨rfl, ?_⟩⟩
    have hown0 : ∀ b, M.own b → H b = none := fun b hb => none_up (none_up (hown b hb))
    have s1 := same_new hpm hdxm kp1
    subst eMp
    have hT1 : TM a K H1 M [] := ⟨_, [], ⟨hMem, fun r hr => (nomatch hr)⟩, rfl⟩
    refine ⟨sc, ns, M, 10, rfl, s1.seq hS, hT1, fun tt lr lp H2 E N k2 G2 hE24 htt hfr hcl hmk0 => ?_⟩
    have s2 : Same H H2 := fun b u e => k2 b u (fun z => by rw [hown0 b z] at e; cases e) (s1 b u e)
    refine ⟨tt, rfl, _, SqT.of htt, rfl, _, _, rfl, _, _, rfl, rfl, fun km dxk hkm hdxk nek => ?_⟩
    refine ⟨km, dxk, M, E, H2, rfl, upd_same, (Same.put hdxk).trans (Same.put (by rw [upd_ne nek.symm]; exact hkm)), hkm, G2.tm, fun gd H3 k3 hgd hMS => ⟨rfl, ?_⟩⟩
    have hgd2 : H2 gd = none := none_up (none_up hgd)
    have s3 := same_new hkm hdxk k3
    have G3 := G2.same s3
    have s03 := s2.trans s3
    have tb3 : TbA a H3 := .inl (s03 _ _ (htb _ hts))
    have L3 : LJ a K H3 M km gd lr lp N E E [] := ⟨hMS, G3.hr, G3.hp, fun n hn => G3.ok n hn, rfl, (fun p e he hm => by have := hmk0 _ he; rw [show e.mkd = false from this] at hm; cases hm), tb3⟩
    have nS : ∀ b ∈ adrs lr lp N, ¬ (M.own b ∨ b = gd ∨ b = a.pc_z5) := fun b hb z => by
      obtain ⟨u, e⟩ := G3.some_ b hb
      obtain ⟨u2, e2⟩ := G2.some_ b hb
      rcases z with z | rfl | rfl
      · exact (G3.no b hb).1 z
      · rw [e2] at hgd2
        cases hgd2
      · rw [s03 _ _ (htb _ hts)] at e
        cases e
    have hNl := G2.len
    have hrel := G2.rel
    have hsw := G2.sw
    have hApE := G2.tm.nd
    have hVE : VE E := fun p e he n hn => by
      obtain ⟨i, hi⟩ := List.getElem?_of_mem he
      have hiE := (List.getElem?_eq_some_iff.mp hi).1
      have hiN : N[i]? = some N[i] := List.getElem?_eq_getElem (by omega)
      obtain ⟨_, r2⟩ := hrel i _ _ (by omega) hi hiN
      have r2 : e.t.fs = N[i].t.fs.map (ren (E.map (·.1))) := r2
      rw [r2] at hn
      obtain ⟨v, hv, ev⟩ := List.mem_map.mp hn
      cases v with
      | no => cases ev
      | num z => cases ev
      | th z =>
        have hz := hcl _ (List.mem_of_getElem? hiN) z hv
        have ev : Vl.th (((E.map (·.1)).getD z.toNat 0 : Nat) : Int) = Vl.th n := ev
        injection ev with ev
        refine ⟨_, ev.symm, ?_⟩
        rw [List.getD_eq_getElem?_getD, List.getElem?_eq_getElem (by rw [List.length_map]; omega)]
        exact List.getElem_mem _
    have hcls : Cls N := fun n hn z hz => by rw [← hNl]; exact hcl n hn z hz
    refine ⟨sc, _, rfl, s03.seq hS, fun lc hlc => ?_⟩
    obtain ⟨cs, ecs⟩ : ∃ cs, cutV (ns.map V.int) (some 2) (some 9) = cs := ⟨_, rfl⟩
    rw [ecs]
    have ci : ∀ x ∈ cs, ∃ z, x = V.int z := fun x hx => by
      rw [← ecs] at hx
      have h1 := List.mem_of_mem_drop (List.mem_of_mem_take hx)
      obtain ⟨z, _, e⟩ := List.mem_map.mp h1
      exact ⟨z, e.symm⟩
    have s4 := Same.put (o := .lst cs) hlc
    have hc4 : upd H3 lc (.lst cs) lc = some (.lst cs) := upd_same
    have L4 := L3.same s4
    have nlc : ¬ (M.own lc ∨ lc = gd ∨ lc = a.pc_z5) := fun z => by
      rcases z with z | z | z
      · exact L3.ms.tm.nown hlc z
      · rw [z, L3.ms.di] at hlc
        cases hlc
      · rw [z, s03 _ _ (htb _ hts)] at hlc
        cases hlc
    have hS4 := (s03.trans s4).seq hS
    generalize upd H3 lc (.lst cs) = H4 at s4 hc4 L4 hS4
    clear hMS k3 hgd hkm hdxk htt hMem kp1 hown hlb hpr hlc
    have hSall : ∀ H', Kp (fun b => M.own b ∨ b = gd ∨ b = a.pc_z5) H4 H' → SqL K H' sc (ns.map V.int) := fun H' k => by
      rcases hS with h | h
      · have h0 : ∃ u, H sc = some u ∧ ∀ ps, u ≠ .tbl ps := by
          rcases h with h | ⟨o, h⟩
          · exact ⟨_, h, fun _ z => by cases z⟩
          · exact ⟨_, h, fun _ z => by cases z⟩
        obtain ⟨u, h0, hu⟩ := h0
        have n : ¬ (M.own sc ∨ sc = gd ∨ sc = a.pc_z5) := fun z => by
          rcases z with z | z | z
          · rw [hown0 _ z] at h0
            cases h0
          · rw [← z, s2 _ _ h0] at hgd2
            cases hgd2
          · rw [z, htb _ hts] at h0
            cases h0
            exact hu _ rfl
        rcases h with h | ⟨o, h⟩
        · exact .inl (.inl (k _ _ n (s4 _ _ (s03 _ _ h))))
        · exact .inl (.inr ⟨o, k _ _ n (s4 _ _ (s03 _ _ h))⟩)
      · exact .inr h
    refine ⟨lc, rfl, ⟨_, SqL.of hc4⟩, fw_list cs (fun i σ H5 => ∃ (o1 : Option V) (E1 : List (Nat × En)) (G1 : List Nat), σ = [some (.ref sc), o1, some (.ref M.p), some (.ref lr), some (.ref lp), some (.ref km), none, none, none, none, none] ∧ Kp (fun b => M.own b ∨ b = gd ∨ b = a.pc_z5) H4 H5 ∧ LJ a K H5 M km gd lr lp N E E1 G1) ⟨_, E, [], rfl, Kp.refl _ _, L4⟩ ?_ ?_ ?_⟩
    · rintro i σ H5 _ ⟨o1, E1, G1, rfl, k5, _⟩
      exact SqL.of (k5 _ _ nlc hc4)
    · rintro i x σ H5 hx ⟨o1, E1, G1, rfl, k5, L5⟩
      obtain ⟨z, rfl⟩ := ci x (List.mem_of_getElem? hx)
      refine gN ?_
      refine bodyT.of (pss_one (ps_if (PW.pt (pw_and (pt_cmpR (op_neD hr.units) (pv 3) (pe_lst pa_nil) (nomark _)) (pw_and1 (pt_cmpR op_gt (pe_op op_mod (pv 1) pe_int) pe_int (nomark _))))) (pss_one (ps_expr (pe_meth (pv 5) T.cl_Marking T.me_z6 (ok_z6 T) (hr.mono (by decide)) T.b_z6 .nil pass0 (pa_cons (pe_ix ix_list (pv 4) (pe_op op_mod (pe_op op_fdivL (pv 1) pe_int) (pe_callB call_len_seq rfl T.n_len bt_len (pa_cons (pv 3) pa_nil))) (fun _ _ => rfl)) pa_nil)))) pss_nil)) ?_
      dsimp! []
      refine fun p hp => ?_
      have s6 := Same.put (o := .lst []) hp
      have L6 := L5.same s6
      have hD : IsD K (upd H5 p (.lst [])) (.ref lr) (.lst (N.map gD)) := by
        refine .lst (SqL.of L6.hr) (by rw [List.length_map, List.length_map]) fun i x d hx hd => ?_
        rw [List.getElem?_map] at hx hd
        cases e : N[i]? with
        | none => rw [e] at hx; cases hx
        | some n =>
          rw [e] at hx hd
          cases hx
          cases hd
          exact (L6.ok n (List.mem_of_getElem? e)).isD
      refine ⟨_, _, hD, .flatL (SqL.of upd_same) (flat_ints []), by rw [D.dep]; have := gDs_dep N; omega, ?_⟩
      rw [if_pos rfl, deq_rows]
      have k6 := k5.trans (Same.kp (S := fun b => M.own b ∨ b = gd ∨ b = a.pc_z5) s6)
      generalize upd H5 p (.lst []) = H6 at s6 L6 hD k6
      cases hN : N.isEmpty with
      | true => exact ⟨false, rfl, iteF ⟨k6, _, _, L6⟩⟩
      | false =>
        have hNpos : 0 < N.length := by
          cases N with
          | nil => cases hN
          | cons => simp
        refine ⟨true, rfl, iteT ⟨by decide, ite2 (fun _ => ?_) fun _ => ⟨k6, _, _, L6⟩⟩⟩
        obtain ⟨dx6, hk6⟩ := L6.ms.ob
        refine ⟨_, _, hk6, flK_no, .small (by decide) (by decide), _, .inl (SqL.of L6.hr), by rw [List.length_map]; omega, ?_⟩
        rw [List.length_map]
        have m0 := Int.emod_nonneg (z / 4) (show (N.length : Int) ≠ 0 by omega)
        have m1 := Int.emod_lt_of_pos (z / 4) (show (0 : Int) < (N.length : Int) by omega)
        obtain ⟨kk, ek, hkk⟩ : ∃ kk : Nat, z / 4 % (N.length : Int) = (kk : Int) ∧ kk < N.length := ⟨(z / 4 % (N.length : Int)).toNat, by omega, by omega⟩
        rw [ek]
        have hE6l := L6.len
        have hkE : kk < E1.length := by omega
        obtain ⟨⟨pl, e⟩, ep⟩ : ∃ p, E1[kk] = p := ⟨_, rfl⟩
        have he : E1[kk]? = some (pl, e) := by rw [List.getElem?_eq_getElem hkE, ep]
        have hpE : pl ∈ E1.map (·.1) := List.mem_map.mpr ⟨_, List.mem_of_getElem? he, rfl⟩
        refine ⟨lp, _, _, V.int (pl : Nat), rfl, rfl, SqL.of L6.hpE, atI_nat (by rw [List.getElem?_map, he]; rfl), M, km, gd, E1, G1, pl, rfl, L6.ms, hpE, by omega, fun H7 k7 ms7 => ?_⟩
        obtain ⟨a1, a2, a3⟩ := shd_is (E1, G1) (q := pl) hpE
        have k7' := k7.mono (S' := fun b => M.own b ∨ b = gd ∨ b = a.pc_z5) fun b z => z.elim .inl fun z => .inr (.inl z)
        exact ⟨k6.trans k7', _, _, L6.next nS k7' ms7 a1.st (BC.shd (S := (E1, G1)) L6.ms.tm.nd L6.bc a1) (tba_kp L6.tb L6.ms k7)⟩
    · rintro σ H5 ⟨o1, E1, G1, rfl, k5, L5⟩
      refine bodyT.of (pss_cons (ps_forW PassesOwn.never rfl (pi_range1 rfl T.n_range (pa_cons (pe_op op_mod (pe_call (ok_z51 T) (hr.mono (by decide)) rfl T.m_z51 T.f_z51.kp T.b_z51 .nil pass0 (pa_cons (pv 0) (pa_cons pe_int pa_nil))) pe_int) pa_nil)) (pg_name (i := 6) sc_law.nd rfl (Or.inl rfl)) pss_bodyT) pss_bodyT) ?_
      dsimp! []
      refine ⟨sc, ns, 1, rfl, hSall _ k5, by decide, fun c1 => ⟨_, rfl, by decide, by omega, by omega, ?_⟩⟩
      refine fw_range (fun i σ H6 => ∃ (o6 : Option V) (E2 : List (Nat × En)) (G2 : List Nat), σ = [some (.ref sc), o1, some (.ref M.p), some (.ref lr), some (.ref lp), some (.ref km), o6, none, none, none, none] ∧ LJ a K H6 M km gd lr lp N E E2 G2) ⟨_, E1, G1, rfl, L5⟩ ?_ ?_
      · rintro i σ H6 hi ⟨o6, E2, G2, rfl, L6⟩
        refine gN ?_
        refine bodyT.of (pss_one (ps_if (pt_cmpR (op_neD hr.units) (pe_meth0 (pv 5) T.cl_Marking T.me_z2 (ok_z2 T) (hr.mono (by decide)) T.b_z2 .nil pass0) (pe_lst pa_nil) (nomark _)) (pss_one (ps_expr (pe_meth0 (pv 5) T.cl_Marking T.me_z10 (ok_z10 T) (hr.mono (by decide)) T.b_z10 .nil pass0))) pss_nil)) ?_
        obtain ⟨dx6, hk6⟩ := L6.ms.ob
        have f1 := flK_no (m := M.p) (g := gd) (n := "grey")
        dsimp! [hk6, HO.ins.injEq, f1]
        refine ⟨M, km, gd, E2, G2, rfl, L6.ms, fun l hl p hp => ?_⟩
        have s7 := (Same.put (o := .lst ((G2.map fun (p : Nat) => (p : Int)).map V.int)) hl).trans (Same.put (o := .lst []) hp)
        have L7 := L6.same s7
        refine ⟨_, _, .flatL (SqL.of (Same.put (o := .lst []) hp _ _ upd_same)) (flat_ints _), .flatL (SqL.of upd_same) (flat_ints []), dep_ints _, ?_⟩
        rw [if_pos rfl, deq_none]
        generalize upd (upd H6 l (.lst ((G2.map fun (p : Nat) => (p : Int)).map V.int))) p (.lst []) = H7 at s7 L7
        cases G2 with
        | nil => exact ⟨false, rfl, iteF ⟨_, _, L7⟩⟩
        | cons pl G3 =>
          obtain ⟨dx7, hk7⟩ := L7.ms.ob
          obtain ⟨e, he, hm⟩ := L7.ms.gm pl List.mem_cons_self
          have hE7l := L7.len
          have hv7 : VE E2 := hVE.stat L7.st
          obtain ⟨hn, hh, hin⟩ := hv7.hold he
          obtain ⟨st1, st2, _⟩ := step_is L7.ms.tm.nd he hm hh hin L7.bc
          refine ⟨true, rfl, iteT ⟨_, _, hk7, flK_no, M, km, gd, E2, G3, pl, e, hn, rfl, L7.ms, he, hh, hin, by omega, fun H8 k8 ms8 => ⟨_, _, L7.next nS (k8.mono fun b z => z.elim .inl fun z => .inr (.inl z)) ms8 st1.st st2 (tba_kp L7.tb L7.ms k8)⟩⟩⟩
      · rintro σ H6 ⟨o6, E2, G2, rfl, L6⟩
        refine bodyT.of (pss_cons (ps_set (i := 7) sc_law.nd rfl (Or.inl rfl) (pe_call (ok_z52 T) (hr.mono (by decide)) rfl T.m_z52 T.f_z52.kp T.b_z52 .nil pass0 (pa_cons (pv 3) (pa_cons (pe_call (ok_z53 T) (hr.mono (by decide)) rfl T.m_z53 T.f_z53.kp T.b_z53 .nil pass0 (pa_cons (pv 2) (pa_cons (pv 4) pa_nil))) pa_nil)))) (pss_cons (ps_lc (j := 8) rfl sc_law.nd rfl rfl (lcok (x := "_law_place") (ns := ["_law_memory"]) (fr := [2]) rfl (by decide +kernel) rfl (by decide +kernel) rfl (List.forall_mem_cons.mpr ⟨rfl, List.forall_mem_nil _⟩) rfl rfl (List.forall_mem_cons.mpr ⟨⟨rfl, rfl, .inl rfl⟩, List.forall_mem_nil _⟩) (by decide +kernel)) (pi_list (pv 4)) (fun _ _ _ _ => (pe_methV0 (L := [(a.c_Thing, sp_z37 a K), (a.c_PlainThing, sp_z37 a K), (a.c_PairThing, sp_z37 a K)]) (pe_meth (pv 1) T.cl_Memory T.me_z23 (ok_z23 T) (hr.mono (by decide)) T.b_z23 .nil pass0 (pa_cons (pv 0) pa_nil)) (List.forall_mem_cons.mpr ⟨⟨_, _, _, _, T.cl_Thing, T.me_z37, ok_z37 T, hr.mono (by decide), T.b_z37⟩, List.forall_mem_cons.mpr ⟨⟨_, _, _, _, T.cl_PlainThing, T.me_PlainThing_fields, ok_z37 T, hr.mono (by decide), T.b_z37⟩, List.forall_mem_cons.mpr ⟨⟨_, _, _, _, T.cl_PairThing, T.me_PairThing_fields, ok_z37 T, hr.mono (by decide), T.b_z37⟩, List.forall_mem_nil _⟩⟩⟩) .nil pass0)) (fun _ _ _ _ => .nil)) (pss_cons (ps_forW PassesOwn.never rfl (pi_range1 rfl T.n_range (pa_cons pe_int pa_nil)) (pg_name (i := 9) sc_law.nd rfl (Or.inl rfl)) pss_bodyT) pss_bodyT))) ?_
        obtain ⟨dx6, hM6⟩ := L6.ms.tm.ob
        dsimp! [hM6, HO.ins.injEq]
        have hps : (E.map (·.1)).Nodup := List.pairwise_map.mpr hApE
        have NM : ∀ E', stat E' = stat E → Nm (E.map (·.1)) E' N := fun E' hst => by
          refine ⟨stat_fst hst, ?_, fun i p n hp hn => ?_, hps⟩
          · have := congrArg List.length (stat_fst hst)
            rw [List.length_map, List.length_map] at this
            omega
          · have h1 := congrArg (fun l => l[i]?) hst
            unfold stat at h1
            rw [List.getElem?_map, List.getElem?_map, hp] at h1
            cases e : E[i]? with
            | none => rw [e] at h1; cases h1
            | some p0 =>
              rw [e] at h1
              have h2 : (p.1, p.2.t, p.2.ser) = (p0.1, p0.2.t, p0.2.ser) := Option.some.inj h1
              injection h2 with h3 h4
              injection h4 with h4 h5
              rw [h4]
              exact hrel i p0 n (by have := (List.getElem?_eq_some_iff.mp e).1; omega) e hn
        have n2 := NM E2 L6.st
        have hE2l := L6.len
        refine ⟨M, E2, lp, rfl, L6.ms.tm, L6.hpE, by omega, fun D1 hD1 => ?_⟩
        have s7 := Same.put (o := .lst (natsV (dks E2))) hD1
        have L7 := L6.same s7
        refine ⟨N, lr, D1, dks E2, rfl, L7.hr, L7.ok, hcls, by omega, upd_same, dks_nd E2, n2.dlt, fun D2 ds U H8 s8 hD2 hD28 hdp hds hcst hcn => ?_⟩
        have L8 := L7.same s8
        have nD2 : ¬ (M.own D2 ∨ D2 = gd ∨ D2 = a.pc_z5) := fun z => by
          rcases L7.cg D2 z with (⟨_, e⟩ | ⟨_, e⟩) | ⟨_, e⟩ <;> (rw [hD2] at e; cases e)
        clear s7 s8 hD1 hD2 L7
        refine ⟨⟨_, SqL.of L8.hpE⟩, fun D3 hD3 => ?_⟩
        refine lcl (E2.map fun p => V.int (p.1 : Nat)) (fun i ys H9 => ∃ fls : List Addr, ys = fls.map V.ref ∧ Same H8 H9 ∧ H9 D3 = some (.lst ys) ∧ fls.length = i ∧ ∀ (j : Nat) fl p, fls[j]? = some fl → E2[j]? = some p → H8 fl = none ∧ fl ≠ D3 ∧ ∃ fx, H9 fl = some (.lst fx) ∧ VlL K H9 fx p.2.t.fs) ⟨[], rfl, Same.put hD3, upd_same, rfl, fun j fl p h => by simp at h⟩ ?_ ?_ ?_
        · rintro i ys H9 _ ⟨fls, rfl, s9, _⟩
          exact SqL.of (s9 _ _ L8.hpE)
        · rintro i m x ys H9 hm hx ⟨fls, rfl, s9, hD9, hfl, hall⟩
          rw [if_pos rfl]
          obtain ⟨⟨pl, e⟩, hpe, rfl⟩ : ∃ p, E2[i]? = some p ∧ x = V.int (p.1 : Nat) := by
            rw [List.getElem?_map] at hx
            cases e : E2[i]? with
            | none => rw [e] at hx; cases hx
            | some w => rw [e] at hx; cases hx; exact ⟨w, rfl, rfl⟩
          have L9 := L8.same s9
          obtain ⟨dx9, hM9⟩ := L9.ms.tm.ob
          obtain ⟨xs9, es9, hth9⟩ := L9.ms.tm.there (List.mem_of_getElem? hpe)
          have f1 := flM_no (pr := M.pr) (lb := M.lb) (n := "thing_at")
          dsimp! [lcSlots, Option.join_some, hM9, HO.ins.injEq, f1]
          refine ⟨M, xs9, es9, pl, e, rfl, hth9, fun tp td H10 s10 htp htd hT10 => ?_⟩
          obtain ⟨dx10, hT10o⟩ := hT10.ob
          refine ⟨tp, rfl, _, _, _, hT10o, e.t.no td, _, e.t.mem _, tp, td, e.t, rfl, hT10, fun r fx hr hvl hfx => ?_⟩
          have hD10 := s10 _ _ hD9
          have nrD : r ≠ D3 := (ne_of_none hD10 hr).symm
          have s11 := Same.put (o := .lst fx) hr
          have s911 := (s9.trans s10).trans s11
          have hr11 : upd H10 r (.lst fx) r = some (.lst fx) := upd_same
          have hr8 : H8 r = none := (s9.trans s10).free hr
          have hvl11 := hvl.same s11
          have hD11 := s11 _ _ hD10
          have mono11 : Same H9 (upd H10 r (.lst fx)) := s10.trans s11
          generalize upd H10 r (.lst fx) = H11 at s11 s911 hr11 hvl11 hD11 mono11
          have hil := (List.getElem?_eq_some_iff.mp hpe).1
          refine lcS.mk hm hD11 (by rw [List.length_map]; omega) ⟨fls ++ [r], by rw [List.map_append]; rfl, fun b u e => ?_, upd_same, by rw [List.length_append, hfl]; rfl, fun j fl p hj hp => ?_⟩
          · rw [upd_ne (ne_of_none e hD3)]
            exact s911 _ _ e
          · have kD : Kp (· = D3) H11 (upd H11 D3 (.lst (fls.map V.ref ++ [V.ref r]))) := (Kp.refl _ _).set rfl
            have muD : ∀ b, b = D3 → Mu H11 b := fun b e => .inl ⟨fls.map V.ref, by rw [e]; exact hD11⟩
            rcases Nat.lt_or_ge j fls.length with z | z
            · rw [List.getElem?_append_left z] at hj
              obtain ⟨h1, n3, fx1, h2, h3⟩ := hall j fl p hj hp
              exact ⟨h1, n3, fx1, kD _ _ n3 (mono11 _ _ h2), (h3.same mono11).kp kD muD⟩
            · have ej : j = fls.length := by
                have := (List.getElem?_eq_some_iff.mp hj).1
                rw [List.length_append, List.length_singleton] at this
                omega
              subst ej
              rw [List.getElem?_append_right (Nat.le_refl _), Nat.sub_self] at hj
              cases hj
              rw [hfl, hpe] at hp
              cases hp
              exact ⟨hr8, nrD, fx, kD _ _ nrD hr11, hvl11.kp kD muD⟩
        · rintro ys H9 ⟨fls, rfl, s9, hD9, hfl, hall⟩
          refine ⟨by decide, by decide, ?_⟩
          have L9 := L8.same s9
          have nS8 : ∀ b, H8 b = none → ¬ (M.own b ∨ b = gd ∨ b = a.pc_z5) := fun b hb z => by
            rcases L8.cg b z with (⟨_, e⟩ | ⟨_, e⟩) | ⟨_, e⟩ <;> (rw [hb] at e; cases e)
          have F9 : FL K (fun b => M.own b ∨ b = gd ∨ b = a.pc_z5) H9 D3 E := by
            refine ⟨nS8 _ hD3, fls, hD9, by rw [hfl, List.length_map]; exact hE2l, fun j fl p hj hp => ?_⟩
            obtain ⟨e, he, et, _⟩ := L9.at_ hp
            obtain ⟨h1, _, fx, h2, h3⟩ := hall j fl _ hj he
            exact ⟨nS8 _ h1, fx, h2, by rw [← et]; exact h3⟩
          have hD29 := s9 _ _ hD28
          clear hall hfl hD9 s9 L8 hD28 hD3
          refine fw_range (fun i σ H10 => ∃ (o9 : Option V) (E3 : List (Nat × En)) (G3 : List Nat), σ = [some (.ref sc), o1, some (.ref M.p), some (.ref lr), some (.ref lp), some (.ref km), o6, some (.ref D2), some (.ref D3), o9, none] ∧ LJ a K H10 M km gd lr lp N E E3 G3 ∧ Rel E2 E3 ∧ FL K (fun b => M.own b ∨ b = gd ∨ b = a.pc_z5) H10 D3 E ∧ H10 D2 = some (.lst (ds.map V.int))) ⟨none, E2, _, rfl, L9, .refl _, F9, hD29⟩ ?_ ?_
          · rintro i σ H10 hi ⟨o9, E3, G3, rfl, L10, r10, F10, hD10⟩
            refine gN ?_
            refine bodyT.of (pss_cons (ps_expr (pe_meth0 (pv 5) T.cl_Marking T.me_z0 (ok_z0 T B) (hr.mono (by decide)) T.b_z0 .nil pass0)) (pss_one (ps_if (PW.pt (pw_or (pt_cmpR (op_neD hr.units) (pe_meth0 (pv 5) T.cl_Marking T.me_z2 (ok_z2 T) (hr.mono (by decide)) T.b_z2 .nil pass0) (pe_lst pa_nil) (nomark _)) (pw_or1 (pt_cmpR (op_neD hr.units) (pe_call (ok_z53 T) (hr.mono (by decide)) rfl T.m_z53 T.f_z53.kp T.b_z53 .nil pass0 (pa_cons (pv 2) (pa_cons (pv 4) pa_nil))) (pv 7) (nomark _))))) (pss_one (ps_ret pe_bl)) pss_nil))) ?_
            obtain ⟨dx10, hk10⟩ := L10.ms.ob
            have f1 := flK_no (m := M.p) (g := gd) (n := "drain")
            dsimp! [hk10, HO.ins.injEq, f1]
            have hE3l := L10.len
            refine ⟨M, km, gd, E3, G3, rfl, L10.ms, L10.bc, hVE.stat L10.st, by omega, L10.tb, fun H11 E4 k11 tb11 ms11 r11 cl11 => ?_⟩
            have L11 := L10.next nS k11 ms11 r11.st (fun p e he hm _ n hn => cl11.hold p e he (mkE_iff.mpr ⟨e, he, hm⟩) n hn) tb11
            have F11 := F10.kc k11 L10.cg
            have hD11 := k11 _ _ nD2 hD10
            have r11' := r10.trans r11
            obtain ⟨dx11, hk11⟩ := L11.ms.ob
            refine ⟨_, _, hk11, flK_no, M, km, gd, E4, [], rfl, L11.ms, fun l hl p hp => ?_⟩
            have s12 := (Same.put (o := .lst ((([] : List Nat).map fun (p : Nat) => (p : Int)).map V.int)) hl).trans (Same.put (o := .lst []) hp)
            have L12 := L11.same s12
            have F12 := F11.same s12
            have hD12 := s12 _ _ hD11
            refine ⟨_, _, .flatL (SqL.of (Same.put (o := .lst []) hp _ _ upd_same)) (flat_ints _), .flatL (SqL.of upd_same) (flat_ints []), dep_ints _, ?_⟩
            rw [if_pos rfl, deq_none]
            generalize upd (upd H11 l (.lst ((([] : List Nat).map fun (p : Nat) => (p : Int)).map V.int))) p (.lst []) = H12 at s12 L12 F12 hD12
            have hE4l := L12.len
            refine ⟨false, rfl, iteF ⟨M, E4, lp, rfl, L12.ms.tm, L12.hpE, by omega, fun D4 hD4 => ?_⟩⟩
            have s13 := Same.put (o := .lst (natsV (dks E4))) hD4
            have L13 := L12.same s13
            have F13 := F12.same s13
            have hD13 := s13 _ _ hD12
            have eds : (dks E4).map (fun (p : Nat) => (p : Int)) = ds := due_ints hdp hds hcst.nd (due_eq n2 (NM E4 L12.st) hcls r11' cl11 hcst hcn)
            have hD43 : upd H12 D4 (.lst (natsV (dks E4))) D4 = some (.lst (ds.map V.int)) := by
              rw [upd_same, ← eds]
              rfl
            generalize upd H12 D4 (.lst (natsV (dks E4))) = H13 at s13 L13 F13 hD13 hD43
            refine ⟨_, _, .flatL (SqL.of hD43) (flat_ints _), .flatL (SqL.of hD13) (flat_ints _), dep_ints _, ?_⟩
            rw [if_pos rfl, deq_refl]
            exact ⟨false, rfl, iteF ⟨_, _, L13, r11', F13, hD13⟩⟩
          · rintro σ H10 ⟨o9, E3, G3, rfl, L10, r10, F10, hD10⟩
            refine bodyT.of (pss_cons (ps_if (pt_cmpR (op_neD hr.units) (pe_meth0 (pv 2) T.cl_Memory T.me_z15 (ok_z15 T) (hr.mono (by decide)) T.b_z15 .nil pass0) (pe_callB call_sortedL rfl T.n_sorted bt_sorted (pa_cons (pv 4) pa_nil)) (nomark _)) (pss_one (ps_ret pe_bl)) pss_nil) (pss_cons (ps_forW PassesOwn.never rfl (pi_range1 rfl T.n_range (pa_cons (pe_callB call_len_seq rfl T.n_len bt_len (pa_cons (pv 3) pa_nil)) pa_nil)) (pg_name (i := 6) sc_law.nd rfl (Or.inl rfl)) pss_bodyT) pss_bodyT)) ?_
            obtain ⟨dx10, hM10⟩ := L10.ms.tm.ob
            have f1 := flM_no (pr := M.pr) (lb := M.lb) (n := "places")
            dsimp! [hM10, HO.ins.injEq, f1]
            have hE3l := L10.len
            obtain ⟨xs, R, hR, eR⟩ := id L10.ms.tm
            have eP : allP (R.map Rw.b) = E3.map fun p => ((p.1 : Nat) : Int) := by
              rw [allP_b, ← eR, List.map_map]
              rfl
            have hRl : (R.map Rw.b).length < 64 := by
              have := congrArg List.length eR
              rw [List.length_map] at this
              rw [List.length_map]
              omega
            refine ⟨M, xs, R.map Rw.b, rfl, hR.mem, hRl, fun l1 ns1 H11 s11 hl1 hl11 hp1 hs1 => ?_⟩
            have L11 := L10.same s11
            have hlp11 : SqL K H11 lp ((E3.map fun p => ((p.1 : Nat) : Int)).map V.int) := by
              rw [List.map_map]
              exact SqL.of L11.hpE
            refine ⟨_, hlp11, by rw [List.length_map]; omega, fun l2 ns2 hl2 hp2 hs2 => ?_⟩
            have e12 : ns1 = ns2 := perm_eq ((hp1.trans (by rw [eP])).trans hp2.symm) hs1 hs2
            subst e12
            have s12 := Same.put (o := .lst (ns1.map V.int)) hl2
            have L12 := L11.same s12
            have F12 := (F10.same s11).same s12
            refine ⟨_, _, .flatL (SqL.of (s12 _ _ hl11)) (flat_ints _), .flatL (SqL.of upd_same) (flat_ints _), dep_ints _, ?_⟩
            rw [if_pos rfl, deq_refl]
            generalize upd H11 l2 (.lst (ns1.map V.int)) = H12 at s12 L12 F12
            clear L10 F10 L11 hlp11 hl2 hl1 hl11 s11 s12 hR
            refine ⟨false, rfl, iteF ⟨_, .inl (SqL.of L12.hr), by rw [List.length_map]; omega, by rw [List.length_map]; omega, ?_⟩⟩
            rw [List.length_map]
            refine fw_range (fun i σ H13 => ∃ (o6 o10 : Option V), σ = [some (.ref sc), o1, some (.ref M.p), some (.ref lr), some (.ref lp), some (.ref km), o6, some (.ref D2), some (.ref D3), o9, o10] ∧ LJ a K H13 M km gd lr lp N E E3 G3 ∧ FL K (fun b => M.own b ∨ b = gd ∨ b = a.pc_z5) H13 D3 E) ⟨_, _, rfl, L12, F12⟩ ?_ ?_
            · rintro i σ H13 hi ⟨o6, o10, rfl, L13, F13⟩
              have hiE : i < E.length := by omega
              obtain ⟨⟨pl, e0⟩, ep⟩ : ∃ p, E[i] = p := ⟨_, rfl⟩
              have hp0 : E[i]? = some (pl, e0) := by rw [List.getElem?_eq_getElem hiE, ep]
              obtain ⟨n, en⟩ : ∃ n, N[i] = n := ⟨_, rfl⟩
              have hn : N[i]? = some n := by rw [List.getElem?_eq_getElem hi, en]
              obtain ⟨e, he, et, es⟩ := L13.at_ hp0
              obtain ⟨w1, w2⟩ := hsw i _ _ hp0 hn
              have w1 : e0.ser = 2 * (i : Int) + 1 := w1
              have w2 : e0.t.words = n.t.words := w2
              have hatP : atI (E3.map fun p => V.int (p.1 : Nat)) (i : Int) = some (V.int (pl : Nat)) := atI_nat (by rw [List.getElem?_map, he]; rfl)
              obtain ⟨dx13, hM13⟩ := L13.ms.tm.ob
              obtain ⟨xs13, es13, hth13⟩ := L13.ms.tm.there (List.mem_of_getElem? he)
              refine gN ?_
              refine bodyT.of (pss_cons (ps_set (i := 10) sc_law.nd rfl (Or.inl rfl) (pe_meth (pv 2) T.cl_Memory T.me_z23 (ok_z23 T) (hr.mono (by decide)) T.b_z23 .nil pass0 (pa_cons (pe_ix ix_list (pv 4) (pv 6) (fun _ _ => rfl)) pa_nil))) (pss_one (ps_if (PW.pt (pw_or (pt_cmpR op_ne (pe_meth (pv 2) T.cl_Memory T.me_z18 (ok_z18 T) (hr.mono (by decide)) T.b_z18 .nil pass0 (pa_cons (pe_ix ix_list (pv 4) (pv 6) (fun _ _ => rfl)) pa_nil)) (pe_op op_add (pe_op op_mul pe_int (pv 6)) pe_int) (nomark _)) (pw_or (pt_cmpR (op_neD hr.units) (pe_methV0 (L := [(a.c_Thing, sp_z37 a K), (a.c_PlainThing, sp_z37 a K), (a.c_PairThing, sp_z37 a K)]) (pv 10) (List.forall_mem_cons.mpr ⟨⟨_, _, _, _, T.cl_Thing, T.me_z37, ok_z37 T, hr.mono (by decide), T.b_z37⟩, List.forall_mem_cons.mpr ⟨⟨_, _, _, _, T.cl_PlainThing, T.me_PlainThing_fields, ok_z37 T, hr.mono (by decide), T.b_z37⟩, List.forall_mem_cons.mpr ⟨⟨_, _, _, _, T.cl_PairThing, T.me_PairThing_fields, ok_z37 T, hr.mono (by decide), T.b_z37⟩, List.forall_mem_nil _⟩⟩⟩) .nil pass0) (pe_ix ix_list (pv 8) (pv 6) (fun _ _ => rfl)) (nomark _)) (pw_or1 (pt_cmpR op_ne (pe_methV0 (L := [(a.c_Thing, sp_z42), (a.c_PlainThing, sp_z29 a K), (a.c_PairThing, sp_z42)]) (pv 10) (List.forall_mem_cons.mpr ⟨⟨_, _, _, _, T.cl_Thing, T.me_z42, ok_z42 T, hr.mono (by decide), T.b_z42⟩, List.forall_mem_cons.mpr ⟨⟨_, _, _, _, T.cl_PlainThing, T.me_z29, ok_z29 T, hr.mono (by decide), T.b_z29⟩, List.forall_mem_cons.mpr ⟨⟨_, _, _, _, T.cl_PairThing, T.me_PairThing_words, ok_z42 T, hr.mono (by decide), T.b_z42⟩, List.forall_mem_nil _⟩⟩⟩) .nil pass0) (pe_ix ix_list (pe_ix ix_list (pv 3) (pv 6) (fun _ _ => rfl)) pe_int (fun _ _ => rfl)) (nomark _)))))) (pss_one (ps_ret pe_bl)) pss_nil))) ?_
              have f1 := flM_no (pr := M.pr) (lb := M.lb) (n := "thing_at")
              dsimp! [Int.zero_add, hM13, HO.ins.injEq, f1]
              refine ⟨lp, _, _, _, rfl, rfl, SqL.of L13.hpE, hatP, M, xs13, es13, pl, e, rfl, hth13, fun tp td H14 s14 htp htd hT14 => ?_⟩
              have L14 := L13.same s14
              have F14 := F13.same s14
              obtain ⟨dx14, hM14⟩ := L14.ms.tm.ob
              obtain ⟨xs14, es14, hth14⟩ := L14.ms.tm.there (List.mem_of_getElem? he)
              obtain ⟨dx15, hT14o⟩ := hT14.ob
              refine ⟨_, _, hM14, flM_no, lp, _, _, _, rfl, rfl, SqL.of L14.hpE, hatP, M, xs14, es14, pl, e, rfl, hth14, .inl ⟨by decide, by decide⟩, rfl, ?_⟩
              rw [if_neg (by rw [es, w1]; simp)]
              refine ⟨tp, rfl, _, _, _, hT14o, e.t.no td, _, e.t.mem _, tp, td, e.t, rfl, hT14, fun r fx hr hvl hfx => ?_⟩
              have s15 := Same.put (o := .lst fx) hr
              have L15 := L14.same s15
              have F15 := F14.same s15
              have hT15 := hT14.same s15
              have hvl15 := hvl.same s15
              have hr15 : upd H14 r (.lst fx) r = some (.lst fx) := upd_same
              generalize upd H14 r (.lst fx) = H15 at s15 L15 F15 hT15 hvl15 hr15
              obtain ⟨_, fls, hD15, hfll, hfl⟩ := id F15
              have hif : fls[i]? = some fls[i] := List.getElem?_eq_getElem (by omega)
              obtain ⟨_, fx2, hfx2, hvl2⟩ := hfl i _ _ hif hp0
              obtain ⟨dx16, hT15o⟩ := hT15.ob
              refine ⟨D3, _, _, _, rfl, rfl, SqL.of hD15, atI_nat (by rw [List.getElem?_map, hif]; rfl), _, _, VlL.isD (SqL.of hr15) hvl15, VlL.isD (SqL.of hfx2) hvl2, lst_dep _, ?_⟩
              rw [if_pos rfl, et, deq_refl]
              refine ⟨false, rfl, iteF ⟨tp, rfl, _, _, _, hT15o, e.t.no td, words_mem e.t hT15 ?_⟩⟩
              have ew : e.t.words = n.t.words := by rw [et]; exact w2
              rw [ew]
              have hok := L15.ok n (List.mem_of_getElem? hn)
              refine ⟨lr, _, _, _, rfl, rfl, SqL.of L15.hr, atI_nat (by rw [List.getElem?_map, hn]; rfl), n.ra, _, _, _, rfl, rfl, SqL.of hok.row, rfl, by cases n.t.words <;> rfl, ?_⟩
              rw [if_neg (by simp)]
              exact ⟨L15, F15⟩
            · rintro σ H13 ⟨o6, o10, rfl, L13, F13⟩
              refine bodyT.of (pss_one (ps_ret pe_bl)) ?_
              dsimp! []
              exact q _
end
theorem all_mk {l : PySem.W.OpenLaw} {w : World} {K : PySem.W.Frag} {h : Heap} {mg : Str → Option Value} {fa : Addr} (X : K.In h) (G : h.Ns mainGlobals mg) (hfa : mg "law" = some (.ref fa))
    {f_z48 f_z57 f_z39 f_z40 f_z37 f_z38 f_z41 f_z42 f_z28 f_z27 f_z29 f_z25 f_z26 f_z59 f_z62 f_z58 f_z4 f_z6 f_z7 f_z3 f_z10 f_z0 f_z1 f_z5 f_z9 f_z8 f_z2 f_z46 f_z49 f_z60 f_z47 f_z45 f_z64 f_z65 f_z63 f_z33 f_z31 f_z32 f_z30 f_z34 f_z36 f_z35 f_z44 f_z61 f_z66 f_z43 f_z13 f_z17 f_z11 f_z12 f_z23 f_z24 f_z18 f_z21 f_z22 f_z14 f_z20 f_z19 f_z15 f_z16 f_z51 f_z55 f_z54 f_z56 f_z52 f_z53 f_law C_Thing C_PlainThing C_PairThing C_Marking C_Rooms C_Memory : Addr}
    {t_KIND_BITS t_MARK_BIT t_WORDS_BIT t_SIZE_FROM t_SERIAL_AT t_WORDS_AT tk_NOTHING_0 tk_SORTS_0 tk_SORTS_1 tk_SORTS_2 : Tok}
    {t_NOTHING t_SORTS : Addr}
    {tn_NOTHING tn_SORTS : Nat} {ts_NOTHING ts_SORTS : Array (Option Value)}
    {od_z48 an_z48 od_z57 an_z57 od_z39 an_z39 od_z40 an_z40 od_z37 an_z37 od_z38 an_z38 od_z41 an_z41 od_z42 an_z42 od_z28 an_z28 od_z27 an_z27 od_z29 an_z29 od_z25 an_z25 od_z26 an_z26 od_z59 an_z59 od_z62 an_z62 od_z58 an_z58 od_z4 an_z4 od_z6 an_z6 od_z7 an_z7 od_z3 an_z3 od_z10 an_z10 od_z0 an_z0 od_z1 an_z1 od_z5 an_z5 od_z9 an_z9 od_z8 an_z8 od_z2 an_z2 od_z46 an_z46 od_z49 an_z49 od_z60 an_z60 od_z47 an_z47 od_z45 an_z45 od_z64 an_z64 od_z65 an_z65 od_z63 an_z63 od_z33 an_z33 od_z31 an_z31 od_z32 an_z32 od_z30 an_z30 od_z34 an_z34 od_z36 an_z36 od_z35 an_z35 od_z44 an_z44 od_z61 an_z61 od_z66 an_z66 od_z43 an_z43 od_z13 an_z13 od_z17 an_z17 od_z11 an_z11 od_z12 an_z12 od_z23 an_z23 od_z24 an_z24 od_z18 an_z18 od_z21 an_z21 od_z22 an_z22 od_z14 an_z14 od_z20 an_z20 od_z19 an_z19 od_z15 an_z15 od_z16 an_z16 od_z51 an_z51 od_z55 an_z55 od_z54 an_z54 od_z56 an_z56 od_z52 an_z52 od_z53 an_z53 od_law an_law : Option Addr}
    {sl_z48 sl_z57 sl_z39 sl_z40 sl_z37 sl_z38 sl_z41 sl_z42 sl_z28 sl_z27 sl_z29 sl_z25 sl_z26 sl_z59 sl_z62 sl_z58 sl_z4 sl_z6 sl_z7 sl_z3 sl_z10 sl_z0 sl_z1 sl_z5 sl_z9 sl_z8 sl_z2 sl_z46 sl_z49 sl_z60 sl_z47 sl_z45 sl_z64 sl_z65 sl_z63 sl_z33 sl_z31 sl_z32 sl_z30 sl_z34 sl_z36 sl_z35 sl_z44 sl_z61 sl_z66 sl_z43 sl_z13 sl_z17 sl_z11 sl_z12 sl_z23 sl_z24 sl_z18 sl_z21 sl_z22 sl_z14 sl_z20 sl_z19 sl_z15 sl_z16 sl_z51 sl_z55 sl_z54 sl_z56 sl_z52 sl_z53 sl_law : Array (Option Value)}
    {oc_z48 kV_z48 dc_z48 pm_z48 cd_z48 ct_z48 oc_z57 kV_z57 dc_z57 pm_z57 cd_z57 ct_z57 oc_z39 kV_z39 dc_z39 pm_z39 cd_z39 ct_z39 oc_z40 kV_z40 dc_z40 pm_z40 cd_z40 ct_z40 oc_z37 kV_z37 dc_z37 pm_z37 cd_z37 ct_z37 oc_z38 kV_z38 dc_z38 pm_z38 cd_z38 ct_z38 oc_z41 kV_z41 dc_z41 pm_z41 cd_z41 ct_z41 oc_z42 kV_z42 dc_z42 pm_z42 cd_z42 ct_z42 oc_z28 kV_z28 dc_z28 pm_z28 cd_z28 ct_z28 oc_z27 kV_z27 dc_z27 pm_z27 cd_z27 ct_z27 oc_z29 kV_z29 dc_z29 pm_z29 cd_z29 ct_z29 oc_z25 kV_z25 dc_z25 pm_z25 cd_z25 ct_z25 oc_z26 kV_z26 dc_z26 pm_z26 cd_z26 ct_z26 oc_z59 kV_z59 dc_z59 pm_z59 cd_z59 ct_z59 oc_z62 kV_z62 dc_z62 pm_z62 cd_z62 ct_z62 oc_z58 kV_z58 dc_z58 pm_z58 cd_z58 ct_z58 oc_z4 kV_z4 dc_z4 pm_z4 cd_z4 ct_z4 oc_z6 kV_z6 dc_z6 pm_z6 cd_z6 ct_z6 oc_z7 kV_z7 dc_z7 pm_z7 cd_z7 ct_z7 oc_z3 kV_z3 dc_z3 pm_z3 cd_z3 ct_z3 oc_z10 kV_z10 dc_z10 pm_z10 cd_z10 ct_z10 oc_z0 kV_z0 dc_z0 pm_z0 cd_z0 ct_z0 oc_z1 kV_z1 dc_z1 pm_z1 cd_z1 ct_z1 oc_z5 kV_z5 dc_z5 pm_z5 cd_z5 ct_z5 oc_z9 kV_z9 dc_z9 pm_z9 cd_z9 ct_z9 oc_z8 kV_z8 dc_z8 pm_z8 cd_z8 ct_z8 oc_z2 kV_z2 dc_z2 pm_z2 cd_z2 ct_z2 oc_z46 kV_z46 dc_z46 pm_z46 cd_z46 ct_z46 oc_z49 kV_z49 dc_z49 pm_z49 cd_z49 ct_z49 oc_z60 kV_z60 dc_z60 pm_z60 cd_z60 ct_z60 oc_z47 kV_z47 dc_z47 pm_z47 cd_z47 ct_z47 oc_z45 kV_z45 dc_z45 pm_z45 cd_z45 ct_z45 oc_z64 kV_z64 dc_z64 pm_z64 cd_z64 ct_z64 oc_z65 kV_z65 dc_z65 pm_z65 cd_z65 ct_z65 oc_z63 kV_z63 dc_z63 pm_z63 cd_z63 ct_z63 oc_z33 kV_z33 dc_z33 pm_z33 cd_z33 ct_z33 oc_z31 kV_z31 dc_z31 pm_z31 cd_z31 ct_z31 oc_z32 kV_z32 dc_z32 pm_z32 cd_z32 ct_z32 oc_z30 kV_z30 dc_z30 pm_z30 cd_z30 ct_z30 oc_z34 kV_z34 dc_z34 pm_z34 cd_z34 ct_z34 oc_z36 kV_z36 dc_z36 pm_z36 cd_z36 ct_z36 oc_z35 kV_z35 dc_z35 pm_z35 cd_z35 ct_z35 oc_z44 kV_z44 dc_z44 pm_z44 cd_z44 ct_z44 oc_z61 kV_z61 dc_z61 pm_z61 cd_z61 ct_z61 oc_z66 kV_z66 dc_z66 pm_z66 cd_z66 ct_z66 oc_z43 kV_z43 dc_z43 pm_z43 cd_z43 ct_z43 oc_z13 kV_z13 dc_z13 pm_z13 cd_z13 ct_z13 oc_z17 kV_z17 dc_z17 pm_z17 cd_z17 ct_z17 oc_z11 kV_z11 dc_z11 pm_z11 cd_z11 ct_z11 oc_z12 kV_z12 dc_z12 pm_z12 cd_z12 ct_z12 oc_z23 kV_z23 dc_z23 pm_z23 cd_z23 ct_z23 oc_z24 kV_z24 dc_z24 pm_z24 cd_z24 ct_z24 oc_z18 kV_z18 dc_z18 pm_z18 cd_z18 ct_z18 oc_z21 kV_z21 dc_z21 pm_z21 cd_z21 ct_z21 oc_z22 kV_z22 dc_z22 pm_z22 cd_z22 ct_z22 oc_z14 kV_z14 dc_z14 pm_z14 cd_z14 ct_z14 oc_z20 kV_z20 dc_z20 pm_z20 cd_z20 ct_z20 oc_z19 kV_z19 dc_z19 pm_z19 cd_z19 ct_z19 oc_z15 kV_z15 dc_z15 pm_z15 cd_z15 ct_z15 oc_z16 kV_z16 dc_z16 pm_z16 cd_z16 ct_z16 oc_z51 kV_z51 dc_z51 pm_z51 cd_z51 ct_z51 oc_z55 kV_z55 dc_z55 pm_z55 cd_z55 ct_z55 oc_z54 kV_z54 dc_z54 pm_z54 cd_z54 ct_z54 oc_z56 kV_z56 dc_z56 pm_z56 cd_z56 ct_z56 oc_z52 kV_z52 dc_z52 pm_z52 cd_z52 ct_z52 oc_z53 kV_z53 dc_z53 pm_z53 cd_z53 ct_z53 oc_law kV_law dc_law pm_law cd_law ct_law : Value}
    {kc_z5 pc_z5 : Addr} {lod_z5 : Option Addr} {lvs_z5 : Array Value} {lsl_z5 : Array (Option Value)} {ts : List Addr}
    (cc_Thing : PySem.W.nsIn K mainGlobals "Thing" = some (some (.ref C_Thing)))
    (cc_PlainThing : PySem.W.nsIn K mainGlobals "PlainThing" = some (some (.ref C_PlainThing)))
    (cc_PairThing : PySem.W.nsIn K mainGlobals "PairThing" = some (some (.ref C_PairThing)))
    (cc_Marking : PySem.W.nsIn K mainGlobals "Marking" = some (some (.ref C_Marking)))
    (cc_Rooms : PySem.W.nsIn K mainGlobals "Rooms" = some (some (.ref C_Rooms)))
    (cc_Memory : PySem.W.nsIn K mainGlobals "Memory" = some (some (.ref C_Memory)))
    (a_z48 : PySem.W.nsIn K mainGlobals "is_thing" = some (some (.ref f_z48)))
    (l_z48 : K.lookup f_z48 = some ⟨oc_z48, od_z48, .func (PySem.W.fnOf "is_thing" "is_thing" (defArgs s_z48) (defBody s_z48) (defScope s_z48) .none kV_z48 dc_z48 pm_z48 an_z48 cd_z48 ct_z48), sl_z48⟩)
    (co_z48 : PySem.W.codeIn K cd_z48 "is_thing" = true)
    (k_z48 : PySem.W.keepIn K (.ref f_z48) = true)
    (a_z57 : PySem.W.nsIn K mainGlobals "names_in" = some (some (.ref f_z57)))
    (l_z57 : K.lookup f_z57 = some ⟨oc_z57, od_z57, .func (PySem.W.fnOf "names_in" "names_in" (defArgs s_z57) (defBody s_z57) (defScope s_z57) .none kV_z57 dc_z57 pm_z57 an_z57 cd_z57 ct_z57), sl_z57⟩)
    (co_z57 : PySem.W.codeIn K cd_z57 "names_in" = true)
    (k_z57 : PySem.W.keepIn K (.ref f_z57) = true)
    (a_z39 : PySem.W.findIn K (.ref C_Thing) "__init__" = some (some (.ref f_z39)))
    (i_z39 : PySem.W.isFn K (.ref f_z39) = true)
    (l_z39 : K.lookup f_z39 = some ⟨oc_z39, od_z39, .func (PySem.W.fnOf "__init__" "Thing.__init__" (defArgs s_z39) (defBody s_z39) (defScope s_z39) .none kV_z39 dc_z39 pm_z39 an_z39 cd_z39 ct_z39), sl_z39⟩)
    (co_z39 : PySem.W.codeIn K cd_z39 "Thing.__init__" = true)
    (k_z39 : PySem.W.keepIn K (.ref f_z39) = true)
    (a_z40 : PySem.W.findIn K (.ref C_Thing) "sort_of" = some (some (.ref f_z40)))
    (i_z40 : PySem.W.isFn K (.ref f_z40) = true)
    (l_z40 : K.lookup f_z40 = some ⟨oc_z40, od_z40, .func (PySem.W.fnOf "sort_of" "Thing.sort_of" (defArgs s_z40) (defBody s_z40) (defScope s_z40) .none kV_z40 dc_z40 pm_z40 an_z40 cd_z40 ct_z40), sl_z40⟩)
    (co_z40 : PySem.W.codeIn K cd_z40 "Thing.sort_of" = true)
    (k_z40 : PySem.W.keepIn K (.ref f_z40) = true)
    (a_z37 : PySem.W.findIn K (.ref C_Thing) "fields" = some (some (.ref f_z37)))
    (i_z37 : PySem.W.isFn K (.ref f_z37) = true)
    (l_z37 : K.lookup f_z37 = some ⟨oc_z37, od_z37, .func (PySem.W.fnOf "fields" "Thing.fields" (defArgs s_z37) (defBody s_z37) (defScope s_z37) .none kV_z37 dc_z37 pm_z37 an_z37 cd_z37 ct_z37), sl_z37⟩)
    (co_z37 : PySem.W.codeIn K cd_z37 "Thing.fields" = true)
    (k_z37 : PySem.W.keepIn K (.ref f_z37) = true)
    (a_z38 : PySem.W.findIn K (.ref C_Thing) "holds" = some (some (.ref f_z38)))
    (i_z38 : PySem.W.isFn K (.ref f_z38) = true)
    (l_z38 : K.lookup f_z38 = some ⟨oc_z38, od_z38, .func (PySem.W.fnOf "holds" "Thing.holds" (defArgs s_z38) (defBody s_z38) (defScope s_z38) .none kV_z38 dc_z38 pm_z38 an_z38 cd_z38 ct_z38), sl_z38⟩)
    (co_z38 : PySem.W.codeIn K cd_z38 "Thing.holds" = true)
    (k_z38 : PySem.W.keepIn K (.ref f_z38) = true)
    (a_z41 : PySem.W.findIn K (.ref C_Thing) "waits" = some (some (.ref f_z41)))
    (i_z41 : PySem.W.isFn K (.ref f_z41) = true)
    (l_z41 : K.lookup f_z41 = some ⟨oc_z41, od_z41, .func (PySem.W.fnOf "waits" "Thing.waits" (defArgs s_z41) (defBody s_z41) (defScope s_z41) .none kV_z41 dc_z41 pm_z41 an_z41 cd_z41 ct_z41), sl_z41⟩)
    (co_z41 : PySem.W.codeIn K cd_z41 "Thing.waits" = true)
    (k_z41 : PySem.W.keepIn K (.ref f_z41) = true)
    (a_z42 : PySem.W.findIn K (.ref C_Thing) "words" = some (some (.ref f_z42)))
    (i_z42 : PySem.W.isFn K (.ref f_z42) = true)
    (l_z42 : K.lookup f_z42 = some ⟨oc_z42, od_z42, .func (PySem.W.fnOf "words" "Thing.words" (defArgs s_z42) (defBody s_z42) (defScope s_z42) .none kV_z42 dc_z42 pm_z42 an_z42 cd_z42 ct_z42), sl_z42⟩)
    (co_z42 : PySem.W.codeIn K cd_z42 "Thing.words" = true)
    (k_z42 : PySem.W.keepIn K (.ref f_z42) = true)
    (a_z28 : PySem.W.findIn K (.ref C_PlainThing) "__init__" = some (some (.ref f_z28)))
    (i_z28 : PySem.W.isFn K (.ref f_z28) = true)
    (l_z28 : K.lookup f_z28 = some ⟨oc_z28, od_z28, .func (PySem.W.fnOf "__init__" "PlainThing.__init__" (defArgs s_z28) (defBody s_z28) (defScope s_z28) .none kV_z28 dc_z28 pm_z28 an_z28 cd_z28 ct_z28), sl_z28⟩)
    (co_z28 : PySem.W.codeIn K cd_z28 "PlainThing.__init__" = true)
    (k_z28 : PySem.W.keepIn K (.ref f_z28) = true)
    (a_z27 : PySem.W.findIn K (.ref C_PlainThing) "holds" = some (some (.ref f_z27)))
    (i_z27 : PySem.W.isFn K (.ref f_z27) = true)
    (l_z27 : K.lookup f_z27 = some ⟨oc_z27, od_z27, .func (PySem.W.fnOf "holds" "PlainThing.holds" (defArgs s_z27) (defBody s_z27) (defScope s_z27) .none kV_z27 dc_z27 pm_z27 an_z27 cd_z27 ct_z27), sl_z27⟩)
    (co_z27 : PySem.W.codeIn K cd_z27 "PlainThing.holds" = true)
    (k_z27 : PySem.W.keepIn K (.ref f_z27) = true)
    (a_z29 : PySem.W.findIn K (.ref C_PlainThing) "words" = some (some (.ref f_z29)))
    (i_z29 : PySem.W.isFn K (.ref f_z29) = true)
    (l_z29 : K.lookup f_z29 = some ⟨oc_z29, od_z29, .func (PySem.W.fnOf "words" "PlainThing.words" (defArgs s_z29) (defBody s_z29) (defScope s_z29) .none kV_z29 dc_z29 pm_z29 an_z29 cd_z29 ct_z29), sl_z29⟩)
    (co_z29 : PySem.W.codeIn K cd_z29 "PlainThing.words" = true)
    (k_z29 : PySem.W.keepIn K (.ref f_z29) = true)
    (a_z25 : PySem.W.findIn K (.ref C_PairThing) "__init__" = some (some (.ref f_z25)))
    (i_z25 : PySem.W.isFn K (.ref f_z25) = true)
    (l_z25 : K.lookup f_z25 = some ⟨oc_z25, od_z25, .func (PySem.W.fnOf "__init__" "PairThing.__init__" (defArgs s_z25) (defBody s_z25) (defScope s_z25) .none kV_z25 dc_z25 pm_z25 an_z25 cd_z25 ct_z25), sl_z25⟩)
    (co_z25 : PySem.W.codeIn K cd_z25 "PairThing.__init__" = true)
    (k_z25 : PySem.W.keepIn K (.ref f_z25) = true)
    (a_z26 : PySem.W.findIn K (.ref C_PairThing) "waits" = some (some (.ref f_z26)))
    (i_z26 : PySem.W.isFn K (.ref f_z26) = true)
    (l_z26 : K.lookup f_z26 = some ⟨oc_z26, od_z26, .func (PySem.W.fnOf "waits" "PairThing.waits" (defArgs s_z26) (defBody s_z26) (defScope s_z26) .none kV_z26 dc_z26 pm_z26 an_z26 cd_z26 ct_z26), sl_z26⟩)
    (co_z26 : PySem.W.codeIn K cd_z26 "PairThing.waits" = true)
    (k_z26 : PySem.W.keepIn K (.ref f_z26) = true)
    (a_z59 : PySem.W.nsIn K mainGlobals "plain" = some (some (.ref f_z59)))
    (l_z59 : K.lookup f_z59 = some ⟨oc_z59, od_z59, .func (PySem.W.fnOf "plain" "plain" (defArgs s_z59) (defBody s_z59) (defScope s_z59) .none kV_z59 dc_z59 pm_z59 an_z59 cd_z59 ct_z59), sl_z59⟩)
    (co_z59 : PySem.W.codeIn K cd_z59 "plain" = true)
    (k_z59 : PySem.W.keepIn K (.ref f_z59) = true)
    (a_z62 : PySem.W.nsIn K mainGlobals "weak" = some (some (.ref f_z62)))
    (l_z62 : K.lookup f_z62 = some ⟨oc_z62, od_z62, .func (PySem.W.fnOf "weak" "weak" (defArgs s_z62) (defBody s_z62) (defScope s_z62) .none kV_z62 dc_z62 pm_z62 an_z62 cd_z62 ct_z62), sl_z62⟩)
    (co_z62 : PySem.W.codeIn K cd_z62 "weak" = true)
    (k_z62 : PySem.W.keepIn K (.ref f_z62) = true)
    (a_z58 : PySem.W.nsIn K mainGlobals "pair" = some (some (.ref f_z58)))
    (l_z58 : K.lookup f_z58 = some ⟨oc_z58, od_z58, .func (PySem.W.fnOf "pair" "pair" (defArgs s_z58) (defBody s_z58) (defScope s_z58) .none kV_z58 dc_z58 pm_z58 an_z58 cd_z58 ct_z58), sl_z58⟩)
    (co_z58 : PySem.W.codeIn K cd_z58 "pair" = true)
    (k_z58 : PySem.W.keepIn K (.ref f_z58) = true)
    (a_z4 : PySem.W.findIn K (.ref C_Marking) "__init__" = some (some (.ref f_z4)))
    (i_z4 : PySem.W.isFn K (.ref f_z4) = true)
    (l_z4 : K.lookup f_z4 = some ⟨oc_z4, od_z4, .func (PySem.W.fnOf "__init__" "Marking.__init__" (defArgs s_z4) (defBody s_z4) (defScope s_z4) .none kV_z4 dc_z4 pm_z4 an_z4 cd_z4 ct_z4), sl_z4⟩)
    (co_z4 : PySem.W.codeIn K cd_z4 "Marking.__init__" = true)
    (k_z4 : PySem.W.keepIn K (.ref f_z4) = true)
    (a_z6 : PySem.W.findIn K (.ref C_Marking) "shade" = some (some (.ref f_z6)))
    (i_z6 : PySem.W.isFn K (.ref f_z6) = true)
    (l_z6 : K.lookup f_z6 = some ⟨oc_z6, od_z6, .func (PySem.W.fnOf "shade" "Marking.shade" (defArgs s_z6) (defBody s_z6) (defScope s_z6) .none kV_z6 dc_z6 pm_z6 an_z6 cd_z6 ct_z6), sl_z6⟩)
    (co_z6 : PySem.W.codeIn K cd_z6 "Marking.shade" = true)
    (k_z6 : PySem.W.keepIn K (.ref f_z6) = true)
    (a_z7 : PySem.W.findIn K (.ref C_Marking) "shade_all" = some (some (.ref f_z7)))
    (i_z7 : PySem.W.isFn K (.ref f_z7) = true)
    (l_z7 : K.lookup f_z7 = some ⟨oc_z7, od_z7, .func (PySem.W.fnOf "shade_all" "Marking.shade_all" (defArgs s_z7) (defBody s_z7) (defScope s_z7) .none kV_z7 dc_z7 pm_z7 an_z7 cd_z7 ct_z7), sl_z7⟩)
    (co_z7 : PySem.W.codeIn K cd_z7 "Marking.shade_all" = true)
    (k_z7 : PySem.W.keepIn K (.ref f_z7) = true)
    (a_z3 : PySem.W.findIn K (.ref C_Marking) "has_grey" = some (some (.ref f_z3)))
    (i_z3 : PySem.W.isFn K (.ref f_z3) = true)
    (l_z3 : K.lookup f_z3 = some ⟨oc_z3, od_z3, .func (PySem.W.fnOf "has_grey" "Marking.has_grey" (defArgs s_z3) (defBody s_z3) (defScope s_z3) .none kV_z3 dc_z3 pm_z3 an_z3 cd_z3 ct_z3), sl_z3⟩)
    (co_z3 : PySem.W.codeIn K cd_z3 "Marking.has_grey" = true)
    (k_z3 : PySem.W.keepIn K (.ref f_z3) = true)
    (a_z10 : PySem.W.findIn K (.ref C_Marking) "step" = some (some (.ref f_z10)))
    (i_z10 : PySem.W.isFn K (.ref f_z10) = true)
    (l_z10 : K.lookup f_z10 = some ⟨oc_z10, od_z10, .func (PySem.W.fnOf "step" "Marking.step" (defArgs s_z10) (defBody s_z10) (defScope s_z10) .none kV_z10 dc_z10 pm_z10 an_z10 cd_z10 ct_z10), sl_z10⟩)
    (co_z10 : PySem.W.codeIn K cd_z10 "Marking.step" = true)
    (k_z10 : PySem.W.keepIn K (.ref f_z10) = true)
    (a_z0 : PySem.W.findIn K (.ref C_Marking) "drain" = some (some (.ref f_z0)))
    (i_z0 : PySem.W.isFn K (.ref f_z0) = true)
    (l_z0 : K.lookup f_z0 = some ⟨oc_z0, od_z0, .func (PySem.W.fnOf "drain" "Marking.drain" (defArgs s_z0) (defBody s_z0) (defScope s_z0) .none kV_z0 dc_z0 pm_z0 an_z0 cd_z0 ct_z0), sl_z0⟩)
    (co_z0 : PySem.W.codeIn K cd_z0 "Marking.drain" = true)
    (k_z0 : PySem.W.keepIn K (.ref f_z0) = true)
    (a_z1 : PySem.W.findIn K (.ref C_Marking) "empty_row" = some (some (.ref f_z1)))
    (i_z1 : PySem.W.isFn K (.ref f_z1) = true)
    (l_z1 : K.lookup f_z1 = some ⟨oc_z1, od_z1, .func (PySem.W.fnOf "empty_row" "Marking.empty_row" (defArgs s_z1) (defBody s_z1) (defScope s_z1) .none kV_z1 dc_z1 pm_z1 an_z1 cd_z1 ct_z1), sl_z1⟩)
    (co_z1 : PySem.W.codeIn K cd_z1 "Marking.empty_row" = true)
    (k_z1 : PySem.W.keepIn K (.ref f_z1) = true)
    (a_z5 : PySem.W.findIn K (.ref C_Marking) "pairs_by_serial" = some (some (.ref f_z5)))
    (i_z5 : PySem.W.isFn K (.ref f_z5) = true)
    (l_z5 : K.lookup f_z5 = some ⟨oc_z5, od_z5, .func (PySem.W.fnOf "pairs_by_serial" "Marking.pairs_by_serial" (defArgs s_z5) (defBody s_z5) (defScope s_z5) .none kV_z5 dc_z5 pm_z5 an_z5 cd_z5 ct_z5), sl_z5⟩)
    (co_z5 : PySem.W.codeIn K cd_z5 "Marking.pairs_by_serial" = true)
    (k_z5 : PySem.W.keepIn K (.ref f_z5) = true)
    (a_z9 : PySem.W.findIn K (.ref C_Marking) "shade_values" = some (some (.ref f_z9)))
    (i_z9 : PySem.W.isFn K (.ref f_z9) = true)
    (l_z9 : K.lookup f_z9 = some ⟨oc_z9, od_z9, .func (PySem.W.fnOf "shade_values" "Marking.shade_values" (defArgs s_z9) (defBody s_z9) (defScope s_z9) .none kV_z9 dc_z9 pm_z9 an_z9 cd_z9 ct_z9), sl_z9⟩)
    (co_z9 : PySem.W.codeIn K cd_z9 "Marking.shade_values" = true)
    (k_z9 : PySem.W.keepIn K (.ref f_z9) = true)
    (a_z8 : PySem.W.findIn K (.ref C_Marking) "shade_value" = some (some (.ref f_z8)))
    (i_z8 : PySem.W.isFn K (.ref f_z8) = true)
    (l_z8 : K.lookup f_z8 = some ⟨oc_z8, od_z8, .func (PySem.W.fnOf "shade_value" "Marking.shade_value" (defArgs s_z8) (defBody s_z8) (defScope s_z8) .none kV_z8 dc_z8 pm_z8 an_z8 cd_z8 ct_z8), sl_z8⟩)
    (co_z8 : PySem.W.codeIn K cd_z8 "Marking.shade_value" = true)
    (k_z8 : PySem.W.keepIn K (.ref f_z8) = true)
    (a_z2 : PySem.W.findIn K (.ref C_Marking) "grey" = some (some (.ref f_z2)))
    (i_z2 : PySem.W.isFn K (.ref f_z2) = true)
    (l_z2 : K.lookup f_z2 = some ⟨oc_z2, od_z2, .func (PySem.W.fnOf "grey" "Marking.grey" (defArgs s_z2) (defBody s_z2) (defScope s_z2) .none kV_z2 dc_z2 pm_z2 an_z2 cd_z2 ct_z2), sl_z2⟩)
    (co_z2 : PySem.W.codeIn K cd_z2 "Marking.grey" = true)
    (k_z2 : PySem.W.keepIn K (.ref f_z2) = true)
    (a_z46 : PySem.W.nsIn K mainGlobals "header" = some (some (.ref f_z46)))
    (l_z46 : K.lookup f_z46 = some ⟨oc_z46, od_z46, .func (PySem.W.fnOf "header" "header" (defArgs s_z46) (defBody s_z46) (defScope s_z46) .none kV_z46 dc_z46 pm_z46 an_z46 cd_z46 ct_z46), sl_z46⟩)
    (co_z46 : PySem.W.codeIn K cd_z46 "header" = true)
    (k_z46 : PySem.W.keepIn K (.ref f_z46) = true)
    (a_z49 : PySem.W.nsIn K mainGlobals "kind_in" = some (some (.ref f_z49)))
    (l_z49 : K.lookup f_z49 = some ⟨oc_z49, od_z49, .func (PySem.W.fnOf "kind_in" "kind_in" (defArgs s_z49) (defBody s_z49) (defScope s_z49) .none kV_z49 dc_z49 pm_z49 an_z49 cd_z49 ct_z49), sl_z49⟩)
    (co_z49 : PySem.W.codeIn K cd_z49 "kind_in" = true)
    (k_z49 : PySem.W.keepIn K (.ref f_z49) = true)
    (a_z60 : PySem.W.nsIn K mainGlobals "size_in" = some (some (.ref f_z60)))
    (l_z60 : K.lookup f_z60 = some ⟨oc_z60, od_z60, .func (PySem.W.fnOf "size_in" "size_in" (defArgs s_z60) (defBody s_z60) (defScope s_z60) .none kV_z60 dc_z60 pm_z60 an_z60 cd_z60 ct_z60), sl_z60⟩)
    (co_z60 : PySem.W.codeIn K cd_z60 "size_in" = true)
    (k_z60 : PySem.W.keepIn K (.ref f_z60) = true)
    (a_z47 : PySem.W.nsIn K mainGlobals "is_marked" = some (some (.ref f_z47)))
    (l_z47 : K.lookup f_z47 = some ⟨oc_z47, od_z47, .func (PySem.W.fnOf "is_marked" "is_marked" (defArgs s_z47) (defBody s_z47) (defScope s_z47) .none kV_z47 dc_z47 pm_z47 an_z47 cd_z47 ct_z47), sl_z47⟩)
    (co_z47 : PySem.W.codeIn K cd_z47 "is_marked" = true)
    (k_z47 : PySem.W.keepIn K (.ref f_z47) = true)
    (a_z45 : PySem.W.nsIn K mainGlobals "has_words" = some (some (.ref f_z45)))
    (l_z45 : K.lookup f_z45 = some ⟨oc_z45, od_z45, .func (PySem.W.fnOf "has_words" "has_words" (defArgs s_z45) (defBody s_z45) (defScope s_z45) .none kV_z45 dc_z45 pm_z45 an_z45 cd_z45 ct_z45), sl_z45⟩)
    (co_z45 : PySem.W.codeIn K cd_z45 "has_words" = true)
    (k_z45 : PySem.W.keepIn K (.ref f_z45) = true)
    (a_z64 : PySem.W.nsIn K mainGlobals "with_mark" = some (some (.ref f_z64)))
    (l_z64 : K.lookup f_z64 = some ⟨oc_z64, od_z64, .func (PySem.W.fnOf "with_mark" "with_mark" (defArgs s_z64) (defBody s_z64) (defScope s_z64) .none kV_z64 dc_z64 pm_z64 an_z64 cd_z64 ct_z64), sl_z64⟩)
    (co_z64 : PySem.W.codeIn K cd_z64 "with_mark" = true)
    (k_z64 : PySem.W.keepIn K (.ref f_z64) = true)
    (a_z65 : PySem.W.nsIn K mainGlobals "with_words" = some (some (.ref f_z65)))
    (l_z65 : K.lookup f_z65 = some ⟨oc_z65, od_z65, .func (PySem.W.fnOf "with_words" "with_words" (defArgs s_z65) (defBody s_z65) (defScope s_z65) .none kV_z65 dc_z65 pm_z65 an_z65 cd_z65 ct_z65), sl_z65⟩)
    (co_z65 : PySem.W.codeIn K cd_z65 "with_words" = true)
    (k_z65 : PySem.W.keepIn K (.ref f_z65) = true)
    (a_z63 : PySem.W.nsIn K mainGlobals "with_bit" = some (some (.ref f_z63)))
    (l_z63 : K.lookup f_z63 = some ⟨oc_z63, od_z63, .func (PySem.W.fnOf "with_bit" "with_bit" (defArgs s_z63) (defBody s_z63) (defScope s_z63) .none kV_z63 dc_z63 pm_z63 an_z63 cd_z63 ct_z63), sl_z63⟩)
    (co_z63 : PySem.W.codeIn K cd_z63 "with_bit" = true)
    (k_z63 : PySem.W.keepIn K (.ref f_z63) = true)
    (a_z33 : PySem.W.findIn K (.ref C_Rooms) "__init__" = some (some (.ref f_z33)))
    (i_z33 : PySem.W.isFn K (.ref f_z33) = true)
    (l_z33 : K.lookup f_z33 = some ⟨oc_z33, od_z33, .func (PySem.W.fnOf "__init__" "Rooms.__init__" (defArgs s_z33) (defBody s_z33) (defScope s_z33) .none kV_z33 dc_z33 pm_z33 an_z33 cd_z33 ct_z33), sl_z33⟩)
    (co_z33 : PySem.W.codeIn K cd_z33 "Rooms.__init__" = true)
    (k_z33 : PySem.W.keepIn K (.ref f_z33) = true)
    (a_z31 : PySem.W.findIn K (.ref C_Rooms) "gap" = some (some (.ref f_z31)))
    (i_z31 : PySem.W.isFn K (.ref f_z31) = true)
    (l_z31 : K.lookup f_z31 = some ⟨oc_z31, od_z31, .func (PySem.W.fnOf "gap" "Rooms.gap" (defArgs s_z31) (defBody s_z31) (defScope s_z31) .none kV_z31 dc_z31 pm_z31 an_z31 cd_z31 ct_z31), sl_z31⟩)
    (co_z31 : PySem.W.codeIn K cd_z31 "Rooms.gap" = true)
    (k_z31 : PySem.W.keepIn K (.ref f_z31) = true)
    (a_z32 : PySem.W.findIn K (.ref C_Rooms) "gap_in" = some (some (.ref f_z32)))
    (i_z32 : PySem.W.isFn K (.ref f_z32) = true)
    (l_z32 : K.lookup f_z32 = some ⟨oc_z32, od_z32, .func (PySem.W.fnOf "gap_in" "Rooms.gap_in" (defArgs s_z32) (defBody s_z32) (defScope s_z32) .none kV_z32 dc_z32 pm_z32 an_z32 cd_z32 ct_z32), sl_z32⟩)
    (co_z32 : PySem.W.codeIn K cd_z32 "Rooms.gap_in" = true)
    (k_z32 : PySem.W.keepIn K (.ref f_z32) = true)
    (a_z30 : PySem.W.findIn K (.ref C_Rooms) "fill_in" = some (some (.ref f_z30)))
    (i_z30 : PySem.W.isFn K (.ref f_z30) = true)
    (l_z30 : K.lookup f_z30 = some ⟨oc_z30, od_z30, .func (PySem.W.fnOf "fill_in" "Rooms.fill_in" (defArgs s_z30) (defBody s_z30) (defScope s_z30) .none kV_z30 dc_z30 pm_z30 an_z30 cd_z30 ct_z30), sl_z30⟩)
    (co_z30 : PySem.W.codeIn K cd_z30 "Rooms.fill_in" = true)
    (k_z30 : PySem.W.keepIn K (.ref f_z30) = true)
    (a_z34 : PySem.W.findIn K (.ref C_Rooms) "read" = some (some (.ref f_z34)))
    (i_z34 : PySem.W.isFn K (.ref f_z34) = true)
    (l_z34 : K.lookup f_z34 = some ⟨oc_z34, od_z34, .func (PySem.W.fnOf "read" "Rooms.read" (defArgs s_z34) (defBody s_z34) (defScope s_z34) .none kV_z34 dc_z34 pm_z34 an_z34 cd_z34 ct_z34), sl_z34⟩)
    (co_z34 : PySem.W.codeIn K cd_z34 "Rooms.read" = true)
    (k_z34 : PySem.W.keepIn K (.ref f_z34) = true)
    (a_z36 : PySem.W.findIn K (.ref C_Rooms) "write" = some (some (.ref f_z36)))
    (i_z36 : PySem.W.isFn K (.ref f_z36) = true)
    (l_z36 : K.lookup f_z36 = some ⟨oc_z36, od_z36, .func (PySem.W.fnOf "write" "Rooms.write" (defArgs s_z36) (defBody s_z36) (defScope s_z36) .none kV_z36 dc_z36 pm_z36 an_z36 cd_z36 ct_z36), sl_z36⟩)
    (co_z36 : PySem.W.codeIn K cd_z36 "Rooms.write" = true)
    (k_z36 : PySem.W.keepIn K (.ref f_z36) = true)
    (a_z35 : PySem.W.findIn K (.ref C_Rooms) "room_of" = some (some (.ref f_z35)))
    (i_z35 : PySem.W.isFn K (.ref f_z35) = true)
    (l_z35 : K.lookup f_z35 = some ⟨oc_z35, od_z35, .func (PySem.W.fnOf "room_of" "Rooms.room_of" (defArgs s_z35) (defBody s_z35) (defScope s_z35) .none kV_z35 dc_z35 pm_z35 an_z35 cd_z35 ct_z35), sl_z35⟩)
    (co_z35 : PySem.W.codeIn K cd_z35 "Rooms.room_of" = true)
    (k_z35 : PySem.W.keepIn K (.ref f_z35) = true)
    (a_z44 : PySem.W.nsIn K mainGlobals "first_field" = some (some (.ref f_z44)))
    (l_z44 : K.lookup f_z44 = some ⟨oc_z44, od_z44, .func (PySem.W.fnOf "first_field" "first_field" (defArgs s_z44) (defBody s_z44) (defScope s_z44) .none kV_z44 dc_z44 pm_z44 an_z44 cd_z44 ct_z44), sl_z44⟩)
    (co_z44 : PySem.W.codeIn K cd_z44 "first_field" = true)
    (k_z44 : PySem.W.keepIn K (.ref f_z44) = true)
    (a_z61 : PySem.W.nsIn K mainGlobals "size_of" = some (some (.ref f_z61)))
    (l_z61 : K.lookup f_z61 = some ⟨oc_z61, od_z61, .func (PySem.W.fnOf "size_of" "size_of" (defArgs s_z61) (defBody s_z61) (defScope s_z61) .none kV_z61 dc_z61 pm_z61 an_z61 cd_z61 ct_z61), sl_z61⟩)
    (co_z61 : PySem.W.codeIn K cd_z61 "size_of" = true)
    (k_z61 : PySem.W.keepIn K (.ref f_z61) = true)
    (a_z66 : PySem.W.nsIn K mainGlobals "words_cell" = some (some (.ref f_z66)))
    (l_z66 : K.lookup f_z66 = some ⟨oc_z66, od_z66, .func (PySem.W.fnOf "words_cell" "words_cell" (defArgs s_z66) (defBody s_z66) (defScope s_z66) .none kV_z66 dc_z66 pm_z66 an_z66 cd_z66 ct_z66), sl_z66⟩)
    (co_z66 : PySem.W.codeIn K cd_z66 "words_cell" = true)
    (k_z66 : PySem.W.keepIn K (.ref f_z66) = true)
    (a_z43 : PySem.W.nsIn K mainGlobals "cells_of" = some (some (.ref f_z43)))
    (l_z43 : K.lookup f_z43 = some ⟨oc_z43, od_z43, .func (PySem.W.fnOf "cells_of" "cells_of" (defArgs s_z43) (defBody s_z43) (defScope s_z43) .none kV_z43 dc_z43 pm_z43 an_z43 cd_z43 ct_z43), sl_z43⟩)
    (co_z43 : PySem.W.codeIn K cd_z43 "cells_of" = true)
    (k_z43 : PySem.W.keepIn K (.ref f_z43) = true)
    (a_z13 : PySem.W.findIn K (.ref C_Memory) "__init__" = some (some (.ref f_z13)))
    (i_z13 : PySem.W.isFn K (.ref f_z13) = true)
    (l_z13 : K.lookup f_z13 = some ⟨oc_z13, od_z13, .func (PySem.W.fnOf "__init__" "Memory.__init__" (defArgs s_z13) (defBody s_z13) (defScope s_z13) .none kV_z13 dc_z13 pm_z13 an_z13 cd_z13 ct_z13), sl_z13⟩)
    (co_z13 : PySem.W.codeIn K cd_z13 "Memory.__init__" = true)
    (k_z13 : PySem.W.keepIn K (.ref f_z13) = true)
    (a_z17 : PySem.W.findIn K (.ref C_Memory) "put_in" = some (some (.ref f_z17)))
    (i_z17 : PySem.W.isFn K (.ref f_z17) = true)
    (l_z17 : K.lookup f_z17 = some ⟨oc_z17, od_z17, .func (PySem.W.fnOf "put_in" "Memory.put_in" (defArgs s_z17) (defBody s_z17) (defScope s_z17) .none kV_z17 dc_z17 pm_z17 an_z17 cd_z17 ct_z17), sl_z17⟩)
    (co_z17 : PySem.W.codeIn K cd_z17 "Memory.put_in" = true)
    (k_z17 : PySem.W.keepIn K (.ref f_z17) = true)
    (a_z11 : PySem.W.findIn K (.ref C_Memory) "fill_from" = some (some (.ref f_z11)))
    (i_z11 : PySem.W.isFn K (.ref f_z11) = true)
    (l_z11 : K.lookup f_z11 = some ⟨oc_z11, od_z11, .func (PySem.W.fnOf "fill_from" "Memory.fill_from" (defArgs s_z11) (defBody s_z11) (defScope s_z11) .none kV_z11 dc_z11 pm_z11 an_z11 cd_z11 ct_z11), sl_z11⟩)
    (co_z11 : PySem.W.codeIn K cd_z11 "Memory.fill_from" = true)
    (k_z11 : PySem.W.keepIn K (.ref f_z11) = true)
    (a_z12 : PySem.W.findIn K (.ref C_Memory) "head_at" = some (some (.ref f_z12)))
    (i_z12 : PySem.W.isFn K (.ref f_z12) = true)
    (l_z12 : K.lookup f_z12 = some ⟨oc_z12, od_z12, .func (PySem.W.fnOf "head_at" "Memory.head_at" (defArgs s_z12) (defBody s_z12) (defScope s_z12) .none kV_z12 dc_z12 pm_z12 an_z12 cd_z12 ct_z12), sl_z12⟩)
    (co_z12 : PySem.W.codeIn K cd_z12 "Memory.head_at" = true)
    (k_z12 : PySem.W.keepIn K (.ref f_z12) = true)
    (a_z23 : PySem.W.findIn K (.ref C_Memory) "thing_at" = some (some (.ref f_z23)))
    (i_z23 : PySem.W.isFn K (.ref f_z23) = true)
    (l_z23 : K.lookup f_z23 = some ⟨oc_z23, od_z23, .func (PySem.W.fnOf "thing_at" "Memory.thing_at" (defArgs s_z23) (defBody s_z23) (defScope s_z23) .none kV_z23 dc_z23 pm_z23 an_z23 cd_z23 ct_z23), sl_z23⟩)
    (co_z23 : PySem.W.codeIn K cd_z23 "Memory.thing_at" = true)
    (k_z23 : PySem.W.keepIn K (.ref f_z23) = true)
    (a_z24 : PySem.W.findIn K (.ref C_Memory) "words_at" = some (some (.ref f_z24)))
    (i_z24 : PySem.W.isFn K (.ref f_z24) = true)
    (l_z24 : K.lookup f_z24 = some ⟨oc_z24, od_z24, .func (PySem.W.fnOf "words_at" "Memory.words_at" (defArgs s_z24) (defBody s_z24) (defScope s_z24) .none kV_z24 dc_z24 pm_z24 an_z24 cd_z24 ct_z24), sl_z24⟩)
    (co_z24 : PySem.W.codeIn K cd_z24 "Memory.words_at" = true)
    (k_z24 : PySem.W.keepIn K (.ref f_z24) = true)
    (a_z18 : PySem.W.findIn K (.ref C_Memory) "serial_at" = some (some (.ref f_z18)))
    (i_z18 : PySem.W.isFn K (.ref f_z18) = true)
    (l_z18 : K.lookup f_z18 = some ⟨oc_z18, od_z18, .func (PySem.W.fnOf "serial_at" "Memory.serial_at" (defArgs s_z18) (defBody s_z18) (defScope s_z18) .none kV_z18 dc_z18 pm_z18 an_z18 cd_z18 ct_z18), sl_z18⟩)
    (co_z18 : PySem.W.codeIn K cd_z18 "Memory.serial_at" = true)
    (k_z18 : PySem.W.keepIn K (.ref f_z18) = true)
    (a_z21 : PySem.W.findIn K (.ref C_Memory) "size_at" = some (some (.ref f_z21)))
    (i_z21 : PySem.W.isFn K (.ref f_z21) = true)
    (l_z21 : K.lookup f_z21 = some ⟨oc_z21, od_z21, .func (PySem.W.fnOf "size_at" "Memory.size_at" (defArgs s_z21) (defBody s_z21) (defScope s_z21) .none kV_z21 dc_z21 pm_z21 an_z21 cd_z21 ct_z21), sl_z21⟩)
    (co_z21 : PySem.W.codeIn K cd_z21 "Memory.size_at" = true)
    (k_z21 : PySem.W.keepIn K (.ref f_z21) = true)
    (a_z22 : PySem.W.findIn K (.ref C_Memory) "sort_at" = some (some (.ref f_z22)))
    (i_z22 : PySem.W.isFn K (.ref f_z22) = true)
    (l_z22 : K.lookup f_z22 = some ⟨oc_z22, od_z22, .func (PySem.W.fnOf "sort_at" "Memory.sort_at" (defArgs s_z22) (defBody s_z22) (defScope s_z22) .none kV_z22 dc_z22 pm_z22 an_z22 cd_z22 ct_z22), sl_z22⟩)
    (co_z22 : PySem.W.codeIn K cd_z22 "Memory.sort_at" = true)
    (k_z22 : PySem.W.keepIn K (.ref f_z22) = true)
    (a_z14 : PySem.W.findIn K (.ref C_Memory) "marked_at" = some (some (.ref f_z14)))
    (i_z14 : PySem.W.isFn K (.ref f_z14) = true)
    (l_z14 : K.lookup f_z14 = some ⟨oc_z14, od_z14, .func (PySem.W.fnOf "marked_at" "Memory.marked_at" (defArgs s_z14) (defBody s_z14) (defScope s_z14) .none kV_z14 dc_z14 pm_z14 an_z14 cd_z14 ct_z14), sl_z14⟩)
    (co_z14 : PySem.W.codeIn K cd_z14 "Memory.marked_at" = true)
    (k_z14 : PySem.W.keepIn K (.ref f_z14) = true)
    (a_z20 : PySem.W.findIn K (.ref C_Memory) "set_mark" = some (some (.ref f_z20)))
    (i_z20 : PySem.W.isFn K (.ref f_z20) = true)
    (l_z20 : K.lookup f_z20 = some ⟨oc_z20, od_z20, .func (PySem.W.fnOf "set_mark" "Memory.set_mark" (defArgs s_z20) (defBody s_z20) (defScope s_z20) .none kV_z20 dc_z20 pm_z20 an_z20 cd_z20 ct_z20), sl_z20⟩)
    (co_z20 : PySem.W.codeIn K cd_z20 "Memory.set_mark" = true)
    (k_z20 : PySem.W.keepIn K (.ref f_z20) = true)
    (a_z19 : PySem.W.findIn K (.ref C_Memory) "set_field" = some (some (.ref f_z19)))
    (i_z19 : PySem.W.isFn K (.ref f_z19) = true)
    (l_z19 : K.lookup f_z19 = some ⟨oc_z19, od_z19, .func (PySem.W.fnOf "set_field" "Memory.set_field" (defArgs s_z19) (defBody s_z19) (defScope s_z19) .none kV_z19 dc_z19 pm_z19 an_z19 cd_z19 ct_z19), sl_z19⟩)
    (co_z19 : PySem.W.codeIn K cd_z19 "Memory.set_field" = true)
    (k_z19 : PySem.W.keepIn K (.ref f_z19) = true)
    (a_z15 : PySem.W.findIn K (.ref C_Memory) "places" = some (some (.ref f_z15)))
    (i_z15 : PySem.W.isFn K (.ref f_z15) = true)
    (l_z15 : K.lookup f_z15 = some ⟨oc_z15, od_z15, .func (PySem.W.fnOf "places" "Memory.places" (defArgs s_z15) (defBody s_z15) (defScope s_z15) .none kV_z15 dc_z15 pm_z15 an_z15 cd_z15 ct_z15), sl_z15⟩)
    (co_z15 : PySem.W.codeIn K cd_z15 "Memory.places" = true)
    (k_z15 : PySem.W.keepIn K (.ref f_z15) = true)
    (a_z16 : PySem.W.findIn K (.ref C_Memory) "places_in" = some (some (.ref f_z16)))
    (i_z16 : PySem.W.isFn K (.ref f_z16) = true)
    (l_z16 : K.lookup f_z16 = some ⟨oc_z16, od_z16, .func (PySem.W.fnOf "places_in" "Memory.places_in" (defArgs s_z16) (defBody s_z16) (defScope s_z16) .none kV_z16 dc_z16 pm_z16 an_z16 cd_z16 ct_z16), sl_z16⟩)
    (co_z16 : PySem.W.codeIn K cd_z16 "Memory.places_in" = true)
    (k_z16 : PySem.W.keepIn K (.ref f_z16) = true)
    (a_z51 : PySem.W.nsIn K mainGlobals "_law_cell_at" = some (some (.ref f_z51)))
    (l_z51 : K.lookup f_z51 = some ⟨oc_z51, od_z51, .func (PySem.W.fnOf "_law_cell_at" "_law_cell_at" (defArgs s_z51) (defBody s_z51) (defScope s_z51) .none kV_z51 dc_z51 pm_z51 an_z51 cd_z51 ct_z51), sl_z51⟩)
    (co_z51 : PySem.W.codeIn K cd_z51 "_law_cell_at" = true)
    (k_z51 : PySem.W.keepIn K (.ref f_z51) = true)
    (a_z55 : PySem.W.nsIn K mainGlobals "_law_number" = some (some (.ref f_z55)))
    (l_z55 : K.lookup f_z55 = some ⟨oc_z55, od_z55, .func (PySem.W.fnOf "_law_number" "_law_number" (defArgs s_z55) (defBody s_z55) (defScope s_z55) .none kV_z55 dc_z55 pm_z55 an_z55 cd_z55 ct_z55), sl_z55⟩)
    (co_z55 : PySem.W.codeIn K cd_z55 "_law_number" = true)
    (k_z55 : PySem.W.keepIn K (.ref f_z55) = true)
    (a_z54 : PySem.W.nsIn K mainGlobals "_law_graph" = some (some (.ref f_z54)))
    (l_z54 : K.lookup f_z54 = some ⟨oc_z54, od_z54, .func (PySem.W.fnOf "_law_graph" "_law_graph" (defArgs s_z54) (defBody s_z54) (defScope s_z54) .none kV_z54 dc_z54 pm_z54 an_z54 cd_z54 ct_z54), sl_z54⟩)
    (co_z54 : PySem.W.codeIn K cd_z54 "_law_graph" = true)
    (k_z54 : PySem.W.keepIn K (.ref f_z54) = true)
    (a_z56 : PySem.W.nsIn K mainGlobals "_law_thing" = some (some (.ref f_z56)))
    (l_z56 : K.lookup f_z56 = some ⟨oc_z56, od_z56, .func (PySem.W.fnOf "_law_thing" "_law_thing" (defArgs s_z56) (defBody s_z56) (defScope s_z56) .none kV_z56 dc_z56 pm_z56 an_z56 cd_z56 ct_z56), sl_z56⟩)
    (co_z56 : PySem.W.codeIn K cd_z56 "_law_thing" = true)
    (k_z56 : PySem.W.keepIn K (.ref f_z56) = true)
    (a_z52 : PySem.W.nsIn K mainGlobals "_law_closed" = some (some (.ref f_z52)))
    (l_z52 : K.lookup f_z52 = some ⟨oc_z52, od_z52, .func (PySem.W.fnOf "_law_closed" "_law_closed" (defArgs s_z52) (defBody s_z52) (defScope s_z52) .none kV_z52 dc_z52 pm_z52 an_z52 cd_z52 ct_z52), sl_z52⟩)
    (co_z52 : PySem.W.codeIn K cd_z52 "_law_closed" = true)
    (k_z52 : PySem.W.keepIn K (.ref f_z52) = true)
    (a_z53 : PySem.W.nsIn K mainGlobals "_law_dark" = some (some (.ref f_z53)))
    (l_z53 : K.lookup f_z53 = some ⟨oc_z53, od_z53, .func (PySem.W.fnOf "_law_dark" "_law_dark" (defArgs s_z53) (defBody s_z53) (defScope s_z53) .none kV_z53 dc_z53 pm_z53 an_z53 cd_z53 ct_z53), sl_z53⟩)
    (co_z53 : PySem.W.codeIn K cd_z53 "_law_dark" = true)
    (k_z53 : PySem.W.keepIn K (.ref f_z53) = true)
    (a_law : PySem.W.nsIn K mainGlobals "law" = some (some (.ref f_law)))
    (l_law : K.lookup f_law = some ⟨oc_law, od_law, .func (PySem.W.fnOf "law" "law" (defArgs s_law) (defBody s_law) (defScope s_law) .none kV_law dc_law pm_law an_law cd_law ct_law), sl_law⟩)
    (co_law : PySem.W.codeIn K cd_law "law" = true)
    (k_law : PySem.W.keepIn K (.ref f_law) = true)
    (pg_Thing : PySem.W.plainGet K C_Thing Str.empty = true)
    (hd_Thing : PySem.W.hasDictIn K C_Thing = true)
    (po_Thing : PySem.W.plainOver K C_Thing = true)
    (sa_Thing : PySem.W.findIn K (.ref C_Thing) "__setattr__" = some (some (.builtin "object.__setattr__")))
    (mi_Thing : PySem.W.makesIn K C_Thing = true)
    (kc_Thing : PySem.W.keepIn K (.ref C_Thing) = true)
    (na_Thing_called : PySem.W.findIn K (.ref C_Thing) "called" = some none)
    (na_Thing_parts : PySem.W.findIn K (.ref C_Thing) "parts" = some none)
    (pg_PlainThing : PySem.W.plainGet K C_PlainThing Str.empty = true)
    (hd_PlainThing : PySem.W.hasDictIn K C_PlainThing = true)
    (po_PlainThing : PySem.W.plainOver K C_PlainThing = true)
    (sa_PlainThing : PySem.W.findIn K (.ref C_PlainThing) "__setattr__" = some (some (.builtin "object.__setattr__")))
    (mi_PlainThing : PySem.W.makesIn K C_PlainThing = true)
    (kc_PlainThing : PySem.W.keepIn K (.ref C_PlainThing) = true)
    (na_PlainThing_called : PySem.W.findIn K (.ref C_PlainThing) "called" = some none)
    (na_PlainThing_parts : PySem.W.findIn K (.ref C_PlainThing) "parts" = some none)
    (na_PlainThing_last_words : PySem.W.findIn K (.ref C_PlainThing) "last_words" = some none)
    (pg_PairThing : PySem.W.plainGet K C_PairThing Str.empty = true)
    (hd_PairThing : PySem.W.hasDictIn K C_PairThing = true)
    (po_PairThing : PySem.W.plainOver K C_PairThing = true)
    (sa_PairThing : PySem.W.findIn K (.ref C_PairThing) "__setattr__" = some (some (.builtin "object.__setattr__")))
    (mi_PairThing : PySem.W.makesIn K C_PairThing = true)
    (kc_PairThing : PySem.W.keepIn K (.ref C_PairThing) = true)
    (na_PairThing_called : PySem.W.findIn K (.ref C_PairThing) "called" = some none)
    (na_PairThing_parts : PySem.W.findIn K (.ref C_PairThing) "parts" = some none)
    (pg_Marking : PySem.W.plainGet K C_Marking Str.empty = true)
    (hd_Marking : PySem.W.hasDictIn K C_Marking = true)
    (po_Marking : PySem.W.plainOver K C_Marking = true)
    (sa_Marking : PySem.W.findIn K (.ref C_Marking) "__setattr__" = some (some (.builtin "object.__setattr__")))
    (mi_Marking : PySem.W.makesIn K C_Marking = true)
    (kc_Marking : PySem.W.keepIn K (.ref C_Marking) = true)
    (na_Marking_memory : PySem.W.findIn K (.ref C_Marking) "memory" = some none)
    (na_Marking_grey_places : PySem.W.findIn K (.ref C_Marking) "grey_places" = some none)
    (pg_Rooms : PySem.W.plainGet K C_Rooms Str.empty = true)
    (hd_Rooms : PySem.W.hasDictIn K C_Rooms = true)
    (po_Rooms : PySem.W.plainOver K C_Rooms = true)
    (sa_Rooms : PySem.W.findIn K (.ref C_Rooms) "__setattr__" = some (some (.builtin "object.__setattr__")))
    (mi_Rooms : PySem.W.makesIn K C_Rooms = true)
    (kc_Rooms : PySem.W.keepIn K (.ref C_Rooms) = true)
    (na_Rooms_many : PySem.W.findIn K (.ref C_Rooms) "many" = some none)
    (na_Rooms_cells : PySem.W.findIn K (.ref C_Rooms) "cells" = some none)
    (na_Rooms_inside : PySem.W.findIn K (.ref C_Rooms) "inside" = some none)
    (pg_Memory : PySem.W.plainGet K C_Memory Str.empty = true)
    (hd_Memory : PySem.W.hasDictIn K C_Memory = true)
    (po_Memory : PySem.W.plainOver K C_Memory = true)
    (sa_Memory : PySem.W.findIn K (.ref C_Memory) "__setattr__" = some (some (.builtin "object.__setattr__")))
    (mi_Memory : PySem.W.makesIn K C_Memory = true)
    (kc_Memory : PySem.W.keepIn K (.ref C_Memory) = true)
    (na_Memory_rooms : PySem.W.findIn K (.ref C_Memory) "rooms" = some none)
    (na_Memory_begins : PySem.W.findIn K (.ref C_Memory) "begins" = some none)
    (g_NOTHING : PySem.W.nsIn K mainGlobals "NOTHING" = some (some (.ref t_NOTHING)))
    (gk_NOTHING : K.lookup t_NOTHING = some ⟨.type "tuple", none, .seq #[.str "nothing" tk_NOTHING_0] tn_NOTHING, ts_NOTHING⟩)
    (g_KIND_BITS : PySem.W.nsIn K mainGlobals "KIND_BITS" = some (some (.int 3 t_KIND_BITS)))
    (g_MARK_BIT : PySem.W.nsIn K mainGlobals "MARK_BIT" = some (some (.int 4 t_MARK_BIT)))
    (g_WORDS_BIT : PySem.W.nsIn K mainGlobals "WORDS_BIT" = some (some (.int 8 t_WORDS_BIT)))
    (g_SIZE_FROM : PySem.W.nsIn K mainGlobals "SIZE_FROM" = some (some (.int 4 t_SIZE_FROM)))
    (g_SORTS : PySem.W.nsIn K mainGlobals "SORTS" = some (some (.ref t_SORTS)))
    (gk_SORTS : K.lookup t_SORTS = some ⟨.type "tuple", none, .seq #[.str "plain" tk_SORTS_0, .str "weak" tk_SORTS_1, .str "pair" tk_SORTS_2] tn_SORTS, ts_SORTS⟩)
    (g_SERIAL_AT : PySem.W.nsIn K mainGlobals "SERIAL_AT" = some (some (.int 1 t_SERIAL_AT)))
    (g_WORDS_AT : PySem.W.nsIn K mainGlobals "WORDS_AT" = some (some (.int 2 t_WORDS_AT)))
    (h_PlainThing_sort_of : PySem.W.findIn K (.ref C_PlainThing) "sort_of" = some (some (.ref f_z40)))
    (h_PlainThing_fields : PySem.W.findIn K (.ref C_PlainThing) "fields" = some (some (.ref f_z37)))
    (h_PlainThing_waits : PySem.W.findIn K (.ref C_PlainThing) "waits" = some (some (.ref f_z41)))
    (h_PairThing_sort_of : PySem.W.findIn K (.ref C_PairThing) "sort_of" = some (some (.ref f_z40)))
    (h_PairThing_fields : PySem.W.findIn K (.ref C_PairThing) "fields" = some (some (.ref f_z37)))
    (h_PairThing_holds : PySem.W.findIn K (.ref C_PairThing) "holds" = some (some (.ref f_z38)))
    (h_PairThing_words : PySem.W.findIn K (.ref C_PairThing) "words" = some (some (.ref f_z42)))
    (lk_Marking_pairs_by_serial : cd_z5 = .ref kc_z5)
    (lo_Marking_pairs_by_serial : K.lookup kc_z5 = some ⟨.type "code", lod_z5, .fields lvs_z5, lsl_z5⟩)
    (lv_Marking_pairs_by_serial : lvs_z5[11]? = some (.ref pc_z5))
    (lh_z5 : PySem.W.codeHdIn K kc_z5 pc_z5 = true)
    (lt_Marking_pairs_by_serial : pc_z5 ∈ ts)
    (lall : ∀ b ∈ ts, b = pc_z5)
    (cf1_Thing_init : PySem.W.specialIn K (.ref C_Thing) "__getattribute__" = some (some (.builtin "type.__getattribute__")))
    (cf2_Thing_init : PySem.W.readsIn K C_Thing (.type "type") = true)
    (cf3_Thing_init : PySem.W.findCls K (.ref C_Thing) (.type "type") "__init__" = some (.val (.ref f_z39)))
    (n_enumerate : PySem.W.nsIn K mainGlobals "enumerate" = some none)
    (n_len : PySem.W.nsIn K mainGlobals "len" = some none)
    (n_list : PySem.W.nsIn K mainGlobals "list" = some none)
    (n_min : PySem.W.nsIn K mainGlobals "min" = some none)
    (n_range : PySem.W.nsIn K mainGlobals "range" = some none)
    (n_sorted : PySem.W.nsIn K mainGlobals "sorted" = some none)
    : ∃ fd : FuncData, (∀ (s : Shared) (v : Value), BindsTo s fd ⟨[v], []⟩ [("_law_script", v)]) ∧ (∀ b ∈ ts, ∃ c, PySem.W.codeHdIn K c b = true) ∧ ∀ base : Heap, K.In base → base.Ns mainGlobals mg → BM mg base → FnOk l.prog w K mg base CX0 15 fa fd ["_law_script"] (sp_law ts K) := by
  have e : f_law = fa := by
    have e := hfa.symm.trans (PySem.W.mg_of X G a_law)
    cases e
    rfl
  subst e
  have F_z48 := fun_mk (st := s_z48) l_z48 co_z48 k_z48
  have F_z57 := fun_mk (st := s_z57) l_z57 co_z57 k_z57
  have F_z39 := fun_mk (st := s_z39) l_z39 co_z39 k_z39
  have F_z40 := fun_mk (st := s_z40) l_z40 co_z40 k_z40
  have F_z37 := fun_mk (st := s_z37) l_z37 co_z37 k_z37
  have F_z38 := fun_mk (st := s_z38) l_z38 co_z38 k_z38
  have F_z41 := fun_mk (st := s_z41) l_z41 co_z41 k_z41
  have F_z42 := fun_mk (st := s_z42) l_z42 co_z42 k_z42
  have F_z28 := fun_mk (st := s_z28) l_z28 co_z28 k_z28
  have F_z27 := fun_mk (st := s_z27) l_z27 co_z27 k_z27
  have F_z29 := fun_mk (st := s_z29) l_z29 co_z29 k_z29
  have F_z25 := fun_mk (st := s_z25) l_z25 co_z25 k_z25
  have F_z26 := fun_mk (st := s_z26) l_z26 co_z26 k_z26
  have F_z59 := fun_mk (st := s_z59) l_z59 co_z59 k_z59
  have F_z62 := fun_mk (st := s_z62) l_z62 co_z62 k_z62
  have F_z58 := fun_mk (st := s_z58) l_z58 co_z58 k_z58
  have F_z4 := fun_mk (st := s_z4) l_z4 co_z4 k_z4
  have F_z6 := fun_mk (st := s_z6) l_z6 co_z6 k_z6
  have F_z7 := fun_mk (st := s_z7) l_z7 co_z7 k_z7
  have F_z3 := fun_mk (st := s_z3) l_z3 co_z3 k_z3
  have F_z10 := fun_mk (st := s_z10) l_z10 co_z10 k_z10
  have F_z0 := fun_mk (st := s_z0) l_z0 co_z0 k_z0
  have F_z1 := fun_mk (st := s_z1) l_z1 co_z1 k_z1
  have F_z5 := fun_mk (st := s_z5) l_z5 co_z5 k_z5
  have F_z9 := fun_mk (st := s_z9) l_z9 co_z9 k_z9
  have F_z8 := fun_mk (st := s_z8) l_z8 co_z8 k_z8
  have F_z2 := fun_mk (st := s_z2) l_z2 co_z2 k_z2
  have F_z46 := fun_mk (st := s_z46) l_z46 co_z46 k_z46
  have F_z49 := fun_mk (st := s_z49) l_z49 co_z49 k_z49
  have F_z60 := fun_mk (st := s_z60) l_z60 co_z60 k_z60
  have F_z47 := fun_mk (st := s_z47) l_z47 co_z47 k_z47
  have F_z45 := fun_mk (st := s_z45) l_z45 co_z45 k_z45
  have F_z64 := fun_mk (st := s_z64) l_z64 co_z64 k_z64
  have F_z65 := fun_mk (st := s_z65) l_z65 co_z65 k_z65
  have F_z63 := fun_mk (st := s_z63) l_z63 co_z63 k_z63
  have F_z33 := fun_mk (st := s_z33) l_z33 co_z33 k_z33
  have F_z31 := fun_mk (st := s_z31) l_z31 co_z31 k_z31
  have F_z32 := fun_mk (st := s_z32) l_z32 co_z32 k_z32
  have F_z30 := fun_mk (st := s_z30) l_z30 co_z30 k_z30
  have F_z34 := fun_mk (st := s_z34) l_z34 co_z34 k_z34
  have F_z36 := fun_mk (st := s_z36) l_z36 co_z36 k_z36
  have F_z35 := fun_mk (st := s_z35) l_z35 co_z35 k_z35
  have F_z44 := fun_mk (st := s_z44) l_z44 co_z44 k_z44
  have F_z61 := fun_mk (st := s_z61) l_z61 co_z61 k_z61
  have F_z66 := fun_mk (st := s_z66) l_z66 co_z66 k_z66
  have F_z43 := fun_mk (st := s_z43) l_z43 co_z43 k_z43
  have F_z13 := fun_mk (st := s_z13) l_z13 co_z13 k_z13
  have F_z17 := fun_mk (st := s_z17) l_z17 co_z17 k_z17
  have F_z11 := fun_mk (st := s_z11) l_z11 co_z11 k_z11
  have F_z12 := fun_mk (st := s_z12) l_z12 co_z12 k_z12
  have F_z23 := fun_mk (st := s_z23) l_z23 co_z23 k_z23
  have F_z24 := fun_mk (st := s_z24) l_z24 co_z24 k_z24
  have F_z18 := fun_mk (st := s_z18) l_z18 co_z18 k_z18
  have F_z21 := fun_mk (st := s_z21) l_z21 co_z21 k_z21
  have F_z22 := fun_mk (st := s_z22) l_z22 co_z22 k_z22
  have F_z14 := fun_mk (st := s_z14) l_z14 co_z14 k_z14
  have F_z20 := fun_mk (st := s_z20) l_z20 co_z20 k_z20
  have F_z19 := fun_mk (st := s_z19) l_z19 co_z19 k_z19
  have F_z15 := fun_mk (st := s_z15) l_z15 co_z15 k_z15
  have F_z16 := fun_mk (st := s_z16) l_z16 co_z16 k_z16
  have F_z51 := fun_mk (st := s_z51) l_z51 co_z51 k_z51
  have F_z55 := fun_mk (st := s_z55) l_z55 co_z55 k_z55
  have F_z54 := fun_mk (st := s_z54) l_z54 co_z54 k_z54
  have F_z56 := fun_mk (st := s_z56) l_z56 co_z56 k_z56
  have F_z52 := fun_mk (st := s_z52) l_z52 co_z52 k_z52
  have F_z53 := fun_mk (st := s_z53) l_z53 co_z53 k_z53
  have F_law := fun_mk (st := s_law) l_law co_law k_law
  have B_z48 := F_z48.binds (ps := ["value"]) fun _ _ _ _ _ _ us hl => match us, hl with | [_], _ => rfl
  have B_z57 := F_z57.binds (ps := ["some"]) fun _ _ _ _ _ _ us hl => match us, hl with | [_], _ => rfl
  have B_z39 := F_z39.binds (ps := ["self", "sort", "some"]) fun _ _ _ _ _ _ us hl => match us, hl with | [_, _, _], _ => rfl
  have B_z40 := F_z40.binds (ps := ["self"]) fun _ _ _ _ _ _ us hl => match us, hl with | [_], _ => rfl
  have B_z37 := F_z37.binds (ps := ["self"]) fun _ _ _ _ _ _ us hl => match us, hl with | [_], _ => rfl
  have B_z38 := F_z38.binds (ps := ["self"]) fun _ _ _ _ _ _ us hl => match us, hl with | [_], _ => rfl
  have B_z41 := F_z41.binds (ps := ["self"]) fun _ _ _ _ _ _ us hl => match us, hl with | [_], _ => rfl
  have B_z42 := F_z42.binds (ps := ["self"]) fun _ _ _ _ _ _ us hl => match us, hl with | [_], _ => rfl
  have B_z28 := F_z28.binds (ps := ["self", "some", "last_words"]) fun _ _ _ _ _ _ us hl => match us, hl with | [_, _, _], _ => rfl
  have B_z27 := F_z27.binds (ps := ["self"]) fun _ _ _ _ _ _ us hl => match us, hl with | [_], _ => rfl
  have B_z29 := F_z29.binds (ps := ["self"]) fun _ _ _ _ _ _ us hl => match us, hl with | [_], _ => rfl
  have B_z25 := F_z25.binds (ps := ["self", "key", "value"]) fun _ _ _ _ _ _ us hl => match us, hl with | [_, _, _], _ => rfl
  have B_z26 := F_z26.binds (ps := ["self"]) fun _ _ _ _ _ _ us hl => match us, hl with | [_], _ => rfl
  have B_z59 := F_z59.binds (ps := ["fields", "words"]) fun _ _ _ _ _ _ us hl => match us, hl with | [_, _], _ => rfl
  have B_z62 := F_z62.binds (ps := ["field"]) fun _ _ _ _ _ _ us hl => match us, hl with | [_], _ => rfl
  have B_z58 := F_z58.binds (ps := ["key", "value"]) fun _ _ _ _ _ _ us hl => match us, hl with | [_, _], _ => rfl
  have B_z4 := F_z4.binds (ps := ["self", "memory"]) fun _ _ _ _ _ _ us hl => match us, hl with | [_, _], _ => rfl
  have B_z6 := F_z6.binds (ps := ["self", "place"]) fun _ _ _ _ _ _ us hl => match us, hl with | [_, _], _ => rfl
  have B_z7 := F_z7.binds (ps := ["self", "places"]) fun _ _ _ _ _ _ us hl => match us, hl with | [_, _], _ => rfl
  have B_z3 := F_z3.binds (ps := ["self"]) fun _ _ _ _ _ _ us hl => match us, hl with | [_], _ => rfl
  have B_z10 := F_z10.binds (ps := ["self"]) fun _ _ _ _ _ _ us hl => match us, hl with | [_], _ => rfl
  have B_z0 := F_z0.binds (ps := ["self"]) fun _ _ _ _ _ _ us hl => match us, hl with | [_], _ => rfl
  have B_z1 := F_z1.binds (ps := ["self"]) fun _ _ _ _ _ _ us hl => match us, hl with | [_], _ => rfl
  have B_z5 := F_z5.binds (ps := ["self"]) fun _ _ _ _ _ _ us hl => match us, hl with | [_], _ => rfl
  have B_z9 := F_z9.binds (ps := ["self", "pairs"]) fun _ _ _ _ _ _ us hl => match us, hl with | [_, _], _ => rfl
  have B_z8 := F_z8.binds (ps := ["self", "place"]) fun _ _ _ _ _ _ us hl => match us, hl with | [_, _], _ => rfl
  have B_z2 := F_z2.binds (ps := ["self"]) fun _ _ _ _ _ _ us hl => match us, hl with | [_], _ => rfl
  have B_z46 := F_z46.binds (ps := ["kind", "marked", "words", "size"]) fun _ _ _ _ _ _ us hl => match us, hl with | [_, _, _, _], _ => rfl
  have B_z49 := F_z49.binds (ps := ["number"]) fun _ _ _ _ _ _ us hl => match us, hl with | [_], _ => rfl
  have B_z60 := F_z60.binds (ps := ["number"]) fun _ _ _ _ _ _ us hl => match us, hl with | [_], _ => rfl
  have B_z47 := F_z47.binds (ps := ["number"]) fun _ _ _ _ _ _ us hl => match us, hl with | [_], _ => rfl
  have B_z45 := F_z45.binds (ps := ["number"]) fun _ _ _ _ _ _ us hl => match us, hl with | [_], _ => rfl
  have B_z64 := F_z64.binds (ps := ["number", "marked"]) fun _ _ _ _ _ _ us hl => match us, hl with | [_, _], _ => rfl
  have B_z65 := F_z65.binds (ps := ["number", "words"]) fun _ _ _ _ _ _ us hl => match us, hl with | [_, _], _ => rfl
  have B_z63 := F_z63.binds (ps := ["number", "bit", "is_set"]) fun _ _ _ _ _ _ us hl => match us, hl with | [_, _, _], _ => rfl
  have B_z33 := F_z33.binds (ps := ["self", "many", "cells"]) fun _ _ _ _ _ _ us hl => match us, hl with | [_, _, _], _ => rfl
  have B_z31 := F_z31.binds (ps := ["self", "length"]) fun _ _ _ _ _ _ us hl => match us, hl with | [_, _], _ => rfl
  have B_z32 := F_z32.binds (ps := ["self", "room", "length"]) fun _ _ _ _ _ _ us hl => match us, hl with | [_, _, _], _ => rfl
  have B_z30 := F_z30.binds (ps := ["self", "place", "some"]) fun _ _ _ _ _ _ us hl => match us, hl with | [_, _, _], _ => rfl
  have B_z34 := F_z34.binds (ps := ["self", "place"]) fun _ _ _ _ _ _ us hl => match us, hl with | [_, _], _ => rfl
  have B_z36 := F_z36.binds (ps := ["self", "place", "value"]) fun _ _ _ _ _ _ us hl => match us, hl with | [_, _, _], _ => rfl
  have B_z35 := F_z35.binds (ps := ["self", "place"]) fun _ _ _ _ _ _ us hl => match us, hl with | [_, _], _ => rfl
  have B_z44 := F_z44.binds (ps := ["sort"]) fun _ _ _ _ _ _ us hl => match us, hl with | [_], _ => rfl
  have B_z61 := F_z61.binds (ps := ["thing"]) fun _ _ _ _ _ _ us hl => match us, hl with | [_], _ => rfl
  have B_z66 := F_z66.binds (ps := ["words"]) fun _ _ _ _ _ _ us hl => match us, hl with | [_], _ => rfl
  have B_z43 := F_z43.binds (ps := ["thing", "serial", "marked"]) fun _ _ _ _ _ _ us hl => match us, hl with | [_, _, _], _ => rfl
  have B_z13 := F_z13.binds (ps := ["self", "many", "cells"]) fun _ _ _ _ _ _ us hl => match us, hl with | [_, _, _], _ => rfl
  have B_z17 := F_z17.binds (ps := ["self", "thing", "serial", "marked"]) fun _ _ _ _ _ _ us hl => match us, hl with | [_, _, _, _], _ => rfl
  have B_z11 := F_z11.binds (ps := ["self", "place", "some"]) fun _ _ _ _ _ _ us hl => match us, hl with | [_, _, _], _ => rfl
  have B_z12 := F_z12.binds (ps := ["self", "place"]) fun _ _ _ _ _ _ us hl => match us, hl with | [_, _], _ => rfl
  have B_z23 := F_z23.binds (ps := ["self", "place"]) fun _ _ _ _ _ _ us hl => match us, hl with | [_, _], _ => rfl
  have B_z24 := F_z24.binds (ps := ["self", "place"]) fun _ _ _ _ _ _ us hl => match us, hl with | [_, _], _ => rfl
  have B_z18 := F_z18.binds (ps := ["self", "place"]) fun _ _ _ _ _ _ us hl => match us, hl with | [_, _], _ => rfl
  have B_z21 := F_z21.binds (ps := ["self", "place"]) fun _ _ _ _ _ _ us hl => match us, hl with | [_, _], _ => rfl
  have B_z22 := F_z22.binds (ps := ["self", "place"]) fun _ _ _ _ _ _ us hl => match us, hl with | [_, _], _ => rfl
  have B_z14 := F_z14.binds (ps := ["self", "place"]) fun _ _ _ _ _ _ us hl => match us, hl with | [_, _], _ => rfl
  have B_z20 := F_z20.binds (ps := ["self", "place", "marked"]) fun _ _ _ _ _ _ us hl => match us, hl with | [_, _, _], _ => rfl
  have B_z19 := F_z19.binds (ps := ["self", "place", "at", "value"]) fun _ _ _ _ _ _ us hl => match us, hl with | [_, _, _, _], _ => rfl
  have B_z15 := F_z15.binds (ps := ["self"]) fun _ _ _ _ _ _ us hl => match us, hl with | [_], _ => rfl
  have B_z16 := F_z16.binds (ps := ["self", "room"]) fun _ _ _ _ _ _ us hl => match us, hl with | [_, _], _ => rfl
  have B_z51 := F_z51.binds (ps := ["_law_script", "_law_k"]) fun _ _ _ _ _ _ us hl => match us, hl with | [_, _], _ => rfl
  have B_z55 := F_z55.binds (ps := ["_law_cell"]) fun _ _ _ _ _ _ us hl => match us, hl with | [_], _ => rfl
  have B_z54 := F_z54.binds (ps := ["_law_script", "_law_memory", "_law_start"]) fun _ _ _ _ _ _ us hl => match us, hl with | [_, _, _], _ => rfl
  have B_z56 := F_z56.binds (ps := ["_law_sort", "_law_fields", "_law_words"]) fun _ _ _ _ _ _ us hl => match us, hl with | [_, _, _], _ => rfl
  have B_z52 := F_z52.binds (ps := ["_law_rows", "_law_some"]) fun _ _ _ _ _ _ us hl => match us, hl with | [_, _], _ => rfl
  have B_z53 := F_z53.binds (ps := ["_law_memory", "_law_places"]) fun _ _ _ _ _ _ us hl => match us, hl with | [_, _], _ => rfl
  have T : Txt K mg ⟨f_z48, PySem.W.fnOf "is_thing" "is_thing" (defArgs s_z48) (defBody s_z48) (defScope s_z48) .none kV_z48 dc_z48 pm_z48 an_z48 cd_z48 ct_z48, f_z57, PySem.W.fnOf "names_in" "names_in" (defArgs s_z57) (defBody s_z57) (defScope s_z57) .none kV_z57 dc_z57 pm_z57 an_z57 cd_z57 ct_z57, f_z39, PySem.W.fnOf "__init__" "Thing.__init__" (defArgs s_z39) (defBody s_z39) (defScope s_z39) .none kV_z39 dc_z39 pm_z39 an_z39 cd_z39 ct_z39, f_z40, PySem.W.fnOf "sort_of" "Thing.sort_of" (defArgs s_z40) (defBody s_z40) (defScope s_z40) .none kV_z40 dc_z40 pm_z40 an_z40 cd_z40 ct_z40, f_z37, PySem.W.fnOf "fields" "Thing.fields" (defArgs s_z37) (defBody s_z37) (defScope s_z37) .none kV_z37 dc_z37 pm_z37 an_z37 cd_z37 ct_z37, f_z38, PySem.W.fnOf "holds" "Thing.holds" (defArgs s_z38) (defBody s_z38) (defScope s_z38) .none kV_z38 dc_z38 pm_z38 an_z38 cd_z38 ct_z38, f_z41, PySem.W.fnOf "waits" "Thing.waits" (defArgs s_z41) (defBody s_z41) (defScope s_z41) .none kV_z41 dc_z41 pm_z41 an_z41 cd_z41 ct_z41, f_z42, PySem.W.fnOf "words" "Thing.words" (defArgs s_z42) (defBody s_z42) (defScope s_z42) .none kV_z42 dc_z42 pm_z42 an_z42 cd_z42 ct_z42, f_z28, PySem.W.fnOf "__init__" "PlainThing.__init__" (defArgs s_z28) (defBody s_z28) (defScope s_z28) .none kV_z28 dc_z28 pm_z28 an_z28 cd_z28 ct_z28, f_z27, PySem.W.fnOf "holds" "PlainThing.holds" (defArgs s_z27) (defBody s_z27) (defScope s_z27) .none kV_z27 dc_z27 pm_z27 an_z27 cd_z27 ct_z27, f_z29, PySem.W.fnOf "words" "PlainThing.words" (defArgs s_z29) (defBody s_z29) (defScope s_z29) .none kV_z29 dc_z29 pm_z29 an_z29 cd_z29 ct_z29, f_z25, PySem.W.fnOf "__init__" "PairThing.__init__" (defArgs s_z25) (defBody s_z25) (defScope s_z25) .none kV_z25 dc_z25 pm_z25 an_z25 cd_z25 ct_z25, f_z26, PySem.W.fnOf "waits" "PairThing.waits" (defArgs s_z26) (defBody s_z26) (defScope s_z26) .none kV_z26 dc_z26 pm_z26 an_z26 cd_z26 ct_z26, f_z59, PySem.W.fnOf "plain" "plain" (defArgs s_z59) (defBody s_z59) (defScope s_z59) .none kV_z59 dc_z59 pm_z59 an_z59 cd_z59 ct_z59, f_z62, PySem.W.fnOf "weak" "weak" (defArgs s_z62) (defBody s_z62) (defScope s_z62) .none kV_z62 dc_z62 pm_z62 an_z62 cd_z62 ct_z62, f_z58, PySem.W.fnOf "pair" "pair" (defArgs s_z58) (defBody s_z58) (defScope s_z58) .none kV_z58 dc_z58 pm_z58 an_z58 cd_z58 ct_z58, f_z4, PySem.W.fnOf "__init__" "Marking.__init__" (defArgs s_z4) (defBody s_z4) (defScope s_z4) .none kV_z4 dc_z4 pm_z4 an_z4 cd_z4 ct_z4, f_z6, PySem.W.fnOf "shade" "Marking.shade" (defArgs s_z6) (defBody s_z6) (defScope s_z6) .none kV_z6 dc_z6 pm_z6 an_z6 cd_z6 ct_z6, f_z7, PySem.W.fnOf "shade_all" "Marking.shade_all" (defArgs s_z7) (defBody s_z7) (defScope s_z7) .none kV_z7 dc_z7 pm_z7 an_z7 cd_z7 ct_z7, f_z3, PySem.W.fnOf "has_grey" "Marking.has_grey" (defArgs s_z3) (defBody s_z3) (defScope s_z3) .none kV_z3 dc_z3 pm_z3 an_z3 cd_z3 ct_z3, f_z10, PySem.W.fnOf "step" "Marking.step" (defArgs s_z10) (defBody s_z10) (defScope s_z10) .none kV_z10 dc_z10 pm_z10 an_z10 cd_z10 ct_z10, f_z0, PySem.W.fnOf "drain" "Marking.drain" (defArgs s_z0) (defBody s_z0) (defScope s_z0) .none kV_z0 dc_z0 pm_z0 an_z0 cd_z0 ct_z0, f_z1, PySem.W.fnOf "empty_row" "Marking.empty_row" (defArgs s_z1) (defBody s_z1) (defScope s_z1) .none kV_z1 dc_z1 pm_z1 an_z1 cd_z1 ct_z1, f_z5, PySem.W.fnOf "pairs_by_serial" "Marking.pairs_by_serial" (defArgs s_z5) (defBody s_z5) (defScope s_z5) .none kV_z5 dc_z5 pm_z5 an_z5 cd_z5 ct_z5, f_z9, PySem.W.fnOf "shade_values" "Marking.shade_values" (defArgs s_z9) (defBody s_z9) (defScope s_z9) .none kV_z9 dc_z9 pm_z9 an_z9 cd_z9 ct_z9, f_z8, PySem.W.fnOf "shade_value" "Marking.shade_value" (defArgs s_z8) (defBody s_z8) (defScope s_z8) .none kV_z8 dc_z8 pm_z8 an_z8 cd_z8 ct_z8, f_z2, PySem.W.fnOf "grey" "Marking.grey" (defArgs s_z2) (defBody s_z2) (defScope s_z2) .none kV_z2 dc_z2 pm_z2 an_z2 cd_z2 ct_z2, f_z46, PySem.W.fnOf "header" "header" (defArgs s_z46) (defBody s_z46) (defScope s_z46) .none kV_z46 dc_z46 pm_z46 an_z46 cd_z46 ct_z46, f_z49, PySem.W.fnOf "kind_in" "kind_in" (defArgs s_z49) (defBody s_z49) (defScope s_z49) .none kV_z49 dc_z49 pm_z49 an_z49 cd_z49 ct_z49, f_z60, PySem.W.fnOf "size_in" "size_in" (defArgs s_z60) (defBody s_z60) (defScope s_z60) .none kV_z60 dc_z60 pm_z60 an_z60 cd_z60 ct_z60, f_z47, PySem.W.fnOf "is_marked" "is_marked" (defArgs s_z47) (defBody s_z47) (defScope s_z47) .none kV_z47 dc_z47 pm_z47 an_z47 cd_z47 ct_z47, f_z45, PySem.W.fnOf "has_words" "has_words" (defArgs s_z45) (defBody s_z45) (defScope s_z45) .none kV_z45 dc_z45 pm_z45 an_z45 cd_z45 ct_z45, f_z64, PySem.W.fnOf "with_mark" "with_mark" (defArgs s_z64) (defBody s_z64) (defScope s_z64) .none kV_z64 dc_z64 pm_z64 an_z64 cd_z64 ct_z64, f_z65, PySem.W.fnOf "with_words" "with_words" (defArgs s_z65) (defBody s_z65) (defScope s_z65) .none kV_z65 dc_z65 pm_z65 an_z65 cd_z65 ct_z65, f_z63, PySem.W.fnOf "with_bit" "with_bit" (defArgs s_z63) (defBody s_z63) (defScope s_z63) .none kV_z63 dc_z63 pm_z63 an_z63 cd_z63 ct_z63, f_z33, PySem.W.fnOf "__init__" "Rooms.__init__" (defArgs s_z33) (defBody s_z33) (defScope s_z33) .none kV_z33 dc_z33 pm_z33 an_z33 cd_z33 ct_z33, f_z31, PySem.W.fnOf "gap" "Rooms.gap" (defArgs s_z31) (defBody s_z31) (defScope s_z31) .none kV_z31 dc_z31 pm_z31 an_z31 cd_z31 ct_z31, f_z32, PySem.W.fnOf "gap_in" "Rooms.gap_in" (defArgs s_z32) (defBody s_z32) (defScope s_z32) .none kV_z32 dc_z32 pm_z32 an_z32 cd_z32 ct_z32, f_z30, PySem.W.fnOf "fill_in" "Rooms.fill_in" (defArgs s_z30) (defBody s_z30) (defScope s_z30) .none kV_z30 dc_z30 pm_z30 an_z30 cd_z30 ct_z30, f_z34, PySem.W.fnOf "read" "Rooms.read" (defArgs s_z34) (defBody s_z34) (defScope s_z34) .none kV_z34 dc_z34 pm_z34 an_z34 cd_z34 ct_z34, f_z36, PySem.W.fnOf "write" "Rooms.write" (defArgs s_z36) (defBody s_z36) (defScope s_z36) .none kV_z36 dc_z36 pm_z36 an_z36 cd_z36 ct_z36, f_z35, PySem.W.fnOf "room_of" "Rooms.room_of" (defArgs s_z35) (defBody s_z35) (defScope s_z35) .none kV_z35 dc_z35 pm_z35 an_z35 cd_z35 ct_z35, f_z44, PySem.W.fnOf "first_field" "first_field" (defArgs s_z44) (defBody s_z44) (defScope s_z44) .none kV_z44 dc_z44 pm_z44 an_z44 cd_z44 ct_z44, f_z61, PySem.W.fnOf "size_of" "size_of" (defArgs s_z61) (defBody s_z61) (defScope s_z61) .none kV_z61 dc_z61 pm_z61 an_z61 cd_z61 ct_z61, f_z66, PySem.W.fnOf "words_cell" "words_cell" (defArgs s_z66) (defBody s_z66) (defScope s_z66) .none kV_z66 dc_z66 pm_z66 an_z66 cd_z66 ct_z66, f_z43, PySem.W.fnOf "cells_of" "cells_of" (defArgs s_z43) (defBody s_z43) (defScope s_z43) .none kV_z43 dc_z43 pm_z43 an_z43 cd_z43 ct_z43, f_z13, PySem.W.fnOf "__init__" "Memory.__init__" (defArgs s_z13) (defBody s_z13) (defScope s_z13) .none kV_z13 dc_z13 pm_z13 an_z13 cd_z13 ct_z13, f_z17, PySem.W.fnOf "put_in" "Memory.put_in" (defArgs s_z17) (defBody s_z17) (defScope s_z17) .none kV_z17 dc_z17 pm_z17 an_z17 cd_z17 ct_z17, f_z11, PySem.W.fnOf "fill_from" "Memory.fill_from" (defArgs s_z11) (defBody s_z11) (defScope s_z11) .none kV_z11 dc_z11 pm_z11 an_z11 cd_z11 ct_z11, f_z12, PySem.W.fnOf "head_at" "Memory.head_at" (defArgs s_z12) (defBody s_z12) (defScope s_z12) .none kV_z12 dc_z12 pm_z12 an_z12 cd_z12 ct_z12, f_z23, PySem.W.fnOf "thing_at" "Memory.thing_at" (defArgs s_z23) (defBody s_z23) (defScope s_z23) .none kV_z23 dc_z23 pm_z23 an_z23 cd_z23 ct_z23, f_z24, PySem.W.fnOf "words_at" "Memory.words_at" (defArgs s_z24) (defBody s_z24) (defScope s_z24) .none kV_z24 dc_z24 pm_z24 an_z24 cd_z24 ct_z24, f_z18, PySem.W.fnOf "serial_at" "Memory.serial_at" (defArgs s_z18) (defBody s_z18) (defScope s_z18) .none kV_z18 dc_z18 pm_z18 an_z18 cd_z18 ct_z18, f_z21, PySem.W.fnOf "size_at" "Memory.size_at" (defArgs s_z21) (defBody s_z21) (defScope s_z21) .none kV_z21 dc_z21 pm_z21 an_z21 cd_z21 ct_z21, f_z22, PySem.W.fnOf "sort_at" "Memory.sort_at" (defArgs s_z22) (defBody s_z22) (defScope s_z22) .none kV_z22 dc_z22 pm_z22 an_z22 cd_z22 ct_z22, f_z14, PySem.W.fnOf "marked_at" "Memory.marked_at" (defArgs s_z14) (defBody s_z14) (defScope s_z14) .none kV_z14 dc_z14 pm_z14 an_z14 cd_z14 ct_z14, f_z20, PySem.W.fnOf "set_mark" "Memory.set_mark" (defArgs s_z20) (defBody s_z20) (defScope s_z20) .none kV_z20 dc_z20 pm_z20 an_z20 cd_z20 ct_z20, f_z19, PySem.W.fnOf "set_field" "Memory.set_field" (defArgs s_z19) (defBody s_z19) (defScope s_z19) .none kV_z19 dc_z19 pm_z19 an_z19 cd_z19 ct_z19, f_z15, PySem.W.fnOf "places" "Memory.places" (defArgs s_z15) (defBody s_z15) (defScope s_z15) .none kV_z15 dc_z15 pm_z15 an_z15 cd_z15 ct_z15, f_z16, PySem.W.fnOf "places_in" "Memory.places_in" (defArgs s_z16) (defBody s_z16) (defScope s_z16) .none kV_z16 dc_z16 pm_z16 an_z16 cd_z16 ct_z16, f_z51, PySem.W.fnOf "_law_cell_at" "_law_cell_at" (defArgs s_z51) (defBody s_z51) (defScope s_z51) .none kV_z51 dc_z51 pm_z51 an_z51 cd_z51 ct_z51, f_z55, PySem.W.fnOf "_law_number" "_law_number" (defArgs s_z55) (defBody s_z55) (defScope s_z55) .none kV_z55 dc_z55 pm_z55 an_z55 cd_z55 ct_z55, f_z54, PySem.W.fnOf "_law_graph" "_law_graph" (defArgs s_z54) (defBody s_z54) (defScope s_z54) .none kV_z54 dc_z54 pm_z54 an_z54 cd_z54 ct_z54, f_z56, PySem.W.fnOf "_law_thing" "_law_thing" (defArgs s_z56) (defBody s_z56) (defScope s_z56) .none kV_z56 dc_z56 pm_z56 an_z56 cd_z56 ct_z56, f_z52, PySem.W.fnOf "_law_closed" "_law_closed" (defArgs s_z52) (defBody s_z52) (defScope s_z52) .none kV_z52 dc_z52 pm_z52 an_z52 cd_z52 ct_z52, f_z53, PySem.W.fnOf "_law_dark" "_law_dark" (defArgs s_z53) (defBody s_z53) (defScope s_z53) .none kV_z53 dc_z53 pm_z53 an_z53 cd_z53 ct_z53, f_law, PySem.W.fnOf "law" "law" (defArgs s_law) (defBody s_law) (defScope s_law) .none kV_law dc_law pm_law an_law cd_law ct_law, C_Thing, C_PlainThing, C_PairThing, C_Marking, C_Rooms, C_Memory, t_NOTHING, t_KIND_BITS, t_MARK_BIT, t_WORDS_BIT, t_SIZE_FROM, t_SORTS, t_SERIAL_AT, t_WORDS_AT, kc_z5, pc_z5⟩ := by
    exact {
      f_z48 := F_z48,
      b_z48 := B_z48,
      m_z48 := PySem.W.mg_of X G a_z48,
      f_z57 := F_z57,
      b_z57 := B_z57,
      m_z57 := PySem.W.mg_of X G a_z57,
      f_z39 := F_z39,
      b_z39 := B_z39,
      mk_Thing := ⟨mi_Thing, a_z39, i_z39, kc_Thing⟩,
      f_z40 := F_z40,
      b_z40 := B_z40,
      me_z40 := ⟨a_z40, i_z40, k_z40⟩,
      f_z37 := F_z37,
      b_z37 := B_z37,
      me_z37 := ⟨a_z37, i_z37, k_z37⟩,
      f_z38 := F_z38,
      b_z38 := B_z38,
      me_z38 := ⟨a_z38, i_z38, k_z38⟩,
      f_z41 := F_z41,
      b_z41 := B_z41,
      me_z41 := ⟨a_z41, i_z41, k_z41⟩,
      f_z42 := F_z42,
      b_z42 := B_z42,
      me_z42 := ⟨a_z42, i_z42, k_z42⟩,
      f_z28 := F_z28,
      b_z28 := B_z28,
      mk_PlainThing := ⟨mi_PlainThing, a_z28, i_z28, kc_PlainThing⟩,
      f_z27 := F_z27,
      b_z27 := B_z27,
      me_z27 := ⟨a_z27, i_z27, k_z27⟩,
      f_z29 := F_z29,
      b_z29 := B_z29,
      me_z29 := ⟨a_z29, i_z29, k_z29⟩,
      f_z25 := F_z25,
      b_z25 := B_z25,
      mk_PairThing := ⟨mi_PairThing, a_z25, i_z25, kc_PairThing⟩,
      f_z26 := F_z26,
      b_z26 := B_z26,
      me_z26 := ⟨a_z26, i_z26, k_z26⟩,
      f_z59 := F_z59,
      b_z59 := B_z59,
      m_z59 := PySem.W.mg_of X G a_z59,
      f_z62 := F_z62,
      b_z62 := B_z62,
      m_z62 := PySem.W.mg_of X G a_z62,
      f_z58 := F_z58,
      b_z58 := B_z58,
      m_z58 := PySem.W.mg_of X G a_z58,
      f_z4 := F_z4,
      b_z4 := B_z4,
      mk_Marking := ⟨mi_Marking, a_z4, i_z4, kc_Marking⟩,
      f_z6 := F_z6,
      b_z6 := B_z6,
      me_z6 := ⟨a_z6, i_z6, k_z6⟩,
      f_z7 := F_z7,
      b_z7 := B_z7,
      me_z7 := ⟨a_z7, i_z7, k_z7⟩,
      f_z3 := F_z3,
      b_z3 := B_z3,
      me_z3 := ⟨a_z3, i_z3, k_z3⟩,
      f_z10 := F_z10,
      b_z10 := B_z10,
      me_z10 := ⟨a_z10, i_z10, k_z10⟩,
      f_z0 := F_z0,
      b_z0 := B_z0,
      me_z0 := ⟨a_z0, i_z0, k_z0⟩,
      f_z1 := F_z1,
      b_z1 := B_z1,
      me_z1 := ⟨a_z1, i_z1, k_z1⟩,
      f_z5 := F_z5,
      b_z5 := B_z5,
      me_z5 := ⟨a_z5, i_z5, k_z5⟩,
      f_z9 := F_z9,
      b_z9 := B_z9,
      me_z9 := ⟨a_z9, i_z9, k_z9⟩,
      f_z8 := F_z8,
      b_z8 := B_z8,
      me_z8 := ⟨a_z8, i_z8, k_z8⟩,
      f_z2 := F_z2,
      b_z2 := B_z2,
      me_z2 := ⟨a_z2, i_z2, k_z2⟩,
      f_z46 := F_z46,
      b_z46 := B_z46,
      m_z46 := PySem.W.mg_of X G a_z46,
      f_z49 := F_z49,
      b_z49 := B_z49,
      m_z49 := PySem.W.mg_of X G a_z49,
      f_z60 := F_z60,
      b_z60 := B_z60,
      m_z60 := PySem.W.mg_of X G a_z60,
      f_z47 := F_z47,
      b_z47 := B_z47,
      m_z47 := PySem.W.mg_of X G a_z47,
      f_z45 := F_z45,
      b_z45 := B_z45,
      m_z45 := PySem.W.mg_of X G a_z45,
      f_z64 := F_z64,
      b_z64 := B_z64,
      m_z64 := PySem.W.mg_of X G a_z64,
      f_z65 := F_z65,
      b_z65 := B_z65,
      m_z65 := PySem.W.mg_of X G a_z65,
      f_z63 := F_z63,
      b_z63 := B_z63,
      m_z63 := PySem.W.mg_of X G a_z63,
      f_z33 := F_z33,
      b_z33 := B_z33,
      mk_Rooms := ⟨mi_Rooms, a_z33, i_z33, kc_Rooms⟩,
      f_z31 := F_z31,
      b_z31 := B_z31,
      me_z31 := ⟨a_z31, i_z31, k_z31⟩,
      f_z32 := F_z32,
      b_z32 := B_z32,
      me_z32 := ⟨a_z32, i_z32, k_z32⟩,
      f_z30 := F_z30,
      b_z30 := B_z30,
      me_z30 := ⟨a_z30, i_z30, k_z30⟩,
      f_z34 := F_z34,
      b_z34 := B_z34,
      me_z34 := ⟨a_z34, i_z34, k_z34⟩,
      f_z36 := F_z36,
      b_z36 := B_z36,
      me_z36 := ⟨a_z36, i_z36, k_z36⟩,
      f_z35 := F_z35,
      b_z35 := B_z35,
      me_z35 := ⟨a_z35, i_z35, k_z35⟩,
      f_z44 := F_z44,
      b_z44 := B_z44,
      m_z44 := PySem.W.mg_of X G a_z44,
      f_z61 := F_z61,
      b_z61 := B_z61,
      m_z61 := PySem.W.mg_of X G a_z61,
      f_z66 := F_z66,
      b_z66 := B_z66,
      m_z66 := PySem.W.mg_of X G a_z66,
      f_z43 := F_z43,
      b_z43 := B_z43,
      m_z43 := PySem.W.mg_of X G a_z43,
      f_z13 := F_z13,
      b_z13 := B_z13,
      mk_Memory := ⟨mi_Memory, a_z13, i_z13, kc_Memory⟩,
      f_z17 := F_z17,
      b_z17 := B_z17,
      me_z17 := ⟨a_z17, i_z17, k_z17⟩,
      f_z11 := F_z11,
      b_z11 := B_z11,
      me_z11 := ⟨a_z11, i_z11, k_z11⟩,
      f_z12 := F_z12,
      b_z12 := B_z12,
      me_z12 := ⟨a_z12, i_z12, k_z12⟩,
      f_z23 := F_z23,
      b_z23 := B_z23,
      me_z23 := ⟨a_z23, i_z23, k_z23⟩,
      f_z24 := F_z24,
      b_z24 := B_z24,
      me_z24 := ⟨a_z24, i_z24, k_z24⟩,
      f_z18 := F_z18,
      b_z18 := B_z18,
      me_z18 := ⟨a_z18, i_z18, k_z18⟩,
      f_z21 := F_z21,
      b_z21 := B_z21,
      me_z21 := ⟨a_z21, i_z21, k_z21⟩,
      f_z22 := F_z22,
      b_z22 := B_z22,
      me_z22 := ⟨a_z22, i_z22, k_z22⟩,
      f_z14 := F_z14,
      b_z14 := B_z14,
      me_z14 := ⟨a_z14, i_z14, k_z14⟩,
      f_z20 := F_z20,
      b_z20 := B_z20,
      me_z20 := ⟨a_z20, i_z20, k_z20⟩,
      f_z19 := F_z19,
      b_z19 := B_z19,
      me_z19 := ⟨a_z19, i_z19, k_z19⟩,
      f_z15 := F_z15,
      b_z15 := B_z15,
      me_z15 := ⟨a_z15, i_z15, k_z15⟩,
      f_z16 := F_z16,
      b_z16 := B_z16,
      me_z16 := ⟨a_z16, i_z16, k_z16⟩,
      f_z51 := F_z51,
      b_z51 := B_z51,
      m_z51 := PySem.W.mg_of X G a_z51,
      f_z55 := F_z55,
      b_z55 := B_z55,
      m_z55 := PySem.W.mg_of X G a_z55,
      f_z54 := F_z54,
      b_z54 := B_z54,
      m_z54 := PySem.W.mg_of X G a_z54,
      f_z56 := F_z56,
      b_z56 := B_z56,
      m_z56 := PySem.W.mg_of X G a_z56,
      f_z52 := F_z52,
      b_z52 := B_z52,
      m_z52 := PySem.W.mg_of X G a_z52,
      f_z53 := F_z53,
      b_z53 := B_z53,
      m_z53 := PySem.W.mg_of X G a_z53,
      f_law := F_law,
      m_law := PySem.W.mg_of X G a_law,
      me_PlainThing_sort_of := ⟨h_PlainThing_sort_of, i_z40, k_z40⟩,
      me_PlainThing_fields := ⟨h_PlainThing_fields, i_z37, k_z37⟩,
      me_PlainThing_waits := ⟨h_PlainThing_waits, i_z41, k_z41⟩,
      me_PairThing_sort_of := ⟨h_PairThing_sort_of, i_z40, k_z40⟩,
      me_PairThing_fields := ⟨h_PairThing_fields, i_z37, k_z37⟩,
      me_PairThing_holds := ⟨h_PairThing_holds, i_z38, k_z38⟩,
      me_PairThing_words := ⟨h_PairThing_words, i_z42, k_z42⟩,
      cf_Thing_init := ⟨cf1_Thing_init, cf2_Thing_init, cf3_Thing_init, k_z39⟩,
      cl_Thing := ⟨pg_Thing, hd_Thing, po_Thing, sa_Thing⟩,
      mc_Thing := PySem.W.mg_of X G cc_Thing,
      na_Thing_called := na_Thing_called,
      na_Thing_parts := na_Thing_parts,
      cl_PlainThing := ⟨pg_PlainThing, hd_PlainThing, po_PlainThing, sa_PlainThing⟩,
      mc_PlainThing := PySem.W.mg_of X G cc_PlainThing,
      na_PlainThing_called := na_PlainThing_called,
      na_PlainThing_parts := na_PlainThing_parts,
      na_PlainThing_last_words := na_PlainThing_last_words,
      cl_PairThing := ⟨pg_PairThing, hd_PairThing, po_PairThing, sa_PairThing⟩,
      mc_PairThing := PySem.W.mg_of X G cc_PairThing,
      na_PairThing_called := na_PairThing_called,
      na_PairThing_parts := na_PairThing_parts,
      cl_Marking := ⟨pg_Marking, hd_Marking, po_Marking, sa_Marking⟩,
      mc_Marking := PySem.W.mg_of X G cc_Marking,
      na_Marking_memory := na_Marking_memory,
      na_Marking_grey_places := na_Marking_grey_places,
      cl_Rooms := ⟨pg_Rooms, hd_Rooms, po_Rooms, sa_Rooms⟩,
      mc_Rooms := PySem.W.mg_of X G cc_Rooms,
      na_Rooms_many := na_Rooms_many,
      na_Rooms_cells := na_Rooms_cells,
      na_Rooms_inside := na_Rooms_inside,
      cl_Memory := ⟨pg_Memory, hd_Memory, po_Memory, sa_Memory⟩,
      mc_Memory := PySem.W.mg_of X G cc_Memory,
      na_Memory_rooms := na_Memory_rooms,
      na_Memory_begins := na_Memory_begins,
      c_NOTHING := PySem.W.mg_of X G g_NOTHING,
      d_NOTHING := ⟨_, gk_NOTHING, rfl, rfl⟩,
      q_NOTHING := fun H => .inr ⟨_, _, _, gk_NOTHING, rfl, rfl, (by show 1 ≤ sizeLine; decide), (.cons ⟨_, rfl⟩ Paired.nil)⟩,
      c_KIND_BITS := PySem.W.mg_of X G g_KIND_BITS,
      c_MARK_BIT := PySem.W.mg_of X G g_MARK_BIT,
      c_WORDS_BIT := PySem.W.mg_of X G g_WORDS_BIT,
      c_SIZE_FROM := PySem.W.mg_of X G g_SIZE_FROM,
      c_SORTS := PySem.W.mg_of X G g_SORTS,
      d_SORTS := ⟨_, gk_SORTS, rfl, rfl⟩,
      q_SORTS := fun H => .inr ⟨_, _, _, gk_SORTS, rfl, rfl, (by show 3 ≤ sizeLine; decide), (.cons ⟨_, rfl⟩ (.cons ⟨_, rfl⟩ (.cons ⟨_, rfl⟩ Paired.nil)))⟩,
      c_SERIAL_AT := PySem.W.mg_of X G g_SERIAL_AT,
      c_WORDS_AT := PySem.W.mg_of X G g_WORDS_AT,
      n_enumerate := PySem.W.mg_none_of X G n_enumerate,
      n_len := PySem.W.mg_none_of X G n_len,
      n_list := PySem.W.mg_none_of X G n_list,
      n_min := PySem.W.mg_none_of X G n_min,
      n_range := PySem.W.mg_none_of X G n_range,
      n_sorted := PySem.W.mg_none_of X G n_sorted,
      lc_z5 := lk_Marking_pairs_by_serial,
      lh_z5 := lh_z5 }
  exact ⟨_, fun s v => .of_eq rfl, fun b hb => by rcases lall b hb with rfl <;> exact ⟨_, by assumption⟩, fun base _ _ B => ok_law T B lt_Marking_pairs_by_serial⟩
theorem walk {l : PySem.W.OpenLaw} {q : Program} {loose : List Str} {XP : (Str → Option Value) → Heap → Prop} {YP : World → Heap → Prop} {d : DefRec} {K : Params → PySem.W.Frag} {ts : List Addr} (hn : l.most = some 63) (hdf : d.params.defaults = [])
    (hY : ∀ (w : World) (h : Heap), YP w h → (K w.params).In h) (hY2 : ∀ (w : World) (h : Heap), YP w h → ∀ b ∈ ts, h.get? b = some (PySem.W.tabObj #[])) (hKt : ∀ (w : World), ∀ b ∈ ts, (K w.params).lookup b = none) (hst : ∀ b ∈ ts, b ≠ cStatics)
    (F : ∀ (w : World) (mg : Str → Option Value) (fa : Addr) (h : Heap), (K w.params).In h → h.Ns mainGlobals mg → mg d.name = some (.ref fa) →
      ∃ fd : FuncData, (∀ (s : Shared) (u : Value), BindsTo s fd ⟨[u], []⟩ [("_law_script", u)]) ∧ (∀ b ∈ ts, ∃ c, PySem.W.codeHdIn (K w.params) c b = true) ∧ ∀ base : Heap, (K w.params).In base → base.Ns mainGlobals mg → BM mg base → FnOk l.prog w (K w.params) mg base CX0 15 fa fd ["_law_script"] (sp_law ts (K w.params))) :
    PySem.W.WalkO q loose XP YP l.row.toRowW d [] (fun f vs => PySem.call f vs) :=
  L2.walk_ofT (n := 63) (k := 15) (x := "_law_script") (CX := CX0) (sp := sp_law ts) hn (by decide) hdf ⟨rfl, by decide, by decide⟩ hY hY2 hKt hst F (fun _ _ a ns hl hO hS => ⟨a, ns, rfl, hS, hl, hO.2, fun _ => rfl⟩) fun _ _ _ _ z => z
end K37
namespace PySem.W.Fast
def tw10003725293997954881:=()
def tw10010894570650676323:=()
def tw10017121114543480245:=()
def tw10040723116449495365:=()
def tw10050525097377056049:=()
def tw10076457948739572505:=()
def tw1014490461435292128:=()
def tw10154870549508821725:=()
def tw1016794809208678655:=()
def tw10208315730116762325:=()
def tw10248466338438511624:=()
def tw10249261290955172638:=()
def tw10260641111709551632:=()
def tw10291463456574137178:=()
def tw10294559953145927595:=()
def tw10304292235480575683:=()
def tw10307952245912772902:=()
def tw10310832709098945314:=()
def tw10336954926949871805:=()
def tw10387122449786267567:=()
def tw10418897609546103743:=()
def tw10448112574964601532:=()
def tw10460832894551797964:=()
def tw10467063635982610954:=()
def tw10483829522225543191:=()
def tw10486799308673079556:=()
def tw10498416637125149877:=()
def tw10507762758885269168:=()
def tw10509382605920282658:=()
def tw10529783481562938254:=()
def tw10534982405189882994:=()
def tw10595499399400618839:=()
def tw10596098213379902144:=()
def tw10660100296906178662:=()
def tw10713029709749861738:=()
def tw10745452771117124152:=()
def tw10788814944467155180:=()
def tw1082309785562102376:=()
def tw10858503406022953502:=()
def tw10888044513062976348:=()
def tw10889387632249207485:=()
def tw10899728135310318211:=()
def tw10919013615436214852:=()
def tw10944905729706537068:=()
def tw10950498987997185127:=()
def tw10964595665925029900:=()
def tw10975323357198570111:=()
def tw11027040438278026924:=()
def tw11027816507012357427:=()
def tw11068783319574973625:=()
def tw11088964390274966526:=()
def tw11106807667039487577:=()
def tw1111804292251613443:=()
def tw1114713614829730865:=()
def tw11158130863058868799:=()
def tw11184057378853185079:=()
def tw11211394150277312118:=()
def tw11224515233689093825:=()
def tw11264132623140980335:=()
def tw11277704052014291929:=()
def tw11286428351338567193:=()
def tw11347990621503569918:=()
def tw11390295712221369585:=()
def tw11399149097522565281:=()
def tw11399811540001557282:=()
def tw11478775170233368292:=()
def tw11489984924983409444:=()
def tw11491157430549604002:=()
def tw11540264086058123748:=()
def tw11542866139319569170:=()
def tw11598564881840003469:=()
def tw11654792732956138562:=()
def tw11667054524021582142:=()
def tw11712588307841462640:=()
def tw11742651898259739357:=()
def tw11758472098744128946:=()
def tw11811301151134701019:=()
def tw11826008350649442334:=()
def tw11901269435650859933:=()
def tw11921351173147633923:=()
def tw11922234189004126501:=()
def tw11937193239403878930:=()
def tw11967127375159160399:=()
def tw11985961471657152179:=()
def tw11990663146242081037:=()
def tw12076909099540436900:=()
def tw12085046987644384720:=()
def tw12105063922171776173:=()
def tw12112697412107702073:=()
def tw12113899580547917654:=()
def tw12137740236191250445:=()
def tw12152390133377865767:=()
def tw12153565349066544777:=()
def tw12190509865739827429:=()
def tw12239067165223044063:=()
def tw12245287664060659683:=()
def tw12326753948423197220:=()
def tw1234589858010395343:=()
def tw12347444835727658921:=()
def tw12367529936446219417:=()
def tw12376923639339525839:=()
def tw12389144389527114518:=()
def tw12406444653773053162:=()
def tw12420341951694427246:=()
def tw12429895452299409109:=()
def tw12480785551186939877:=()
def tw12516521486248309492:=()
def tw12557493702027696288:=()
def tw1260240473501481298:=()
def tw12605110648614391437:=()
def tw12618031228530512492:=()
def tw12636021327629508552:=()
def tw12702455105443468992:=()
def tw12735277185752255156:=()
def tw12816243049076261552:=()
def tw12845561231334563295:=()
def tw12906179959582578311:=()
def tw1291268631658476434:=()
def tw12955221562893577515:=()
def tw12961435971940211329:=()
def tw12993969834990205230:=()
def tw13022926816503343964:=()
def tw13036084132406242948:=()
def tw13080798214277389595:=()
def tw13096337350582753990:=()
def tw13131503271397299438:=()
def tw13211271134793581915:=()
def tw13247072790615063274:=()
def tw13251736118066546367:=()
def tw13271617874465288641:=()
def tw13288603186858193763:=()
def tw13324987510961311164:=()
def tw1333351324918351993:=()
def tw13334028765194322816:=()
def tw13349725566765746450:=()
def tw13395185579107470903:=()
def tw13436187428691598833:=()
def tw13441654572747570809:=()
def tw13451006190958511523:=()
def tw13465685098224723207:=()
def tw13531455064652891740:=()
def tw13566238345740306083:=()
def tw13682295483337889784:=()
def tw13699759530960428967:=()
def tw13712654970626006118:=()
def tw13742250530717252104:=()
def tw13787285511411852955:=()
def tw13798106117279072966:=()
def tw13805920829533961667:=()
def tw13809866844767656017:=()
def tw13871269101552398207:=()
def tw13912841357576263445:=()
def tw13969930132442672287:=()
def tw13992029486815951181:=()
def tw13993996070073737831:=()
def tw14093191435474316874:=()
def tw1409817433637226167:=()
def tw14104951372607131148:=()
def tw14120504328017833787:=()
def tw14163420619912309394:=()
def tw14180004961436408226:=()
def tw14196622903692184347:=()
def tw14233153665970399690:=()
def tw14285054932803986249:=()
def tw14339879453272483466:=()
def tw14354472461819148229:=()
def tw14374738983616756955:=()
def tw14380354132806841416:=()
def tw1442190900047565828:=()
def tw1444872484625793401:=()
def tw1445246926699871011:=()
def tw14461197425152343728:=()
def tw14482336235418631833:=()
def tw14483254651565138193:=()
def tw14498088720044095397:=()
def tw14502493183116299538:=()
def tw14520590322951650816:=()
def tw14598758110912038067:=()
def tw14624626718141671874:=()
def tw14634477033663201951:=()
def tw14677069795889352693:=()
def tw14719970669476726948:=()
def tw14762474871546782983:=()
def tw14792006313392399934:=()
def tw1484199091097031506:=()
def tw14843593378428137691:=()
def tw1485503056454416579:=()
def tw14871638625104898247:=()
def tw14911388656891344887:=()
def tw14917061492954433604:=()
def tw14926185883805499246:=()
def tw150048411519916405:=()
def tw15043827219608530948:=()
def tw15060868287716368901:=()
def tw15087777454988568397:=()
def tw15121130945899294229:=()
def tw15123872995994800990:=()
def tw15155870900066130923:=()
def tw15159548116577392563:=()
def tw1516603625253788120:=()
def tw15172644691313475606:=()
def tw15173144664270374708:=()
def tw15183798881314131874:=()
def tw15207020750706295385:=()
def tw15271967424497567433:=()
def tw15274003046738707880:=()
def tw15292936429637908590:=()
def tw15298523913562195147:=()
def tw15322446706784906237:=()
def tw15441795341378939363:=()
def tw15462311630103078086:=()
def tw15519939930514015778:=()
def tw15523375579223933765:=()
def tw15540271416937395161:=()
def tw15560232413693292234:=()
def tw15566000197721756711:=()
def tw15566496567730495163:=()
def tw15575275490592911876:=()
def tw15575336508452775029:=()
def tw15607865179826061108:=()
def tw15625038958357022256:=()
def tw15656131823774184131:=()
def tw15663985569001284076:=()
def tw15709672728786433070:=()
def tw15716788040624340298:=()
def tw15738979191062755023:=()
def tw15747355212691173977:=()
def tw15751011481881849282:=()
def tw1575528286716062487:=()
def tw15767740463342498369:=()
def tw15796829257953055927:=()
def tw15836674675076864742:=()
def tw15916394296989751589:=()
def tw15926498706913200645:=()
def tw1597572832922079380:=()
def tw16008398355065522894:=()
def tw16009720751081903301:=()
def tw16040482646495022712:=()
def tw16064024897534927754:=()
def tw16072112531167997982:=()
def tw16084512782507582413:=()
def tw16099693142847523346:=()
def tw16120486548434507927:=()
def tw16139757795477031783:=()
def tw16166865881753428627:=()
def tw16209938310793894734:=()
def tw16220912753169258136:=()
def tw16221102833206644424:=()
def tw16234596344675092461:=()
def tw16236411171437323628:=()
def tw16290319552711606457:=()
def tw16295131343798892750:=()
def tw16305285945330391595:=()
def tw1631122323966534916:=()
def tw1631803443043226320:=()
def tw1632231775733369829:=()
def tw16324292881651070396:=()
def tw1640838760118981588:=()
def tw16419770401269162461:=()
def tw16461831133663422515:=()
def tw16502055241028249525:=()
def tw16507682276836824115:=()
def tw1651487679407317701:=()
def tw16521142030066098236:=()
def tw16550462424058527232:=()
def tw1669189827580592960:=()
def tw16722965346874965008:=()
def tw16792239120422186786:=()
def tw16826936084096556895:=()
def tw16830583376344684139:=()
def tw16845572305557854178:=()
def tw1687375879379474766:=()
def tw16896493255439564600:=()
def tw16913488074476767172:=()
def tw16931913605898098054:=()
def tw17037592267858842834:=()
def tw17059231131615483444:=()
def tw17072377106393121853:=()
def tw17075632216870084215:=()
def tw17096217801566993085:=()
def tw1710398193395241902:=()
def tw17131248027757769915:=()
def tw17164106908402185150:=()
def tw17185633585245034662:=()
def tw17220127333693927785:=()
def tw17221797001668566423:=()
def tw17238150299319153733:=()
def tw17262588709124597440:=()
def tw17270140487509847677:=()
def tw17293067756024661677:=()
def tw17301618015110463891:=()
def tw17316241187596190629:=()
def tw17327566244513074308:=()
def tw17470281107172018886:=()
def tw17507941206579289668:=()
def tw17534967550780966017:=()
def tw17552178587123124144:=()
def tw17558278969572760540:=()
def tw1756858987301741720:=()
def tw17569736374027175926:=()
def tw17593644306209085812:=()
def tw17593958883701398137:=()
def tw17604392599429589170:=()
def tw17604894461042079840:=()
def tw17646600619048781141:=()
def tw17667780248449105929:=()
def tw17673165258269825012:=()
def tw17680051795894969566:=()
def tw176873208638189998:=()
def tw17709082834312626315:=()
def tw17712229831601968645:=()
def tw17788999502865501007:=()
def tw17795261052692691244:=()
def tw17815642971756619374:=()
def tw17851310063530886473:=()
def tw17864804477414014493:=()
def tw17881712467029953664:=()
def tw17890473914873396239:=()
def tw17900194406514260082:=()
def tw17993761842267341219:=()
def tw18004583795277761820:=()
def tw18032186080555627643:=()
def tw18077673030182024784:=()
def tw1816413077487580811:=()
def tw18185991459539386984:=()
def tw18208161775740550720:=()
def tw18215115089886628276:=()
def tw18229190464055962848:=()
def tw18229253908051917414:=()
def tw18261989903414736648:=()
def tw182644013486697978:=()
def tw18325722855320679352:=()
def tw18327594087959717156:=()
def tw18338382623550158497:=()
def tw18345665286914733415:=()
def tw18348832428761512296:=()
def tw18367031793014800480:=()
def tw18378356730554735317:=()
def tw18394832068635763353:=()
def tw1846265614316050406:=()
def tw1871029537956734214:=()
def tw189712498417724864:=()
def tw1899354470008809236:=()
def tw192203857514671442:=()
def tw198207436066897393:=()
def tw2014174286569870062:=()
def tw203809237223252025:=()
def tw2065566353139801520:=()
def tw2070617198788748220:=()
def tw2073605141761352381:=()
def tw2076114077845711031:=()
def tw2122895767695130953:=()
def tw212324477553013308:=()
def tw2215388643642977336:=()
def tw2219666615327250276:=()
def tw2279651549469180718:=()
def tw2286708593908220166:=()
def tw2291579628677073849:=()
def tw2312403739683427008:=()
def tw2322111192663640204:=()
def tw2325785071006125112:=()
def tw2387984638067323094:=()
def tw2403484953797598620:=()
def tw241873014029327103:=()
def tw2468063452192296102:=()
def tw2496531905947637403:=()
def tw2496958746354084252:=()
def tw2550957067012804591:=()
def tw2569717910291471338:=()
def tw2619930119451304209:=()
def tw2623138811308946012:=()
def tw2649195220705652594:=()
def tw2650098811338864719:=()
def tw2692472523684940329:=()
def tw2703398846770361949:=()
def tw2707074879623456674:=()
def tw2758882083219263461:=()
def tw2764373355496977265:=()
def tw2778255151318021670:=()
def tw2876363107309632688:=()
def tw2880228180790310922:=()
def tw2940542242528048726:=()
def tw3016198470469623175:=()
def tw3069902832364754702:=()
def tw3076114809041436988:=()
def tw3106444391327739658:=()
def tw3150163924009506419:=()
def tw3194369937042431091:=()
def tw3222611637933579742:=()
def tw3229279927210974245:=()
def tw3237678198602552720:=()
def tw3291080732251780053:=()
def tw3310743195718703626:=()
def tw3313718621686316891:=()
def tw3315622613856216482:=()
def tw3346955878468568992:=()
def tw3430244162282855440:=()
def tw3468169155420440753:=()
def tw3494113032547410467:=()
def tw3525846898823347034:=()
def tw3560225460482269112:=()
def tw3571686600367832663:=()
def tw362408165991651730:=()
def tw3689296951632532430:=()
def tw371655901889999627:=()
def tw3725937353082528548:=()
def tw3733999884909990800:=()
def tw3755513937131647632:=()
def tw3845343762569128876:=()
def tw3885771280360810814:=()
def tw3927701131774965233:=()
def tw3983893567341715401:=()
def tw402366303568205599:=()
def tw4039318327237699064:=()
def tw4047845322174223131:=()
def tw4048245792613667529:=()
def tw4052176508648922091:=()
def tw4117220733736300427:=()
def tw4122652591989524369:=()
def tw4126042340159360197:=()
def tw4167922947101210835:=()
def tw4177446930610237131:=()
def tw4184311728695100949:=()
def tw4185766201560401548:=()
def tw4190678113932597360:=()
def tw4204981646050825242:=()
def tw4206136688228693517:=()
def tw4208965039938687220:=()
def tw4221010040666383603:=()
def tw4261795035585552428:=()
def tw4272267964910484461:=()
def tw4277544079811274537:=()
def tw4282347643098522029:=()
def tw4326767637154839597:=()
def tw4361179012643410122:=()
def tw4394706380742265927:=()
def tw4395085754105190482:=()
def tw4452815733021790801:=()
def tw4475993549278924240:=()
def tw4544777630744187453:=()
def tw4615171308351563309:=()
def tw4620925941527723514:=()
def tw4627785901720990169:=()
def tw4700388027798942846:=()
def tw4738615220572680588:=()
def tw4757180354184747840:=()
def tw4804396576060526131:=()
def tw4829288522251125717:=()
def tw4831064547909126145:=()
def tw4836538403168074554:=()
def tw4839703221510703714:=()
def tw485037301707884654:=()
def tw4873716227546407192:=()
def tw4934524159307245132:=()
def tw4950238512805424609:=()
def tw4959563538545826818:=()
def tw5015196422579211146:=()
def tw5066979040748217086:=()
def tw5078210752470324903:=()
def tw5087277242216044346:=()
def tw5124385325767446489:=()
def tw5124411549845914638:=()
def tw5127764365372024173:=()
def tw5142058178369227856:=()
def tw5163882430394787301:=()
def tw5165828561056076232:=()
def tw5166201698193984428:=()
def tw5300452962742735560:=()
def tw536826857624133267:=()
def tw5434697494730721757:=()
def tw5458150510508199478:=()
def tw5465202937225224885:=()
def tw5470964816674795518:=()
def tw5472519717705848563:=()
def tw5521332579145131577:=()
def tw5556218652183250215:=()
def tw5603481423473581722:=()
def tw5631765989494858296:=()
def tw5636381674860493997:=()
def tw5670057320631319837:=()
def tw5691496661302288051:=()
def tw5696783779655603202:=()
def tw5706324393407454140:=()
def tw5786290746369173537:=()
def tw5852890785899963192:=()
def tw5964926581894988472:=()
def tw6015702858735047104:=()
def tw6033891723251130061:=()
def tw6049165437596104687:=()
def tw6065826196615677728:=()
def tw6121200852267310260:=()
def tw613677685587614256:=()
def tw6146049091875865892:=()
def tw6244653023105517136:=()
def tw6261764078052741813:=()
def tw6271205470353082437:=()
def tw6296905246956380436:=()
def tw6318547017887425555:=()
def tw6324828553711910083:=()
def tw6351538175886541248:=()
def tw6362239043084515894:=()
def tw6371594698687217053:=()
def tw6390669847314504135:=()
def tw6400632417167402630:=()
def tw6425310878606247731:=()
def tw6430432127196265698:=()
def tw6481856353882617349:=()
def tw6483894995398723522:=()
def tw6490519009802431498:=()
def tw6490734110931432210:=()
def tw6505197530221038935:=()
def tw6529478384415237198:=()
def tw6566404960697516746:=()
def tw6570473541435040086:=()
def tw6608789760910117694:=()
def tw6713773518558312879:=()
def tw6752875016932717629:=()
def tw6767816508226938501:=()
def tw6790133102605481957:=()
def tw6805337227241616924:=()
def tw6825140701593846228:=()
def tw6830046219367199781:=()
def tw6845520246861449371:=()
def tw7066478177815231552:=()
def tw7106093583963642897:=()
def tw7120617975096561252:=()
def tw7152983740869555682:=()
def tw7199631402811247664:=()
def tw7216774024945164668:=()
def tw7227563077123957195:=()
def tw725826662634825387:=()
def tw7343427964618562638:=()
def tw7354354565286154154:=()
def tw7354530794462929188:=()
def tw7355737007453029106:=()
def tw7364393061163145169:=()
def tw7370797389113308440:=()
def tw7373293982384211323:=()
def tw7398540171545313151:=()
def tw7420611475406429359:=()
def tw7485177897915614015:=()
def tw7490397596348338767:=()
def tw7536892337409063083:=()
def tw7626422287516997118:=()
def tw7632506699055765926:=()
def tw7673034873660012560:=()
def tw7679792033310393765:=()
def tw7707903439834290419:=()
def tw775875282959492379:=()
def tw7797711734384466823:=()
def tw7833161744645993468:=()
def tw7844332386118861241:=()
def tw787510031709171844:=()
def tw8004524897200719311:=()
def tw8066406998134467632:=()
def tw8088773364473805309:=()
def tw8098937968673576364:=()
def tw8115993912776644394:=()
def tw8146892166109294614:=()
def tw8164586599165631726:=()
def tw8254647942283303012:=()
def tw8281418603890209798:=()
def tw8310603447888268205:=()
def tw8313169540020316507:=()
def tw835568504101491746:=()
def tw8364067855260318369:=()
def tw8382361525559673411:=()
def tw8408997343737473382:=()
def tw8441680760894381684:=()
def tw847418990742714836:=()
def tw848563079287910282:=()
def tw8517488626425660813:=()
def tw8525652363950309354:=()
def tw8532207488197663483:=()
def tw8535561425963861142:=()
def tw8537657348191586656:=()
def tw8564153752969508830:=()
def tw8565018209918530931:=()
def tw8582636755435798982:=()
def tw8590901632300930484:=()
def tw8594608178031862685:=()
def tw8597348834130161159:=()
def tw8611664965511296797:=()
def tw866147447300683314:=()
def tw8667915523598264208:=()
def tw8676594395281488442:=()
def tw8702597236735486791:=()
def tw8739230601714146272:=()
def tw8798936286511762479:=()
def tw8836449632288040087:=()
def tw8838971785248806125:=()
def tw89097354228682952:=()
def tw898032052632075458:=()
def tw8986477725715212738:=()
def tw9025175742471678787:=()
def tw9034753974745371084:=()
def tw9047011111424775897:=()
def tw9088378597642125296:=()
def tw9090239626785100834:=()
def tw9098433374195362462:=()
def tw9101925382141866516:=()
def tw911449281315732417:=()
def tw9131290077616760100:=()
def tw9136142062359343119:=()
def tw9214951002595162907:=()
def tw922009155302388832:=()
def tw9242426311502787012:=()
def tw9270736335423447638:=()
def tw9300919781332808215:=()
def tw933534212240602136:=()
def tw9347759625344612544:=()
def tw9352837473154850590:=()
def tw9355784000984294898:=()
def tw9396613358562761195:=()
def tw9481143382986540918:=()
def tw9547293064297563891:=()
def tw9615612858562975048:=()
def tw963127275427731516:=()
def tw9649936455416678081:=()
def tw9658043435821252007:=()
def tw9680911161754644421:=()
def tw9711807863992240298:=()
def tw9724036881955512748:=()
def tw9773010282386818871:=()
def tw9840504511145680073:=()
def tw9872028493716384885:=()
def tw992007702886096029:=()
def tw9920102972093922933:=()
end PySem.W.Fast
namespace K37
end K37
open PySem PySem.W PyProof.Rows
set_option maxRecDepth 100000 in
set_option maxHeartbeats 0 in
theorem PySem.Challenge.cw_heapsafe_k37_drained_holds : PySem.Challenge.rw_heapsafe_k37_drained.Holds := by
  w_on; o_law; k_head; (case hw => w_witness2)
  k_fill
  refine K37.walk (l := PySem.Challenge.rw_heapsafe_k37_drained) rfl rfl (fun w h Y => PySem.W.km_in_of Y) (fun w h Y => PySem.W.km_tabs_of Y) ?T1 ?T2 ?F
  case T1 =>
    intro w b hb
    simp only [List.mem_cons, List.not_mem_nil, or_false] at hb
    rcases hb with rfl <;> kernel_rfl
  case T2 => decide
  case F =>
    intro w mg fa h KX G hmg
    refine' K37.all_mk KX G hmg ?x_cc_Thing ?x_cc_PlainThing ?x_cc_PairThing ?x_cc_Marking ?x_cc_Rooms ?x_cc_Memory ?x_a_z48 ?x_l_z48 ?x_co_z48 ?x_k_z48 ?x_a_z57 ?x_l_z57 ?x_co_z57 ?x_k_z57 ?x_a_z39 ?x_i_z39 ?x_l_z39 ?x_co_z39 ?x_k_z39 ?x_a_z40 ?x_i_z40 ?x_l_z40 ?x_co_z40 ?x_k_z40 ?x_a_z37 ?x_i_z37 ?x_l_z37 ?x_co_z37 ?x_k_z37 ?x_a_z38 ?x_i_z38 ?x_l_z38 ?x_co_z38 ?x_k_z38 ?x_a_z41 ?x_i_z41 ?x_l_z41 ?x_co_z41 ?x_k_z41 ?x_a_z42 ?x_i_z42 ?x_l_z42 ?x_co_z42 ?x_k_z42 ?x_a_z28 ?x_i_z28 ?x_l_z28 ?x_co_z28 ?x_k_z28 ?x_a_z27 ?x_i_z27 ?x_l_z27 ?x_co_z27 ?x_k_z27 ?x_a_z29 ?x_i_z29 ?x_l_z29 ?x_co_z29 ?x_k_z29 ?x_a_z25 ?x_i_z25 ?x_l_z25 ?x_co_z25 ?x_k_z25 ?x_a_z26 ?x_i_z26 ?x_l_z26 ?x_co_z26 ?x_k_z26 ?x_a_z59 ?x_l_z59 ?x_co_z59 ?x_k_z59 ?x_a_z62 ?x_l_z62 ?x_co_z62 ?x_k_z62 ?x_a_z58 ?x_l_z58 ?x_co_z58 ?x_k_z58 ?x_a_z4 ?x_i_z4 ?x_l_z4 ?x_co_z4 ?x_k_z4 ?x_a_z6 ?x_i_z6 ?x_l_z6 ?x_co_z6 ?x_k_z6 ?x_a_z7 ?x_i_z7 ?x_l_z7 ?x_co_z7 ?x_k_z7 ?x_a_z3 ?x_i_z3 ?x_l_z3 ?x_co_z3 ?x_k_z3 ?x_a_z10 ?x_i_z10 ?x_l_z10 ?x_co_z10 ?x_k_z10 ?x_a_z0 ?x_i_z0 ?x_l_z0 ?x_co_z0 ?x_k_z0 ?x_a_z1 ?x_i_z1 ?x_l_z1 ?x_co_z1 ?x_k_z1 ?x_a_z5 ?x_i_z5 ?x_l_z5 ?x_co_z5 ?x_k_z5 ?x_a_z9 ?x_i_z9 ?x_l_z9 ?x_co_z9 ?x_k_z9 ?x_a_z8 ?x_i_z8 ?x_l_z8 ?x_co_z8 ?x_k_z8 ?x_a_z2 ?x_i_z2 ?x_l_z2 ?x_co_z2 ?x_k_z2 ?x_a_z46 ?x_l_z46 ?x_co_z46 ?x_k_z46 ?x_a_z49 ?x_l_z49 ?x_co_z49 ?x_k_z49 ?x_a_z60 ?x_l_z60 ?x_co_z60 ?x_k_z60 ?x_a_z47 ?x_l_z47 ?x_co_z47 ?x_k_z47 ?x_a_z45 ?x_l_z45 ?x_co_z45 ?x_k_z45 ?x_a_z64 ?x_l_z64 ?x_co_z64 ?x_k_z64 ?x_a_z65 ?x_l_z65 ?x_co_z65 ?x_k_z65 ?x_a_z63 ?x_l_z63 ?x_co_z63 ?x_k_z63 ?x_a_z33 ?x_i_z33 ?x_l_z33 ?x_co_z33 ?x_k_z33 ?x_a_z31 ?x_i_z31 ?x_l_z31 ?x_co_z31 ?x_k_z31 ?x_a_z32 ?x_i_z32 ?x_l_z32 ?x_co_z32 ?x_k_z32 ?x_a_z30 ?x_i_z30 ?x_l_z30 ?x_co_z30 ?x_k_z30 ?x_a_z34 ?x_i_z34 ?x_l_z34 ?x_co_z34 ?x_k_z34 ?x_a_z36 ?x_i_z36 ?x_l_z36 ?x_co_z36 ?x_k_z36 ?x_a_z35 ?x_i_z35 ?x_l_z35 ?x_co_z35 ?x_k_z35 ?x_a_z44 ?x_l_z44 ?x_co_z44 ?x_k_z44 ?x_a_z61 ?x_l_z61 ?x_co_z61 ?x_k_z61 ?x_a_z66 ?x_l_z66 ?x_co_z66 ?x_k_z66 ?x_a_z43 ?x_l_z43 ?x_co_z43 ?x_k_z43 ?x_a_z13 ?x_i_z13 ?x_l_z13 ?x_co_z13 ?x_k_z13 ?x_a_z17 ?x_i_z17 ?x_l_z17 ?x_co_z17 ?x_k_z17 ?x_a_z11 ?x_i_z11 ?x_l_z11 ?x_co_z11 ?x_k_z11 ?x_a_z12 ?x_i_z12 ?x_l_z12 ?x_co_z12 ?x_k_z12 ?x_a_z23 ?x_i_z23 ?x_l_z23 ?x_co_z23 ?x_k_z23 ?x_a_z24 ?x_i_z24 ?x_l_z24 ?x_co_z24 ?x_k_z24 ?x_a_z18 ?x_i_z18 ?x_l_z18 ?x_co_z18 ?x_k_z18 ?x_a_z21 ?x_i_z21 ?x_l_z21 ?x_co_z21 ?x_k_z21 ?x_a_z22 ?x_i_z22 ?x_l_z22 ?x_co_z22 ?x_k_z22 ?x_a_z14 ?x_i_z14 ?x_l_z14 ?x_co_z14 ?x_k_z14 ?x_a_z20 ?x_i_z20 ?x_l_z20 ?x_co_z20 ?x_k_z20 ?x_a_z19 ?x_i_z19 ?x_l_z19 ?x_co_z19 ?x_k_z19 ?x_a_z15 ?x_i_z15 ?x_l_z15 ?x_co_z15 ?x_k_z15 ?x_a_z16 ?x_i_z16 ?x_l_z16 ?x_co_z16 ?x_k_z16 ?x_a_z51 ?x_l_z51 ?x_co_z51 ?x_k_z51 ?x_a_z55 ?x_l_z55 ?x_co_z55 ?x_k_z55 ?x_a_z54 ?x_l_z54 ?x_co_z54 ?x_k_z54 ?x_a_z56 ?x_l_z56 ?x_co_z56 ?x_k_z56 ?x_a_z52 ?x_l_z52 ?x_co_z52 ?x_k_z52 ?x_a_z53 ?x_l_z53 ?x_co_z53 ?x_k_z53 ?x_a_law ?x_l_law ?x_co_law ?x_k_law ?x_pg_Thing ?x_hd_Thing ?x_po_Thing ?x_sa_Thing ?x_mi_Thing ?x_kc_Thing ?x_na_Thing_called ?x_na_Thing_parts ?x_pg_PlainThing ?x_hd_PlainThing ?x_po_PlainThing ?x_sa_PlainThing ?x_mi_PlainThing ?x_kc_PlainThing ?x_na_PlainThing_called ?x_na_PlainThing_parts ?x_na_PlainThing_last_words ?x_pg_PairThing ?x_hd_PairThing ?x_po_PairThing ?x_sa_PairThing ?x_mi_PairThing ?x_kc_PairThing ?x_na_PairThing_called ?x_na_PairThing_parts ?x_pg_Marking ?x_hd_Marking ?x_po_Marking ?x_sa_Marking ?x_mi_Marking ?x_kc_Marking ?x_na_Marking_memory ?x_na_Marking_grey_places ?x_pg_Rooms ?x_hd_Rooms ?x_po_Rooms ?x_sa_Rooms ?x_mi_Rooms ?x_kc_Rooms ?x_na_Rooms_many ?x_na_Rooms_cells ?x_na_Rooms_inside ?x_pg_Memory ?x_hd_Memory ?x_po_Memory ?x_sa_Memory ?x_mi_Memory ?x_kc_Memory ?x_na_Memory_rooms ?x_na_Memory_begins ?x_g_NOTHING ?x_gk_NOTHING ?x_g_KIND_BITS ?x_g_MARK_BIT ?x_g_WORDS_BIT ?x_g_SIZE_FROM ?x_g_SORTS ?x_gk_SORTS ?x_g_SERIAL_AT ?x_g_WORDS_AT ?x_h_PlainThing_sort_of ?x_h_PlainThing_fields ?x_h_PlainThing_waits ?x_h_PairThing_sort_of ?x_h_PairThing_fields ?x_h_PairThing_holds ?x_h_PairThing_words ?x_lk_Marking_pairs_by_serial ?x_lo_Marking_pairs_by_serial ?x_lv_Marking_pairs_by_serial ?x_lh_z5 ?x_lt_Marking_pairs_by_serial ?x_lall ?x_cf1_Thing_init ?x_cf2_Thing_init ?x_cf3_Thing_init ?x_n_enumerate ?x_n_len ?x_n_list ?x_n_min ?x_n_range ?x_n_sorted
    (case x_cc_Thing => k_is)
    (case x_cc_PlainThing => k_is)
    (case x_cc_PairThing => k_is)
    (case x_cc_Marking => k_is)
    (case x_cc_Rooms => k_is)
    (case x_cc_Memory => k_is)
    (case x_a_z48 => k_is)
    (case x_l_z48 => k_is)
    (case x_co_z48 => k_is)
    (case x_k_z48 => k_is)
    (case x_a_z57 => k_is)
    (case x_l_z57 => k_is)
    (case x_co_z57 => k_is)
    (case x_k_z57 => k_is)
    (case x_a_z39 => k_is)
    (case x_i_z39 => k_is)
    (case x_l_z39 => k_is)
    (case x_co_z39 => k_is)
    (case x_k_z39 => k_is)
    (case x_a_z40 => k_is)
    (case x_i_z40 => k_is)
    (case x_l_z40 => k_is)
    (case x_co_z40 => k_is)
    (case x_k_z40 => k_is)
    (case x_a_z37 => k_is)
    (case x_i_z37 => k_is)
    (case x_l_z37 => k_is)
    (case x_co_z37 => k_is)
    (case x_k_z37 => k_is)
    (case x_a_z38 => k_is)
    (case x_i_z38 => k_is)
    (case x_l_z38 => k_is)
    (case x_co_z38 => k_is)
    (case x_k_z38 => k_is)
    (case x_a_z41 => k_is)
    (case x_i_z41 => k_is)
    (case x_l_z41 => k_is)
    (case x_co_z41 => k_is)
    (case x_k_z41 => k_is)
    (case x_a_z42 => k_is)
    (case x_i_z42 => k_is)
    (case x_l_z42 => k_is)
    (case x_co_z42 => k_is)
    (case x_k_z42 => k_is)
    (case x_a_z28 => k_is)
    (case x_i_z28 => k_is)
    (case x_l_z28 => k_is)
    (case x_co_z28 => k_is)
    (case x_k_z28 => k_is)
    (case x_a_z27 => k_is)
    (case x_i_z27 => k_is)
    (case x_l_z27 => k_is)
    (case x_co_z27 => k_is)
    (case x_k_z27 => k_is)
    (case x_a_z29 => k_is)
    (case x_i_z29 => k_is)
    (case x_l_z29 => k_is)
    (case x_co_z29 => k_is)
    (case x_k_z29 => k_is)
    (case x_a_z25 => k_is)
    (case x_i_z25 => k_is)
    (case x_l_z25 => k_is)
    (case x_co_z25 => k_is)
    (case x_k_z25 => k_is)
    (case x_a_z26 => k_is)
    (case x_i_z26 => k_is)
    (case x_l_z26 => k_is)
    (case x_co_z26 => k_is)
    (case x_k_z26 => k_is)
    (case x_a_z59 => k_is)
    (case x_l_z59 => k_is)
    (case x_co_z59 => k_is)
    (case x_k_z59 => k_is)
    (case x_a_z62 => k_is)
    (case x_l_z62 => k_is)
    (case x_co_z62 => k_is)
    (case x_k_z62 => k_is)
    (case x_a_z58 => k_is)
    (case x_l_z58 => k_is)
    (case x_co_z58 => k_is)
    (case x_k_z58 => k_is)
    (case x_a_z4 => k_is)
    (case x_i_z4 => k_is)
    (case x_l_z4 => k_is)
    (case x_co_z4 => k_is)
    (case x_k_z4 => k_is)
    (case x_a_z6 => k_is)
    (case x_i_z6 => k_is)
    (case x_l_z6 => k_is)
    (case x_co_z6 => k_is)
    (case x_k_z6 => k_is)
    (case x_a_z7 => k_is)
    (case x_i_z7 => k_is)
    (case x_l_z7 => k_is)
    (case x_co_z7 => k_is)
    (case x_k_z7 => k_is)
    (case x_a_z3 => k_is)
    (case x_i_z3 => k_is)
    (case x_l_z3 => k_is)
    (case x_co_z3 => k_is)
    (case x_k_z3 => k_is)
    (case x_a_z10 => k_is)
    (case x_i_z10 => k_is)
    (case x_l_z10 => k_is)
    (case x_co_z10 => k_is)
    (case x_k_z10 => k_is)
    (case x_a_z0 => k_is)
    (case x_i_z0 => k_is)
    (case x_l_z0 => k_is)
    (case x_co_z0 => k_is)
    (case x_k_z0 => k_is)
    (case x_a_z1 => k_is)
    (case x_i_z1 => k_is)
    (case x_l_z1 => k_is)
    (case x_co_z1 => k_is)
    (case x_k_z1 => k_is)
    (case x_a_z5 => k_is)
    (case x_i_z5 => k_is)
    (case x_l_z5 => k_is)
    (case x_co_z5 => k_is)
    (case x_k_z5 => k_is)
    (case x_a_z9 => k_is)
    (case x_i_z9 => k_is)
    (case x_l_z9 => k_is)
    (case x_co_z9 => k_is)
    (case x_k_z9 => k_is)
    (case x_a_z8 => k_is)
    (case x_i_z8 => k_is)
    (case x_l_z8 => k_is)
    (case x_co_z8 => k_is)
    (case x_k_z8 => k_is)
    (case x_a_z2 => k_is)
    (case x_i_z2 => k_is)
    (case x_l_z2 => k_is)
    (case x_co_z2 => k_is)
    (case x_k_z2 => k_is)
    (case x_a_z46 => k_is)
    (case x_l_z46 => k_is)
    (case x_co_z46 => k_is)
    (case x_k_z46 => k_is)
    (case x_a_z49 => k_is)
    (case x_l_z49 => k_is)
    (case x_co_z49 => k_is)
    (case x_k_z49 => k_is)
    (case x_a_z60 => k_is)
    (case x_l_z60 => k_is)
    (case x_co_z60 => k_is)
    (case x_k_z60 => k_is)
    (case x_a_z47 => k_is)
    (case x_l_z47 => k_is)
    (case x_co_z47 => k_is)
    (case x_k_z47 => k_is)
    (case x_a_z45 => k_is)
    (case x_l_z45 => k_is)
    (case x_co_z45 => k_is)
    (case x_k_z45 => k_is)
    (case x_a_z64 => k_is)
    (case x_l_z64 => k_is)
    (case x_co_z64 => k_is)
    (case x_k_z64 => k_is)
    (case x_a_z65 => k_is)
    (case x_l_z65 => k_is)
    (case x_co_z65 => k_is)
    (case x_k_z65 => k_is)
    (case x_a_z63 => k_is)
    (case x_l_z63 => k_is)
    (case x_co_z63 => k_is)
    (case x_k_z63 => k_is)
    (case x_a_z33 => k_is)
    (case x_i_z33 => k_is)
    (case x_l_z33 => k_is)
    (case x_co_z33 => k_is)
    (case x_k_z33 => k_is)
    (case x_a_z31 => k_is)
    (case x_i_z31 => k_is)
    (case x_l_z31 => k_is)
    (case x_co_z31 => k_is)
    (case x_k_z31 => k_is)
    (case x_a_z32 => k_is)
    (case x_i_z32 => k_is)
    (case x_l_z32 => k_is)
    (case x_co_z32 => k_is)
    (case x_k_z32 => k_is)
    (case x_a_z30 => k_is)
    (case x_i_z30 => k_is)
    (case x_l_z30 => k_is)
    (case x_co_z30 => k_is)
    (case x_k_z30 => k_is)
    (case x_a_z34 => k_is)
    (case x_i_z34 => k_is)
    (case x_l_z34 => k_is)
    (case x_co_z34 => k_is)
    (case x_k_z34 => k_is)
    (case x_a_z36 => k_is)
    (case x_i_z36 => k_is)
    (case x_l_z36 => k_is)
    (case x_co_z36 => k_is)
    (case x_k_z36 => k_is)
    (case x_a_z35 => k_is)
    (case x_i_z35 => k_is)
    (case x_l_z35 => k_is)
    (case x_co_z35 => k_is)
    (case x_k_z35 => k_is)
    (case x_a_z44 => k_is)
    (case x_l_z44 => k_is)
    (case x_co_z44 => k_is)
    (case x_k_z44 => k_is)
    (case x_a_z61 => k_is)
    (case x_l_z61 => k_is)
    (case x_co_z61 => k_is)
    (case x_k_z61 => k_is)
    (case x_a_z66 => k_is)
    (case x_l_z66 => k_is)
    (case x_co_z66 => k_is)
    (case x_k_z66 => k_is)
    (case x_a_z43 => k_is)
    (case x_l_z43 => k_is)
    (case x_co_z43 => k_is)
    (case x_k_z43 => k_is)
    (case x_a_z13 => k_is)
    (case x_i_z13 => k_is)
    (case x_l_z13 => k_is)
    (case x_co_z13 => k_is)
    (case x_k_z13 => k_is)
    (case x_a_z17 => k_is)
    (case x_i_z17 => k_is)
    (case x_l_z17 => k_is)
    (case x_co_z17 => k_is)
    (case x_k_z17 => k_is)
    (case x_a_z11 => k_is)
    (case x_i_z11 => k_is)
    (case x_l_z11 => k_is)
    (case x_co_z11 => k_is)
    (case x_k_z11 => k_is)
    (case x_a_z12 => k_is)
    (case x_i_z12 => k_is)
    (case x_l_z12 => k_is)
    (case x_co_z12 => k_is)
    (case x_k_z12 => k_is)
    (case x_a_z23 => k_is)
    (case x_i_z23 => k_is)
    (case x_l_z23 => k_is)
    (case x_co_z23 => k_is)
    (case x_k_z23 => k_is)
    (case x_a_z24 => k_is)
    (case x_i_z24 => k_is)
    (case x_l_z24 => k_is)
    (case x_co_z24 => k_is)
    (case x_k_z24 => k_is)
    (case x_a_z18 => k_is)
    (case x_i_z18 => k_is)
    (case x_l_z18 => k_is)
    (case x_co_z18 => k_is)
    (case x_k_z18 => k_is)
    (case x_a_z21 => k_is)
    (case x_i_z21 => k_is)
    (case x_l_z21 => k_is)
    (case x_co_z21 => k_is)
    (case x_k_z21 => k_is)
    (case x_a_z22 => k_is)
    (case x_i_z22 => k_is)
    (case x_l_z22 => k_is)
    (case x_co_z22 => k_is)
    (case x_k_z22 => k_is)
    (case x_a_z14 => k_is)
    (case x_i_z14 => k_is)
    (case x_l_z14 => k_is)
    (case x_co_z14 => k_is)
    (case x_k_z14 => k_is)
    (case x_a_z20 => k_is)
    (case x_i_z20 => k_is)
    (case x_l_z20 => k_is)
    (case x_co_z20 => k_is)
    (case x_k_z20 => k_is)
    (case x_a_z19 => k_is)
    (case x_i_z19 => k_is)
    (case x_l_z19 => k_is)
    (case x_co_z19 => k_is)
    (case x_k_z19 => k_is)
    (case x_a_z15 => k_is)
    (case x_i_z15 => k_is)
    (case x_l_z15 => k_is)
    (case x_co_z15 => k_is)
    (case x_k_z15 => k_is)
    (case x_a_z16 => k_is)
    (case x_i_z16 => k_is)
    (case x_l_z16 => k_is)
    (case x_co_z16 => k_is)
    (case x_k_z16 => k_is)
    (case x_a_z51 => k_is)
    (case x_l_z51 => k_is)
    (case x_co_z51 => k_is)
    (case x_k_z51 => k_is)
    (case x_a_z55 => k_is)
    (case x_l_z55 => k_is)
    (case x_co_z55 => k_is)
    (case x_k_z55 => k_is)
    (case x_a_z54 => k_is)
    (case x_l_z54 => k_is)
    (case x_co_z54 => k_is)
    (case x_k_z54 => k_is)
    (case x_a_z56 => k_is)
    (case x_l_z56 => k_is)
    (case x_co_z56 => k_is)
    (case x_k_z56 => k_is)
    (case x_a_z52 => k_is)
    (case x_l_z52 => k_is)
    (case x_co_z52 => k_is)
    (case x_k_z52 => k_is)
    (case x_a_z53 => k_is)
    (case x_l_z53 => k_is)
    (case x_co_z53 => k_is)
    (case x_k_z53 => k_is)
    (case x_a_law => k_is)
    (case x_l_law => k_is)
    (case x_co_law => k_is)
    (case x_k_law => k_is)
    (case x_pg_Thing => k_is)
    (case x_hd_Thing => k_is)
    (case x_po_Thing => k_is)
    (case x_sa_Thing => k_is)
    (case x_mi_Thing => k_is)
    (case x_kc_Thing => k_is)
    (case x_na_Thing_called => k_is)
    (case x_na_Thing_parts => k_is)
    (case x_pg_PlainThing => k_is)
    (case x_hd_PlainThing => k_is)
    (case x_po_PlainThing => k_is)
    (case x_sa_PlainThing => k_is)
    (case x_mi_PlainThing => k_is)
    (case x_kc_PlainThing => k_is)
    (case x_na_PlainThing_called => k_is)
    (case x_na_PlainThing_parts => k_is)
    (case x_na_PlainThing_last_words => k_is)
    (case x_pg_PairThing => k_is)
    (case x_hd_PairThing => k_is)
    (case x_po_PairThing => k_is)
    (case x_sa_PairThing => k_is)
    (case x_mi_PairThing => k_is)
    (case x_kc_PairThing => k_is)
    (case x_na_PairThing_called => k_is)
    (case x_na_PairThing_parts => k_is)
    (case x_pg_Marking => k_is)
    (case x_hd_Marking => k_is)
    (case x_po_Marking => k_is)
    (case x_sa_Marking => k_is)
    (case x_mi_Marking => k_is)
    (case x_kc_Marking => k_is)
    (case x_na_Marking_memory => k_is)
    (case x_na_Marking_grey_places => k_is)
    (case x_pg_Rooms => k_is)
    (case x_hd_Rooms => k_is)
    (case x_po_Rooms => k_is)
    (case x_sa_Rooms => k_is)
    (case x_mi_Rooms => k_is)
    (case x_kc_Rooms => k_is)
    (case x_na_Rooms_many => k_is)
    (case x_na_Rooms_cells => k_is)
    (case x_na_Rooms_inside => k_is)
    (case x_pg_Memory => k_is)
    (case x_hd_Memory => k_is)
    (case x_po_Memory => k_is)
    (case x_sa_Memory => k_is)
    (case x_mi_Memory => k_is)
    (case x_kc_Memory => k_is)
    (case x_na_Memory_rooms => k_is)
    (case x_na_Memory_begins => k_is)
    (case x_g_NOTHING => k_is)
    (case x_gk_NOTHING => k_is)
    (case x_g_KIND_BITS => k_is)
    (case x_g_MARK_BIT => k_is)
    (case x_g_WORDS_BIT => k_is)
    (case x_g_SIZE_FROM => k_is)
    (case x_g_SORTS => k_is)
    (case x_gk_SORTS => k_is)
    (case x_g_SERIAL_AT => k_is)
    (case x_g_WORDS_AT => k_is)
    (case x_h_PlainThing_sort_of => k_is)
    (case x_h_PlainThing_fields => k_is)
    (case x_h_PlainThing_waits => k_is)
    (case x_h_PairThing_sort_of => k_is)
    (case x_h_PairThing_fields => k_is)
    (case x_h_PairThing_holds => k_is)
    (case x_h_PairThing_words => k_is)
    (case x_lk_Marking_pairs_by_serial => exact rfl)
    (case x_lo_Marking_pairs_by_serial => k_is)
    (case x_lv_Marking_pairs_by_serial => exact rfl)
    (case x_lh_z5 => kernel_rfl)
    (case x_lt_Marking_pairs_by_serial => decide)
    (case x_lall => decide)
    (case x_cf1_Thing_init => k_is)
    (case x_cf2_Thing_init => k_is)
    (case x_cf3_Thing_init => k_is)
    (case x_n_enumerate => k_is)
    (case x_n_len => k_is)
    (case x_n_list => k_is)
    (case x_n_min => k_is)
    (case x_n_range => k_is)
    (case x_n_sorted => k_is)
