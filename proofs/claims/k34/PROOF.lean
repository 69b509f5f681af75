import PyProof.Rows.All
import Wide.All
import OpenK.AllK
import Wide.FinOn
import Lean
import PyProof.EqAt
import PyProof.EqKinds
import PyProof.TupleCall
import PySem.Challenge.RW_heapsafe_k34_whole_memory_through_deeds
set_option Elab.async false
set_option linter.all false
set_option maxRecDepth 100000
namespace L2
open PySem PySem.Spec PyProof.Rows
abbrev Key := Sum Int Str
def keyIs : Key → Value → Bool
  | .inl k, v => Value.isInt k v
  | .inr x, v => Value.isStrOf x v
def keyH (w : World) : Key → Int
  | .inl k => hashInt k
  | .inr x => hashStr w x
theorem keyIs_shape : ∀ {k : Key} {v : Value}, keyIs k v = true → (∃ i t, k = Sum.inl i ∧ v = Value.int i t) ∨ (∃ x t, k = Sum.inr x ∧ v = Value.str x t)
  | .inl i, v, h => by
    obtain ⟨t, e⟩ := Value.isInt_shape (k := i) (v := v) h
    exact .inl ⟨i, t, rfl, e⟩
  | .inr x, v, h => by
    obtain ⟨t, e⟩ := Value.isStrOf_shape (x := x) (v := v) h
    exact .inr ⟨x, t, rfl, e⟩
theorem keyIs_int (i : Int) (t : Tok) : keyIs (.inl i) (.int i t) = true := by simp [keyIs, Value.isInt]
theorem keyIs_str (x : Str) (t : Tok) : keyIs (.inr x) (.str x t) = true := by simp [keyIs, Value.isStrOf]
theorem key_ll (a b : Int) : decide ((Sum.inl a : Key) = Sum.inl b) = (a == b) := by
  by_cases e : a = b
  · subst e; simp
  · have h : ¬ (Sum.inl a : Key) = Sum.inl b := fun q => e (Sum.inl.inj q)
    rw [decide_eq_false h]
    exact (beq_eq_false_iff_ne.mpr e).symm
theorem key_rr (a b : Str) : decide ((Sum.inr a : Key) = Sum.inr b) = decide (a = b) := by
  by_cases e : a = b
  · subst e; simp
  · have h : ¬ (Sum.inr a : Key) = Sum.inr b := fun q => e (Sum.inr.inj q)
    rw [decide_eq_false h, decide_eq_false e]
theorem key_lr (a : Int) (b : Str) : decide ((Sum.inl a : Key) = Sum.inr b) = false := decide_eq_false (fun q => nomatch q)
theorem key_rl (a : Str) (b : Int) : decide ((Sum.inr a : Key) = Sum.inl b) = false := decide_eq_false (fun q => nomatch q)
def mixKind (prog : Program) (w : World) : PySem.KeyKind prog w Key where
  is := keyIs
  hash := keyH w
  inj := fun v a b ha hb => by
    rcases keyIs_shape ha with ⟨i, t, rfl, rfl⟩ | ⟨x, t, rfl, rfl⟩
    · rcases keyIs_shape hb with ⟨j, u, rfl, e⟩ | ⟨y, u, rfl, e⟩
      · injection e with e1 _; rw [e1]
      · exact nomatch e
    · rcases keyIs_shape hb with ⟨j, u, rfl, e⟩ | ⟨y, u, rfl, e⟩
      · exact nomatch e
      · injection e with e1 _; rw [e1]
  byValue := fun k v h => by
    rcases keyIs_shape h with ⟨i, t, rfl, rfl⟩ | ⟨x, t, rfl, rfl⟩ <;> rfl
  pyHash := fun hv h => by
    rcases keyIs_shape hv with ⟨i, t, rfl, rfl⟩ | ⟨x, t, rfl, rfl⟩
    · exact wpAny_pyHash_int h
    · exact wpAny_pyHash_str h
  eqBool := fun hu hv h => by
    rcases keyIs_shape hu with ⟨i, t, rfl, rfl⟩ | ⟨x, t, rfl, rfl⟩
    · rcases keyIs_shape hv with ⟨j, u, rfl, rfl⟩ | ⟨y, u, rfl, rfl⟩
      · rw [key_ll] at h; exact wpAny_eqBool_int h
      · rw [key_lr] at h; exact SeqAt.EqAt.int_str i t y u _ _ _ _ h
    · rcases keyIs_shape hv with ⟨j, u, rfl, rfl⟩ | ⟨y, u, rfl, rfl⟩
      · rw [key_rl] at h; exact SeqAt.EqAt.str_int x t j u _ _ _ _ h
      · rw [key_rr] at h; exact wpAny_eqBool_str h
  «strs» := fun k x t v h => by
    rcases keyIs_shape h with ⟨i, u, rfl, e⟩ | ⟨y, u, rfl, e⟩
    · exact nomatch e
    · injection e with e1 _
      subst e1
      cases v <;> rfl
theorem mixKind_int (prog : Program) (w : World) (i : Int) (t : Tok) : (mixKind prog w).is (.inl i) (.int i t) = true := keyIs_int i t
theorem mixKind_str (prog : Program) (w : World) (x : Str) (t : Tok) : (mixKind prog w).is (.inr x) (.str x t) = true := keyIs_str x t
end L2
namespace L2
open PySem PySem.Spec PyProof.Rows
inductive V where
  | non | bl (b : Bool) | int (i : Int) | str (x : Str) | byt (b : Array UInt8) | flt (b : UInt64) | ref (a : Addr) | ty (n : String)
  deriving DecidableEq
def RelV : V → Value → Prop
  | .non, u => u = Value.none
  | .bl b, u => u = Value.bool b
  | .int i, u => ∃ t, u = Value.int i t
  | .str x, u => ∃ t, u = Value.str x t
  | .byt b, u => ∃ t, u = Value.bytes b t
  | .flt b, u => ∃ t, u = Value.float b t
  | .ref a, u => u = Value.ref a
  | .ty n, u => u = Value.type n
abbrev Vals : List V → List Value → Prop := Paired RelV
theorem Vals.length {xs : List V} {us : List Value} (r : Vals xs us) : xs.length = us.length := Paired.length r
theorem Vals.get : ∀ {xs : List V} {us : List Value} {i : Nat} {x : V}, Vals xs us → xs[i]? = some x → ∃ u, us[i]? = some u ∧ RelV x u
  | _, _, _, _, .nil, e => by simp at e
  | _, _, 0, _, .cons r _, e => by simp at e; subst e; exact ⟨_, rfl, r⟩
  | _, _, i + 1, x, .cons _ t, e => by
    obtain ⟨u, h1, h2⟩ := Vals.get (i := i) (x := x) t (by simpa using e)
    exact ⟨u, by simpa using h1, h2⟩
theorem Vals.set {x : V} {u : Value} (r : RelV x u) : ∀ {xs : List V} {us : List Value} (i : Nat), Vals xs us → Vals (xs.set i x) (us.set i u)
  | _, _, _, .nil => .nil
  | _, _, 0, .cons _ t => .cons r t
  | _, _, i + 1, .cons q t => .cons q (Vals.set r i t)
theorem Vals.append : ∀ {xs ys : List V} {us ws : List Value}, Vals xs us → Vals ys ws → Vals (xs ++ ys) (us ++ ws)
  | _, _, _, _, .nil, s => s
  | _, _, _, _, .cons r t, s => .cons r (Vals.append t s)
theorem Vals.take : ∀ {xs : List V} {us : List Value} (n : Nat), Vals xs us → Vals (xs.take n) (us.take n)
  | _, _, 0, _ => .nil
  | _, _, _ + 1, .nil => .nil
  | _, _, n + 1, .cons r t => .cons r (Vals.take n t)
theorem Vals.drop : ∀ {xs : List V} {us : List Value} (n : Nat), Vals xs us → Vals (xs.drop n) (us.drop n)
  | _, _, 0, r => r
  | _, _, _ + 1, .nil => .nil
  | _, _, n + 1, .cons _ t => Vals.drop n t
theorem Vals.none_of : ∀ {xs : List V} {us : List Value} {i : Nat}, Vals xs us → xs[i]? = none → us[i]? = none := fun {xs us i} r e => by
  have h1 := r.length
  have h2 : xs.length ≤ i := List.getElem?_eq_none_iff.mp e
  exact List.getElem?_eq_none_iff.mpr (by omega)
def RelO : Option V → Option Value → Prop
  | some v, some u => RelV v u
  | none, none => True
  | _, _ => False
def KV {κ : Type} : List (κ × V) → List (κ × Value) → Prop := Paired fun (p : κ × V) (q : κ × Value) => p.1 = q.1 ∧ RelV p.2 q.2
def kV : Key → V
  | .inl i => .int i
  | .inr x => .str x
inductive HO where
  
  | lst (xs : List V)
  
  | tup (xs : List V)
  
  | dK (kvs : List (Key × V)) | dT (kvs : List (List Key × V))
  
  | set (S : Int → Bool) (n : Nat)
  
  | ins (C dx : Addr) (fs : List (Str × V))
  
  | own (x : Addr)
  
  | xd (fs : List (Str × V))
  
  | met (f x : Addr)
  
  | rng (lo hi : Int)
  
  | frz (o : Obj) (u : HO)
  
  | tbl (ps : Array Value)
  
  | ext (φ : Heap → Prop)
abbrev Hp := Addr → Option HO
def upd (H : Hp) (a : Addr) (o : HO) : Hp := fun b => if b = a then some o else H b
theorem upd_same {H : Hp} {a : Addr} {o : HO} : upd H a o a = some o := by unfold upd; rw [if_pos rfl]
theorem upd_ne {H : Hp} {a b : Addr} {o : HO} (h : b ≠ a) : upd H a o b = H b := by unfold upd; rw [if_neg h]
theorem upd_upd {H : Hp} {a : Addr} {o u : HO} : upd (upd H a o) a u = upd H a u := by
  funext b; unfold upd; split <;> rfl
theorem ne_of {H : Hp} {a b : Addr} {o u : HO} (h : H a = some o) (h' : H b = some u) (d : o ≠ u) : a ≠ b := by
  intro e; subst e; rw [h] at h'; exact d (Option.some.inj h')
theorem ne_of_none {H : Hp} {a b : Addr} {o : HO} (h : H a = some o) (h' : H b = none) : a ≠ b := by
  intro e; subst e; rw [h] at h'; cases h'
section
variable (P : Program) (w : World)
def ObjOk (H : Hp) (h : Heap) (a : Addr) : HO → Prop
  | .lst xs => xs.length ≤ sizeLine ∧ ∃ (its : List Value) (n : Nat), Vals xs its ∧ h.get? a = some { cls := .type "list", data := .seq its.toArray n }
  | .tup xs => xs.length ≤ sizeLine ∧ ∃ its : List Value, Vals xs its ∧ IsTup h a its.toArray
  | .dK kvs => kvs.length ≤ sizeLine ∧ (a == sysModules) = false ∧ ∃ vs, KV kvs vs ∧ h.DictOf (mixKind P w) a vs
  | .dT kvs => kvs.length ≤ sizeLine ∧ (a == sysModules) = false ∧ ∃ xs : List (List Key × Addr × Value),
      Paired (fun (p : List Key × V) (q : List Key × Addr × Value) => p.1 = q.1 ∧ H q.2.1 = some (.tup (p.1.map kV)) ∧ RelV p.2 q.2.2) kvs xs ∧
      ∃ o es ep, h.get? a = some o ∧ o.ExactDict ∧ o.data = .dict es ep ∧ es.toList = xs.map (entryOfKey (tupleKind (mixKind P w))) ∧ (xs.map (·.1)).Nodup
  | .set S n => h.SetOf (intKind P w) a S n
  | .ins C dx fs => H dx = some (.own a) ∧ fs.length ≤ 1000 ∧ dx ≠ a ∧ h.get? a = some (PySem.W.instObj C dx) ∧
      ∃ mA, h.Ns1 dx mA ∧ (∀ f, RelO (fs.lookup f) (mA f)) ∧ PySem.Within mA (fs.map (·.1))
  | .own _ => ∃ o, h.get? a = some o
  | .xd fs => ∃ mA, h.Ns1 a mA ∧ ∀ f, RelO (fs.lookup f) (mA f)
  | .rng lo hi => ∃ t u v, h.get? a = some { cls := .type "range", data := .fields #[.int lo t, .int hi u, .int 1 v] }
  | .frz o u => h.get? a = some o ∧ ObjOk H h a u
  | .tbl ps => h.get? a = some { cls := .none, data := .fields ps }
  | .met f x => h.get? a = some (PySem.W.methodObj (.ref f) (.ref x))
  | .ext φ => φ h ∧ (∃ o, h.get? a = some o) ∧ ∀ h1 h2 : Heap, φ h1 → (∀ o, h1.get? a = some o → h2.get? a = some o) → φ h2
def HOk (H : Hp) (h : Heap) : Prop := ∀ a o, H a = some o → ObjOk P w H h a o
end
section
variable {P : Program} {w : World} {H H' : Hp} {h h' : Heap} {a : Addr} {o : HO}
theorem ObjOk.lt (x : ObjOk P w H h a o) : a < h.objs.size := by
  cases o with
  | lst xs => obtain ⟨_, _, _, _, e⟩ := x; exact Heap.lt_size e
  | tup xs => obtain ⟨_, _, _, p⟩ := x; exact p.lt
  | dK kvs => obtain ⟨_, _, _, _, o, _, _, e, _⟩ := x; exact Heap.lt_size e
  | dT kvs => obtain ⟨_, _, _, _, o, _, _, e, _⟩ := x; exact Heap.lt_size e
  | set S n => obtain ⟨o, _, _, _, e, _⟩ := x; exact Heap.lt_size e
  | ins C dx fs => obtain ⟨_, _, _, e, _⟩ := x; exact Heap.lt_size e
  | own y => obtain ⟨_, e⟩ := x; exact Heap.lt_size e
  | xd fs => obtain ⟨_, ⟨_, _, _, e, _⟩, _⟩ := x; exact Heap.lt_size e
  | rng lo hi => obtain ⟨_, _, _, e⟩ := x; exact Heap.lt_size e
  | frz ob u => obtain ⟨e, _⟩ := x; exact Heap.lt_size e
  | tbl ps => exact Heap.lt_size (show h.get? a = some _ from x)
  | met f y => exact Heap.lt_size (show h.get? a = some _ from x)
  | ext φ => obtain ⟨_, ⟨_, e⟩, _⟩ := x; exact Heap.lt_size e
theorem Paired.mapP {α β : Type} {F G : α → β → Prop} : ∀ {l₁ : List α} {l₂ : List β}, Paired F l₁ l₂ → (∀ a b, F a b → G a b) → Paired G l₁ l₂
  | _, _, .nil, _ => .nil
  | _, _, .cons r t, f => .cons (f _ _ r) (Paired.mapP t f)
theorem ObjOk.stay (x : ObjOk P w H h a o) (k : ∀ b u, (b = a ∨ H b = some (.own a)) → h.get? b = some u → h'.get? b = some u)
    (ho : ∀ b, H b = some (.own a) → H' b = some (.own a)) (ht : ∀ b xs, H b = some (.tup xs) → H' b = some (.tup xs)) : ObjOk P w H' h' a o := by
  induction o with
  | lst xs => obtain ⟨z, its, n, r, e⟩ := x; exact ⟨z, its, n, r, k _ _ (.inl rfl) e⟩
  | tup xs => obtain ⟨z, its, r, ob, e, c⟩ := x; exact ⟨z, its, r, ob, k _ _ (.inl rfl) e, c⟩
  | dK kvs => obtain ⟨z, y, vs, r, ob, es, ep, e, c⟩ := x; exact ⟨z, y, vs, r, ob, es, ep, k _ _ (.inl rfl) e, c⟩
  | dT kvs =>
    obtain ⟨z, y, xs, r, ob, es, ep, e, c⟩ := x
    exact ⟨z, y, xs, Paired.mapP r fun p q z => ⟨z.1, ht _ _ z.2.1, z.2.2⟩, ob, es, ep, k _ _ (.inl rfl) e, c⟩
  | set S n => obtain ⟨ob, es, ep, t, e, c⟩ := x; exact ⟨ob, es, ep, t, k _ _ (.inl rfl) e, c⟩
  | ins C dx fs =>
    obtain ⟨d, z, ne, e, mA, ⟨od, es, ep, e2, c⟩, r⟩ := x
    exact ⟨ho _ d, z, ne, k _ _ (.inl rfl) e, mA, ⟨od, es, ep, k _ _ (.inr d) e2, c⟩, r⟩
  | own y => obtain ⟨ob, e⟩ := x; exact ⟨ob, k _ _ (.inl rfl) e⟩
  | xd fs => obtain ⟨mA, ⟨od, es, ep, e, c⟩, r⟩ := x; exact ⟨mA, ⟨od, es, ep, k _ _ (.inl rfl) e, c⟩, r⟩
  | rng lo hi => obtain ⟨t, u, v, e⟩ := x; exact ⟨t, u, v, k _ _ (.inl rfl) e⟩
  | frz ob u ih => obtain ⟨e, q⟩ := x; exact ⟨k _ _ (.inl rfl) e, ih q⟩
  | tbl ps =>
    have e : h.get? a = some { cls := .none, data := .fields ps } := x
    show h'.get? a = some { cls := .none, data := .fields ps }
    exact k a _ (.inl rfl) e
  | met f y =>
    have e : h.get? a = some (PySem.W.methodObj (.ref f) (.ref y)) := x
    show h'.get? a = some (PySem.W.methodObj (.ref f) (.ref y))
    exact k a _ (.inl rfl) e
  | ext φ => obtain ⟨p, ⟨o, e⟩, st⟩ := x; exact ⟨st _ _ p fun o q => k _ _ (.inl rfl) q, ⟨o, k _ _ (.inl rfl) e⟩, st⟩
theorem HOk.lt (x : HOk P w H h) (e : H a = some o) : a < h.objs.size := (x a o e).lt
theorem HOk.fresh (x : HOk P w H h) (e : h.objs.size ≤ a) : H a = none := by
  cases q : H a with
  | none => rfl
  | some u => exact absurd (Nat.lt_of_lt_of_le (x.lt q) e) (Nat.lt_irrefl _)
theorem HOk.kept (x : HOk P w H h) (k : ∀ b u, h.get? b = some u → h'.get? b = some u) : HOk P w H h' := fun a o e =>
  (x a o e).stay (fun b u _ q => k b u q) (fun _ q => q) fun _ _ q => q
theorem HOk.laid (x : HOk P w H h) (k : ∀ b u, h.get? b = some u → h'.get? b = some u) (hp : h.objs.size ≤ a) (new : ObjOk P w (upd H a o) h' a o) : HOk P w (upd H a o) h' := fun b u e => by
  have hn := x.fresh hp
  by_cases hb : b = a
  · subst hb; rw [upd_same] at e; cases e; exact new
  · rw [upd_ne hb] at e
    exact (x b u e).stay (fun c v _ q => k c v q) (fun c q => by rw [upd_ne (ne_of_none q hn)]; exact q) fun c xs q => by rw [upd_ne (ne_of_none q hn)]; exact q
end
def Rd (H : Hp) (a : Addr) (u : HO) : Prop := H a = some u ∨ ∃ o, H a = some (.frz o u)
theorem Rd.of {H : Hp} {a : Addr} {u : HO} (h : H a = some u) : Rd H a u := .inl h
theorem Rd.ok {P : Program} {w : World} {H : Hp} {h : Heap} {a : Addr} {u : HO} (r : Rd H a u) (x : HOk P w H h) : ObjOk P w H h a u := by
  rcases r with r | ⟨o, r⟩
  · exact x a u r
  · obtain ⟨_, q⟩ := x a _ r
    exact q
def Mut : Option HO → Prop
  | some (.lst _) => True
  | some (.dK _) => True
  | some (.dT _) => True
  | some (.set _ _) => True
  | some (.ins _ _ _) => True
  | some (.ext _) => True
  | _ => False
section
variable {P : Program} {w : World} {H : Hp} {h h' : Heap} {x e : Addr} {o' : HO}
theorem HOk.write (ok : HOk P w H h) (mu : Mut (H x)) (he : e = x ∨ H e = some (.own x)) (k : ∀ b u, b ≠ e → h.get? b = some u → h'.get? b = some u) (heo : ∃ u, h'.get? e = some u)
    (new : ObjOk P w (upd H x o') h' x o') : HOk P w (upd H x o') h' := fun b u q => by
  have nown : ∀ c y, H c = some (.own y) → c ≠ x := fun c y r z => by subst z; rw [r] at mu; exact mu
  have ntup : ∀ c xs, H c = some (.tup xs) → c ≠ x := fun c xs r z => by subst z; rw [r] at mu; exact mu
  by_cases hb : b = x
  · subst hb; rw [upd_same] at q; cases q; exact new
  · rw [upd_ne hb] at q
    by_cases hbe : b = e
    · have q' : H b = some (.own x) := by
        rcases he with z | z
        · exact absurd (hbe.trans z) hb
        · rw [hbe]; exact z
      rw [q] at q'; cases q'
      obtain ⟨v, hv⟩ := heo
      exact ⟨v, by rw [hbe]; exact hv⟩
    · refine (ok b u q).stay (fun c v hc r => k c v ?_ r) (fun c r => by rw [upd_ne (nown c b r)]; exact r) fun c xs r => by rw [upd_ne (ntup c xs r)]; exact r
      rcases hc with rfl | hc
      · exact hbe
      · rintro rfl
        rcases he with z | z
        · exact nown c b hc z
        · rw [hc] at z; cases z; exact hb rfl
end
structure Un (fs ex : List Addr) (H H' : Hp) (h h' : Heap) : Prop where
  keep : ∀ b o, h.get? b = some o → H b = none → b ∉ fs → b ∉ ex → h'.get? b = some o
  slot : ∀ b o, h.get? b = some o → H b = none → b ∈ fs → b ∉ ex → ∃ sl, h'.get? b = some { o with slots := sl }
  free : ∀ b o, h.get? b = some o → H b = none → b ∉ ex → H' b = none
  there : ∀ b o, h.get? b = some o → b ∉ ex → ∃ o', h'.get? b = some o'
  tups : ∀ b xs, H b = some (.tup xs) → H' b = some (.tup xs)
  frzs : ∀ b o u, H b = some (.frz o u) → H' b = some (.frz o u)
  tbls : ∀ b ps, H b = some (.tbl ps) → ∃ more, H' b = some (.tbl (ps ++ more))
section
variable {fs fs' ex ex' : List Addr} {H H1 H2 : Hp} {h h1 h2 h' : Heap} {a x e : Addr} {o : HO}
theorem Un.any (u : Un fs ex H H1 h h1) {b : Addr} {ob : Obj} (q : h.get? b = some ob) (n : H b = none) (hx : b ∉ ex) : ∃ sl, h1.get? b = some { ob with slots := sl } := by
  by_cases hb : b ∈ fs
  · exact u.slot b ob q n hb hx
  · exact ⟨ob.slots, u.keep b ob q n hb hx⟩
theorem Un.trans (a : Un fs ex H H1 h h1) (b : Un fs ex H1 H2 h1 h2) : Un fs ex H H2 h h2 where
  keep := fun c ob q n hc hx => b.keep c ob (a.keep c ob q n hc hx) (a.free c ob q n hx) hc hx
  slot := fun c ob q n hc hx => by
    obtain ⟨sl, e1⟩ := a.slot c ob q n hc hx
    obtain ⟨sl', e2⟩ := b.slot c _ e1 (a.free c ob q n hx) hc hx
    exact ⟨sl', e2⟩
  free := fun c ob q n hx => by
    obtain ⟨o', e1⟩ := a.there c ob q hx
    exact b.free c o' e1 (a.free c ob q n hx) hx
  there := fun c ob q hx => by
    obtain ⟨o', e1⟩ := a.there c ob q hx
    exact b.there c o' e1 hx
  tups := fun c xs q => b.tups c xs (a.tups c xs q)
  frzs := fun c ob xs q => b.frzs c ob xs (a.frzs c ob xs q)
  tbls := fun c ps q => by
    obtain ⟨m1, e1⟩ := a.tbls c ps q
    obtain ⟨m2, e2⟩ := b.tbls c _ e1
    exact ⟨m1 ++ m2, by rw [e2, Array.append_assoc]⟩
theorem Un.kept (k : ∀ b u, h.get? b = some u → h'.get? b = some u) : Un fs ex H H h h' :=
  ⟨fun b ob q _ _ _ => k b ob q, fun b ob q _ _ _ => ⟨ob.slots, k b ob q⟩, fun _ _ _ n _ => n, fun b ob q _ => ⟨ob, k b ob q⟩, fun _ _ q => q, fun _ _ _ q => q, fun _ ps q => ⟨#[], by rw [q]; simp⟩⟩
theorem Un.refl : Un fs ex H H h h := Un.kept fun _ _ q => q
theorem Un.laid (k : ∀ b u, h.get? b = some u → h'.get? b = some u) (hp : h.objs.size ≤ a) (hn : H a = none) : Un fs ex H (upd H a o) h h' where
  keep := fun b u q _ _ _ => k b u q
  slot := fun b u q _ _ _ => ⟨u.slots, k b u q⟩
  free := fun b u q n _ => by rw [upd_ne (Nat.ne_of_lt (Nat.lt_of_lt_of_le (Heap.lt_size q) hp))]; exact n
  there := fun b u q _ => ⟨u, k b u q⟩
  tups := fun b xs q => by rw [upd_ne (ne_of_none q hn)]; exact q
  frzs := fun b u xs q => by rw [upd_ne (ne_of_none q hn)]; exact q
  tbls := fun b ps q => ⟨#[], by rw [upd_ne (ne_of_none q hn), q]; simp⟩
theorem Un.write (mu : Mut (H x)) (he : e = x ∨ H e = some (.own x)) (k : ∀ b u, b ≠ e → h.get? b = some u → h'.get? b = some u) (heo : ∃ u, h'.get? e = some u) : Un fs ex H (upd H x o) h h' := by
  have hx : ∀ b, H b = none → b ≠ x := fun b n z => by subst z; rw [n] at mu; exact mu
  have hb : ∀ b, H b = none → b ≠ e := fun b n z => by
    subst z
    rcases he with r | r
    · exact hx b n r
    · rw [n] at r; cases r
  have hm : ∀ b u, H b = some u → ¬ Mut (some u) → b ≠ x := fun b u q nm z => by subst z; rw [q] at mu; exact nm mu
  refine ⟨fun b u q n _ _ => k b u (hb b n) q, fun b u q n _ _ => ⟨u.slots, k b u (hb b n) q⟩, fun b u q n _ => by rw [upd_ne (hx b n)]; exact n, fun b u q _ => ?_,
    fun b xs q => by rw [upd_ne (hm b _ q fun z => z)]; exact q, fun b u xs q => by rw [upd_ne (hm b _ q fun z => z)]; exact q, fun b ps q => ⟨#[], by rw [upd_ne (hm b _ q fun z => z), q]; simp⟩⟩
  by_cases hbe : b = e
  · subst hbe; exact heo
  · exact ⟨u, k b u hbe q⟩
theorem Un.mono (u : Un fs ex H H1 h h1) (hs : ∀ b ∈ fs, b ∈ fs') (hx : ∀ b ∈ ex, b ∈ ex') : Un fs' ex' H H1 h h1 :=
  ⟨fun b ob q n hb he => u.keep b ob q n (fun z => hb (hs b z)) fun z => he (hx b z), fun _ _ q n _ he => u.any q n fun z => he (hx _ z), fun b ob q n he => u.free b ob q n fun z => he (hx b z), fun b ob q he => u.there b ob q fun z => he (hx b z), u.tups, u.frzs, u.tbls⟩
end
def trk (h : Heap) (H : Hp) : List Addr := (List.range h.objs.size).filter fun a => (H a).isSome
def hidT (h : Heap) (H : Hp) : Heap := PySem.W.hideAll h (trk h H)
theorem hidT_size (h : Heap) (H : Hp) : (hidT h H).objs.size = h.objs.size := PySem.W.hideAll_size _ _
theorem hidT_get {h : Heap} {H : Hp} {b : Addr} {o : Obj} (e : h.get? b = some o) (n : H b = none) : (hidT h H).get? b = some o :=
  PySem.W.hideAll_get _ e fun hm => by
    have q : (H b).isSome = true := (List.mem_filter.mp hm).2
    rw [n] at q; simp at q
theorem of_hidT {h : Heap} {H : Hp} {b : Addr} {o : Obj} (e : (hidT h H).get? b = some o) : h.get? b = some o ∧ H b = none := by
  have e' : h.get? b = some o := PySem.W.of_hideAll (trk h H) e
  refine ⟨e', ?_⟩
  cases q : H b with
  | none => rfl
  | some x =>
    have hm : b ∈ trk h H := List.mem_filter.mpr ⟨List.mem_range.mpr (Heap.lt_size e'), by simp [q]⟩
    have z : (hidT h H).get? b = none := PySem.W.hideAll_none (trk h H) hm
    rw [z] at e; cases e
def allNews (g h : Heap) (L : Addr) : List (Addr × Obj) := (List.range h.objs.size).filterMap fun a => if a = L ∨ (g.get? a).isSome = true then none else (h.get? a).map fun o => (a, o)
def rest (g h : Heap) (L d : Addr) : List (Addr × Obj) := (allNews g h L).filter fun p => decide (p.1 ≠ d)
end L2
namespace L2
open PySem PySem.Spec PyProof.Rows
structure Mod (K : PySem.W.Frag) (mg : Str → Option Value) (base : Heap) : Prop where
  kin : K.In base
  glob : base.Ns mainGlobals mg
  blt : ∃ mb, base.Ns builtinsNs mb ∧ ∀ x : Str, x ≠ "__name__" → mb x = bootBuiltins x
  nolimit : base.NoLimit
structure Cx where
  prog : Program
  w : World
  K : PySem.W.Frag
  mg : Str → Option Value
  base : Heap
  A : Around
  N : List Str
  s₀ : Shared
  H₀ : Hp
  env : Env
  outer : List Env
  stack : List Env
  ex : List Addr
  fn : Str → Bool
  calm : Bool
  pn : List (Addr × Obj)
  xe : Value → Shared → Prop
def frs (l : List Env) : List Addr := l.filterMap (·.frame)
abbrev Cx.fs (X : Cx) : List Addr := frs X.outer
def Vis (sc : Scope) (x : Str) : Prop := sc.names.lookup x = some .local ∨ sc.names.lookup x = some .cell ∨ sc.names.lookup x = some .free
def Loc (sc : Scope) (x : Str) : Prop := sc.names.lookup x = some .local ∨ sc.names.lookup x = some .cell
def Look (env : Env) (h : Heap) (m : Str → Option Value) (x : Str) (u : Value) : Prop :=
  (env.kindOf x = some .local ∧ m x = some u) ∨ ((env.kindOf x = some .cell ∨ env.kindOf x = some .free) ∧ ∃ c, env.cells.lookup x = some c ∧ h.IsCell c (some u))
structure Cx.Ok (X : Cx) : Prop where
  mod : Mod X.K X.mg X.base
  kind : X.env.scope.kind = .function
  glob : X.env.globals = mainGlobals
  blt : X.env.builtins = builtinsNs
  above : X.s₀.heap.objs.size ≤ X.env.locals
  inj : ∀ x y c, X.env.cells.lookup x = some c → X.env.cells.lookup y = some c → x = y
  has : ∀ x, (X.env.kindOf x = some .cell ∨ X.env.kindOf x = some .free) → ∃ c, X.env.cells.lookup x = some c
  cab : ∀ x c, X.fn x = true → X.env.cells.lookup x = some c → X.s₀.heap.objs.size ≤ c
  hd : X.calm = true → X.A.handled = none
  frames : X.A.frames = some X.stack
  stk : X.stack = X.outer ∨ (X.stack = X.env :: X.outer ∧ X.env.frame = some X.env.locals)
  exf : ∀ b ∈ X.ex, b ≠ X.env.locals ∧ ∀ x c, X.env.cells.lookup x = some c → c ≠ b
  bs : ∀ b o, X.base.get? b = some o → X.s₀.heap.get? b = some o ∧ X.H₀ b = none
  bsz : X.base.objs.size ≤ X.s₀.heap.objs.size
  noex : ∀ b o, X.base.get? b = some o → b ∉ X.ex
  exfs : ∀ b ∈ X.ex, b ∉ X.fs
  funs : X.s₀.heap.FunFrames X.base X.outer
  frf : ∀ b ∈ X.fs, X.H₀ b = none
structure Inv (X : Cx) (pins : List (Addr × Obj)) (σ : List (Option V)) (H : Hp) (s : Shared) : Prop where
  ok : X.Ok
  os : s.os = X.s₀.os
  bare : AllBare s.gens
  base : Un X.fs X.ex X.H₀ H X.s₀.heap s.heap
  loc : ∃ m, s.heap.Ns X.env.locals m ∧ ∀ (i : Nat) (x : Str) (v : V), X.N[i]? = some x → σ[i]? = some (some v) → Vis X.env.scope x → ∃ u, RelV v u ∧ Look X.env s.heap m x u
  cell : ∀ x c, X.env.cells.lookup x = some c → ∃ v, s.heap.IsCell c v
  free : H X.env.locals = none
  freeC : ∀ x c, X.env.cells.lookup x = some c → H c = none
  pin : ∀ p ∈ X.pn ++ pins, s.heap.get? p.1 = some p.2 ∧ H p.1 = none ∧ p.1 ≠ X.env.locals ∧ p.1 ∉ X.fs ∧ ∀ v, p.2.data ≠ .cell v
  hok : HOk X.prog X.w H s.heap
  len : σ.length = X.N.length
section
variable {X : Cx} {pins : List (Addr × Obj)} {σ : List (Option V)} {H H' : Hp} {s : Shared} {h' : Heap}
theorem Cx.Ok.nofr (ok : X.Ok) {b : Addr} {o : Obj} (e : X.base.get? b = some o) : b ∉ X.fs := fun hb => by
  have := (ok.funs.mem hb).1
  rw [e] at this; cases this
theorem Inv.bs (I : Inv X pins σ H s) : ∀ b o, X.base.get? b = some o → s.heap.get? b = some o ∧ H b = none := fun b o e =>
  ⟨I.base.keep b o (I.ok.bs b o e).1 (I.ok.bs b o e).2 (I.ok.nofr e) (I.ok.noex b o e), I.base.free b o (I.ok.bs b o e).1 (I.ok.bs b o e).2 (I.ok.noex b o e)⟩
theorem Inv.bk (I : Inv X pins σ H s) : ∀ b o, X.base.get? b = some o → s.heap.get? b = some o := fun b o e => (I.bs b o e).1
theorem Inv.mod (I : Inv X pins σ H s) : Mod X.K X.mg X.base := I.ok.mod
theorem Inv.kIn (I : Inv X pins σ H s) : X.K.In s.heap := I.ok.mod.kin.keeps I.bk
theorem Inv.nolimit (I : Inv X pins σ H s) : s.heap.NoLimit := I.ok.mod.nolimit.keeps I.bk
theorem Inv.fr (I : Inv X pins σ H s) : ∃ m, Fr X.base X.env.locals s.heap m :=
  let ⟨m, hn, _⟩ := I.loc
  ⟨m, hn, I.bk, Nat.le_trans I.ok.bsz I.ok.above⟩
theorem Inv.lt (I : Inv X pins σ H s) : X.env.locals < s.heap.objs.size := let ⟨_, hn, _⟩ := I.loc; hn.lt
theorem Inv.sz (I : Inv X pins σ H s) : X.s₀.heap.objs.size ≤ s.heap.objs.size := Nat.le_trans I.ok.above (Nat.le_of_lt I.lt)
theorem Inv.nofs (I : Inv X pins σ H s) {a : Addr} (h : s.heap.objs.size ≤ a) : a ∉ X.fs := fun hb => by
  obtain ⟨_, o, ho, _⟩ := I.ok.funs.mem hb
  exact absurd (Nat.lt_of_lt_of_le (Heap.lt_size ho) (Nat.le_trans I.sz h)) (Nat.lt_irrefl _)
theorem Inv.cne (I : Inv X pins σ H s) : ∀ x c, X.env.cells.lookup x = some c → c ≠ X.env.locals := fun x c e z => by
  obtain ⟨v, o, ho, hd⟩ := I.cell x c e
  obtain ⟨m, ⟨o', es, ep, ho', hd', _⟩, _⟩ := I.loc
  rw [z, ho'] at ho; cases ho; rw [hd'] at hd; cases hd
theorem Inv.funs (I : Inv X pins σ H s) : s.heap.FunFrames X.base X.outer := by
  have all : ∀ (l : List Env), (∀ b ∈ frs l, b ∈ X.fs) → X.s₀.heap.FunFrames X.base l → s.heap.FunFrames X.base l := by
    intro l
    induction l with
    | nil => intro _ _; trivial
    | cons env r ih =>
      intro hs hl
      obtain ⟨hk, ⟨L, o, hf, hn, ho, hd⟩, hr⟩ := hl
      have hL : L ∈ X.fs := hs L (by unfold frs; rw [List.filterMap_cons, hf]; exact List.mem_cons_self)
      obtain ⟨sl, e⟩ := I.base.slot L o ho (I.ok.frf L hL) hL fun z => I.ok.exfs L z hL
      exact ⟨hk, ⟨L, _, hf, hn, e, hd⟩, ih (fun b hb => hs b (by unfold frs; rw [List.filterMap_cons, hf]; exact List.mem_cons_of_mem _ hb)) hr⟩
  exact all X.outer (fun _ hb => hb) I.ok.funs
theorem Inv.stack (I : Inv X pins σ H s) : s.heap.FunFrames X.base X.stack := by
  rcases I.ok.stk with e | ⟨e, hf⟩
  · rw [e]; exact I.funs
  · rw [e]
    obtain ⟨m, hn, _⟩ := I.loc
    refine .cons (by rw [I.ok.kind]; decide) hf hn ?_ I.funs
    exact Heap.get?_none_of_le (Nat.le_trans I.ok.bsz I.ok.above)
theorem Inv.stkSub (I : Inv X pins σ H s) : ∀ b ∈ frs X.stack, b ∈ X.env.locals :: X.fs := fun b hb => by
  rcases I.ok.stk with e | ⟨e, hf⟩
  · rw [e] at hb; exact List.mem_cons_of_mem _ hb
  · rw [e] at hb
    unfold frs at hb
    rw [List.filterMap_cons, hf] at hb
    exact hb
theorem Inv.stkFree (I : Inv X pins σ H s) : ∀ b ∈ frs X.stack, H b = none := fun b hb => by
  rcases List.mem_cons.mp (I.stkSub b hb) with e | hb
  · rw [e]; exact I.free
  · obtain ⟨_, o, ho, _⟩ := I.ok.funs.mem hb
    exact I.base.free b o ho (I.ok.frf b hb) fun z => I.ok.exfs b z hb
theorem Inv.step {g' : Array GenState} {t' : Nat} {d' : Drawn} {ch : List Addr} (I : Inv X pins σ H s)
    (hch : ∀ b ∈ ch, (b ∈ X.ex ∨ X.s₀.heap.objs.size ≤ b) ∧ b ≠ X.env.locals ∧ (∀ x c, X.env.cells.lookup x = some c → c ≠ b) ∧ ∀ p ∈ X.pn ++ pins, p.1 ≠ b)
    (keep : ∀ b o, b ≠ X.env.locals → b ∉ X.fs → b ∉ ch → s.heap.get? b = some o → H b = none → h'.get? b = some o)
    (slot : ∀ b o, b ≠ X.env.locals → b ∈ X.fs → b ∉ ch → s.heap.get? b = some o → H b = none → ∃ sl, h'.get? b = some { o with slots := sl }) (free : ∀ b o, b ∉ ch → s.heap.get? b = some o → H b = none → H' b = none)
    (there : ∀ b o, b ∉ ch → s.heap.get? b = some o → ∃ o', h'.get? b = some o')
    (tups : ∀ b xs, H b = some (.tup xs) → H' b = some (.tup xs)) (frzs : ∀ b o u, H b = some (.frz o u) → H' b = some (.frz o u)) (tbls : ∀ b ps, H b = some (.tbl ps) → ∃ more, H' b = some (.tbl (ps ++ more)))
    (ns : ∀ m, s.heap.Ns X.env.locals m → h'.Ns X.env.locals m) (hok : HOk X.prog X.w H' h') (hg : AllBare g') :
    Inv X pins σ H' { s with heap := h', gens := g', drawn := d', toks := t' } := by
  have neL : ∀ b o, X.s₀.heap.get? b = some o → b ≠ X.env.locals := fun b o e => Nat.ne_of_lt (Nat.lt_of_lt_of_le (Heap.lt_size e) I.ok.above)
  have neC : ∀ b o, X.s₀.heap.get? b = some o → b ∉ X.ex → b ∉ ch := fun b o e hx hb => by
    rcases (hch b hb).1 with z | z
    · exact hx z
    · exact absurd (Nat.lt_of_lt_of_le (Heap.lt_size e) z) (Nat.lt_irrefl _)
  have cellK : ∀ x c, X.env.cells.lookup x = some c → ∀ v, s.heap.IsCell c v → h'.IsCell c v := fun x c e v ⟨o, ho, hd⟩ => by
    have nch : c ∉ ch := fun z => (hch c z).2.2.1 x c e rfl
    by_cases hc : c ∈ X.fs
    · obtain ⟨sl, q⟩ := slot c o (I.cne x c e) hc nch ho (I.freeC x c e)
      exact ⟨_, q, hd⟩
    · exact ⟨o, keep c o (I.cne x c e) hc nch ho (I.freeC x c e), hd⟩
  refine ⟨I.ok, I.os, hg, ⟨fun b o e n hb hx => ?_, fun b o e n hb hx => ?_, fun b o e n hx => ?_, fun b o e hx => ?_, fun b xs e => tups b xs (I.base.tups b xs e), fun b o xs e => frzs b o xs (I.base.frzs b o xs e), fun b ps e => ?_⟩, ?_, fun x c e => ?_, ?_, fun x c e => ?_, fun p hp => ?_, hok, I.len⟩
  · exact keep b o (neL b o e) hb (neC b o e hx) (I.base.keep b o e n hb hx) (I.base.free b o e n hx)
  · obtain ⟨sl, e1⟩ := I.base.slot b o e n hb hx
    obtain ⟨sl', e2⟩ := slot b _ (neL b o e) hb (neC b o e hx) e1 (I.base.free b o e n hx)
    exact ⟨sl', e2⟩
  · obtain ⟨o', e1⟩ := I.base.there b o e hx
    exact free b o' (neC b o e hx) e1 (I.base.free b o e n hx)
  · obtain ⟨o', e1⟩ := I.base.there b o e hx
    exact there b o' (neC b o e hx) e1
  · obtain ⟨m1, e1⟩ := I.base.tbls b ps e
    obtain ⟨m2, e2⟩ := tbls b _ e1
    exact ⟨m1 ++ m2, by rw [e2, Array.append_assoc]⟩
  · obtain ⟨m, hn, hl⟩ := I.loc
    refine ⟨m, ns m hn, fun i x v e1 e2 e3 => ?_⟩
    obtain ⟨u, r, l⟩ := hl i x v e1 e2 e3
    refine ⟨u, r, ?_⟩
    rcases l with l | ⟨k, c, e, z⟩
    · exact .inl l
    · exact .inr ⟨k, c, e, cellK x c e _ z⟩
  · obtain ⟨v, z⟩ := I.cell x c e
    exact ⟨v, cellK x c e v z⟩
  · obtain ⟨m, ⟨o, _, _, ho, _⟩, _⟩ := I.loc
    exact free _ o (fun z => (hch _ z).2.1 rfl) ho I.free
  · obtain ⟨v, o, ho, hd⟩ := I.cell x c e
    exact free c o (fun z => (hch c z).2.2.1 x c e rfl) ho (I.freeC x c e)
  · obtain ⟨e, n, ne, nf, d⟩ := I.pin p hp
    have nch : p.1 ∉ ch := fun z => (hch p.1 z).2.2.2 p hp rfl
    exact ⟨keep p.1 p.2 ne nf nch e n, free p.1 p.2 nch e n, ne, nf, d⟩
theorem Inv.un {t' : Nat} (I : Inv X pins σ H s) (u : Un X.fs [] H H' s.heap h') (hok : HOk X.prog X.w H' h') : Inv X pins σ H' { s with heap := h', toks := t' } := by
  obtain ⟨m, ⟨o, es, ep, ho, r⟩, _⟩ := id I.loc
  obtain ⟨sl, hL⟩ := u.any ho I.free (by simp)
  exact I.step (g' := s.gens) (d' := s.drawn) (ch := []) (fun _ z => nomatch z) (fun b o _ hb _ e n => u.keep b o e n hb (by simp)) (fun b o _ hb _ e n => u.slot b o e n hb (by simp)) (fun b o _ e n => u.free b o e n (by simp)) (fun b o _ e => u.there b o e (by simp)) u.tups u.frzs u.tbls (fun m' hm => by
    obtain ⟨o', es', ep', ho', r'⟩ := hm
    rw [ho] at ho'; cases ho'
    exact ⟨_, es', ep', hL, r'⟩) hok I.bare
theorem Inv.call {g' : Array GenState} {t' : Nat} {d' : Drawn} {ch : List Addr} (I : Inv X pins σ H s) (u : Un (frs X.stack) ch H H' s.heap h') (hok : HOk X.prog X.w H' h') (hg : AllBare g')
    (hch : ∀ b ∈ ch, (b ∈ X.ex ∨ X.s₀.heap.objs.size ≤ b) ∧ b ≠ X.env.locals ∧ (∀ x c, X.env.cells.lookup x = some c → c ≠ b) ∧ ∀ p ∈ X.pn ++ pins, p.1 ≠ b) :
    Inv X pins σ H' { s with heap := h', gens := g', drawn := d', toks := t' } := by
  obtain ⟨m, ⟨o, es, ep, ho, r⟩, _⟩ := id I.loc
  obtain ⟨sl, hL⟩ := u.any ho I.free fun z => (hch _ z).2.1 rfl
  exact I.step (ch := ch) hch (fun b o hL hb hc e n => u.keep b o e n (fun z => (List.mem_cons.mp (I.stkSub b z)).elim hL hb) hc) (fun b o _ _ hc e n => u.any e n hc) (fun b o hc e n => u.free b o e n hc) (fun b o hc e => u.there b o e hc) u.tups u.frzs u.tbls (fun m' hm => by
    obtain ⟨o', es', ep', ho', r'⟩ := hm
    rw [ho] at ho'; cases ho'
    exact ⟨_, es', ep', hL, r'⟩) hok hg
theorem Inv.turned {t' : Nat} {it : Addr} (I : Inv X pins σ H s) (k : ∀ b o, b ≠ it → s.heap.get? b = some o → h'.get? b = some o) (hn : H it = none) (hL : it ≠ X.env.locals)
    (h1 : it ∈ X.ex ∨ X.s₀.heap.objs.size ≤ it) (h2 : ∀ x c, X.env.cells.lookup x = some c → c ≠ it) (h3 : ∀ p ∈ X.pn ++ pins, p.1 ≠ it) : Inv X pins σ H { s with heap := h', toks := t' } := by
  have nit : ∀ b u, H b = some u → b ≠ it := fun b u e z => by rw [z, hn] at e; cases e
  refine I.step (g' := s.gens) (d' := s.drawn) (ch := [it]) (fun b hb => ?_) (fun b o _ _ hc e _ => k b o (fun z => hc (by simp [z])) e) (fun b o _ _ hc e _ => ⟨o.slots, k b o (fun z => hc (by simp [z])) e⟩) (fun _ _ _ _ n => n)
    (fun b o hc e => ⟨o, k b o (fun z => hc (by simp [z])) e⟩) (fun _ _ e => e) (fun _ _ _ e => e) (fun b ps e => ⟨#[], by rw [e]; simp⟩) (fun m hm => ?_) (fun b u e => ?_) I.bare
  · have e : b = it := by simpa using hb
    subst e
    exact ⟨h1, hL, h2, h3⟩
  · obtain ⟨o, es, ep, ho, r⟩ := hm
    exact ⟨o, es, ep, k _ o (Ne.symm hL) ho, r⟩
  · refine (I.hok b u e).stay (fun c v hc q => k c v ?_ q) (fun _ q => q) fun _ _ q => q
    rcases hc with z | z
    · rw [z]; exact nit b u e
    · exact nit c _ z
theorem Inv.tok (I : Inv X pins σ H s) (t : Nat) : Inv X pins σ H { s with toks := t } := I.un (h' := s.heap) (t' := t) Un.refl I.hok
theorem Inv.kept {t' : Nat} (I : Inv X pins σ H s) (k : ∀ b u, s.heap.get? b = some u → h'.get? b = some u) : Inv X pins σ H { s with heap := h', toks := t' } := I.un (Un.kept k) (I.hok.kept k)
theorem Inv.laid {a : Addr} {o : HO} {t' : Nat} (I : Inv X pins σ H s) (k : ∀ b u, s.heap.get? b = some u → h'.get? b = some u) (hp : s.heap.objs.size ≤ a) (new : ObjOk X.prog X.w (upd H a o) h' a o) :
    Inv X pins σ (upd H a o) { s with heap := h', toks := t' } := I.un (Un.laid k hp (I.hok.fresh hp)) (I.hok.laid k hp new)
theorem Inv.write {x e : Addr} {o : HO} {t' : Nat} (I : Inv X pins σ H s) (mu : Mut (H x)) (he : e = x ∨ H e = some (.own x)) (k : ∀ b u, b ≠ e → s.heap.get? b = some u → h'.get? b = some u) (heo : ∃ u, h'.get? e = some u)
    (new : ObjOk X.prog X.w (upd H x o) h' x o) : Inv X pins σ (upd H x o) { s with heap := h', toks := t' } := I.un (Un.write mu he k heo) (I.hok.write mu he k heo new)
theorem Inv.weak {σ' : List (Option V)} (I : Inv X pins σ H s) (hl : σ'.length = σ.length) (w : ∀ (i : Nat) v, σ'[i]? = some (some v) → σ[i]? = some (some v)) : Inv X pins σ' H s :=
  ⟨I.ok, I.os, I.bare, I.base, let ⟨m, hn, hl'⟩ := I.loc; ⟨m, hn, fun i x v e1 e2 e3 => hl' i x v e1 (w i v e2) e3⟩, I.cell, I.free, I.freeC, I.pin, I.hok, hl.trans I.len⟩
theorem Inv.pins_of {pins' : List (Addr × Obj)} (I : Inv X pins σ H s) (h : ∀ p ∈ pins', s.heap.get? p.1 = some p.2 ∧ H p.1 = none ∧ p.1 ≠ X.env.locals ∧ p.1 ∉ X.fs ∧ ∀ v, p.2.data ≠ .cell v) : Inv X pins' σ H s :=
  ⟨I.ok, I.os, I.bare, I.base, I.loc, I.cell, I.free, I.freeC, fun p hp => (List.mem_append.mp hp).elim (fun z => I.pin p (List.mem_append_left _ z)) (h p), I.hok, I.len⟩
theorem nodup_ix {N : List Str} (hN : N.Nodup) {i j : Nat} {x : Str} (a : N[i]? = some x) (b : N[j]? = some x) : i = j := by
  obtain ⟨h1, e1⟩ := List.getElem?_eq_some_iff.mp a
  obtain ⟨h2, e2⟩ := List.getElem?_eq_some_iff.mp b
  exact (List.getElem_inj hN).mp (e1.trans e2.symm)
theorem store_ok2 {M : Model} {A : Around} {E : Value → Shared → Prop} {i : Nat} {x : Str} {v : V} {u : Value} {Q : Unit → Shared → Prop} (I : Inv X pins σ H s) (hN : X.N.Nodup) (hi : X.N[i]? = some x) (hx : Loc X.env.scope x) (r : RelV v u)
    (h : ∀ s', Inv X pins (σ.set i (some v)) H s' → (∃ a, Heap.SameBut a s.heap s'.heap ∧ (a = X.env.locals ∨ X.env.cells.lookup x = some a)) → Q () s') (hf : X.fn x = true ∨ X.env.scope.names.lookup x = some .local := by first | exact .inl rfl | exact .inr rfl | assumption) : wpAny M A (storeName X.env x u) Q E s := by
  obtain ⟨m, hn, hl⟩ := id I.loc
  have hcls : (X.env.scope.kind == .class || (X.env.scope.kind == .module && X.env.locals != X.env.globals)) = false := by rw [I.ok.kind]; rfl
  have hiσ : i < σ.length := by rw [I.len]; exact (List.getElem?_eq_some_iff.mp hi).1
  have cne := I.cne
  have tracked : ∀ {a : Addr} {h' : Heap}, (∃ o, s.heap.get? a = some o ∧ H a = none) → Heap.SameBut a s.heap h' → HOk X.prog X.w H h' := fun {a h'} ha hs b ob e => by
    obtain ⟨_, _, hfree⟩ := ha
    refine (I.hok b ob e).stay (fun c w' hc q => (hs.2 c ?_).trans q) (fun _ q => q) fun _ _ q => q
    rintro rfl
    rcases hc with rfl | hc
    · rw [hfree] at e; cases e
    · rw [hfree] at hc; cases hc
  rcases hx with hk | hk
  · refine wpAny_storeName_local hk hn (fun h' hn' hs => ?_) hcls
    obtain ⟨oL, _, _, hoL, _⟩ := id hn
    refine h _ ⟨I.ok, I.os, I.bare, ⟨fun b o e n hb hx => ?_, fun b o e n hb hx => ?_, I.base.free, fun b o e hx => ?_, I.base.tups, I.base.frzs, I.base.tbls⟩, ⟨_, hn', fun j y v' e1 e2 e3 => ?_⟩, fun y c e => ?_, I.free, I.freeC, fun p hp => ?_, tracked ⟨oL, hoL, I.free⟩ hs, by simpa using I.len⟩ ⟨_, hs, .inl rfl⟩
    · exact (hs.2 b (Nat.ne_of_lt (Nat.lt_of_lt_of_le (Heap.lt_size e) I.ok.above))).trans (I.base.keep b o e n hb hx)
    · obtain ⟨sl, e1⟩ := I.base.slot b o e n hb hx
      exact ⟨sl, (hs.2 b (Nat.ne_of_lt (Nat.lt_of_lt_of_le (Heap.lt_size e) I.ok.above))).trans e1⟩
    · obtain ⟨o', e1⟩ := I.base.there b o e hx
      exact ⟨o', (hs.2 b (Nat.ne_of_lt (Nat.lt_of_lt_of_le (Heap.lt_size e) I.ok.above))).trans e1⟩
    · by_cases hj : j = i
      · subst hj
        rw [hi] at e1; cases e1
        rw [List.getElem?_set_self hiσ] at e2
        cases e2
        exact ⟨u, r, .inl ⟨hk, by simp⟩⟩
      · rw [List.getElem?_set_ne (Ne.symm hj)] at e2
        obtain ⟨u', r', q⟩ := hl j y v' e1 e2 e3
        refine ⟨u', r', ?_⟩
        rcases q with ⟨k, e⟩ | ⟨k, c, e, z⟩
        · refine .inl ⟨k, ?_⟩
          have : y ≠ x := fun e => hj (nodup_ix hN e1 (e ▸ hi))
          simp [this, e]
        · exact .inr ⟨k, c, e, z.sameBut hs (cne y c e)⟩
    · obtain ⟨w', z⟩ := I.cell y c e
      exact ⟨w', z.sameBut hs (cne y c e)⟩
    · obtain ⟨e, n, ne, nf, d⟩ := I.pin p hp
      exact ⟨(hs.2 p.1 ne).trans e, n, ne, nf, d⟩
  · have hfn : X.fn x = true := by
      rcases hf with z | z
      · exact z
      · rw [z] at hk; cases hk
    obtain ⟨c, hc⟩ := I.ok.has x (.inl hk)
    obtain ⟨w', z⟩ := I.cell x c hc
    refine wpAny_storeName_cell I.ok.kind hk hc z (fun h' hc' hs => ?_)
    obtain ⟨oc, hoc, hocd⟩ := id z
    refine h { s with heap := h' } ⟨I.ok, I.os, I.bare, ⟨fun b o e n hb hx => ?_, fun b o e n hb hx => ?_, I.base.free, fun b o e hx => ?_, I.base.tups, I.base.frzs, I.base.tbls⟩, ⟨m, hn.sameBut hs (Ne.symm (cne x c hc)), fun j y v' e1 e2 e3 => ?_⟩, fun y c' e => ?_, I.free, I.freeC, fun p hp => ?_, tracked ⟨oc, hoc, I.freeC x c hc⟩ hs, by simpa using I.len⟩ ⟨c, hs, .inr hc⟩
    · exact (hs.2 b (Nat.ne_of_lt (Nat.lt_of_lt_of_le (Heap.lt_size e) (I.ok.cab x c hfn hc)))).trans (I.base.keep b o e n hb hx)
    · obtain ⟨sl, e1⟩ := I.base.slot b o e n hb hx
      exact ⟨sl, (hs.2 b (Nat.ne_of_lt (Nat.lt_of_lt_of_le (Heap.lt_size e) (I.ok.cab x c hfn hc)))).trans e1⟩
    · obtain ⟨o', e1⟩ := I.base.there b o e hx
      exact ⟨o', (hs.2 b (Nat.ne_of_lt (Nat.lt_of_lt_of_le (Heap.lt_size e) (I.ok.cab x c hfn hc)))).trans e1⟩
    · by_cases hj : j = i
      · subst hj
        rw [hi] at e1; cases e1
        rw [List.getElem?_set_self hiσ] at e2
        cases e2
        exact ⟨u, r, .inr ⟨.inl hk, c, hc, hc'⟩⟩
      · rw [List.getElem?_set_ne (Ne.symm hj)] at e2
        obtain ⟨u', r', q⟩ := hl j y v' e1 e2 e3
        refine ⟨u', r', ?_⟩
        rcases q with q | ⟨k, c', e, z'⟩
        · exact .inl q
        · refine .inr ⟨k, c', e, z'.sameBut hs ?_⟩
          rintro rfl
          exact hj (nodup_ix hN e1 (I.ok.inj _ _ _ e hc ▸ hi))
    · by_cases hcc : c' = c
      · subst hcc; exact ⟨_, hc'⟩
      · obtain ⟨w2, z2⟩ := I.cell y c' e
        exact ⟨w2, z2.sameBut hs hcc⟩
    · obtain ⟨e, n, ne, nf, d⟩ := I.pin p hp
      refine ⟨(hs.2 p.1 ?_).trans e, n, ne, nf, d⟩
      intro q
      rw [q, hoc] at e
      have q' : oc = p.2 := Option.some.inj e
      exact d w' (by rw [← q']; exact hocd)
theorem store_ok {M : Model} {A : Around} {E : Value → Shared → Prop} {i : Nat} {x : Str} {v : V} {u : Value} {Q : Unit → Shared → Prop} (I : Inv X pins σ H s) (hN : X.N.Nodup) (hi : X.N[i]? = some x) (hx : Loc X.env.scope x) (r : RelV v u)
    (h : ∀ s', Inv X pins (σ.set i (some v)) H s' → Q () s') (hf : X.fn x = true ∨ X.env.scope.names.lookup x = some .local := by first | exact .inl rfl | exact .inr rfl | assumption) : wpAny M A (storeName X.env x u) Q E s :=
  store_ok2 I hN hi hx r (fun s' I' _ => h s' I') hf
theorem Inv.call' {s' : Shared} {ch : List Addr} (I : Inv X pins σ H s) (ho : s'.os = s.os) (u : Un (frs X.stack) ch H H' s.heap s'.heap) (hok : HOk X.prog X.w H' s'.heap) (hg : AllBare s'.gens)
    (hch : ∀ b ∈ ch, (b ∈ X.ex ∨ X.s₀.heap.objs.size ≤ b) ∧ b ≠ X.env.locals ∧ (∀ x c, X.env.cells.lookup x = some c → c ≠ b) ∧ ∀ p ∈ X.pn ++ pins, p.1 ≠ b) : Inv X pins σ H' s' := by
  obtain ⟨h', g', d', t', o'⟩ := s'
  have e : o' = s.os := ho
  subst e
  exact I.call (g' := g') (t' := t') (d' := d') u hok hg hch
end
abbrev XK := Value → Option Addr → Hp → Prop
abbrev St := List (Option V)
abbrev VK := V → Hp → Prop
abbrev TE := St → Hp → VK → Prop
abbrev TT := St → Hp → (Bool → Hp → Prop) → Prop
abbrev TA := St → Hp → (List V → Hp → Prop) → Prop
structure Ends where
  nx : St → Hp → Prop
  rt : VK
  bk : St → Hp → Prop := fun _ _ => False
  ct : St → Hp → Prop := fun _ _ => False
abbrev TS := Ends → St → Hp → Prop
def EP (X : Cx) (pins : List (Addr × Obj)) (σ : St) (Q : VK) (u : Value) (s' : Shared) : Prop := ∃ v H', Inv X pins σ H' s' ∧ RelV v u ∧ Q v H'
def TP (X : Cx) (pins : List (Addr × Obj)) (σ : St) (Q : Bool → Hp → Prop) (b : Bool) (s' : Shared) : Prop := ∃ H', Inv X pins σ H' s' ∧ Q b H'
def AP (X : Cx) (pins : List (Addr × Obj)) (σ : St) (Q : List V → Hp → Prop) (us : List Value) (s' : Shared) : Prop := ∃ vs H', Inv X pins σ H' s' ∧ Vals vs us ∧ Q vs H'
def SP (X : Cx) (pins : List (Addr × Obj)) (D : Ends) (f : Flow) (s' : Shared) : Prop :=
  match f with
  | .next => ∃ σ' H', Inv X pins σ' H' s' ∧ D.nx σ' H'
  | .brk => ∃ σ' H', Inv X pins σ' H' s' ∧ D.bk σ' H'
  | .cont => ∃ σ' H', Inv X pins σ' H' s' ∧ D.ct σ' H'
  | .ret u => ∃ v σ' H', Inv X pins σ' H' s' ∧ RelV v u ∧ D.rt v H'
def PE (X : Cx) (e : Expr) (t : TE) : Prop :=
  ∀ (pins : List (Addr × Obj)) (s : Shared) (σ : St) (H : Hp) (Q : VK), Inv X pins σ H s → t σ H Q → wpAny (model X.prog X.w) X.A (eval e X.env) (EP X pins σ Q) X.xe s
def PT (X : Cx) (e : Expr) (t : TT) : Prop :=
  ∀ (pins : List (Addr × Obj)) (s : Shared) (σ : St) (H : Hp) (Q : Bool → Hp → Prop), Inv X pins σ H s → t σ H Q → wpAny (model X.prog X.w) X.A (isTrue e X.env (eval e X.env)) (TP X pins σ Q) X.xe s
def PW (X : Cx) (e : Expr) (t : TT) : Prop :=
  ∀ (whole : Sem Value) (pins : List (Addr × Obj)) (s : Shared) (σ : St) (H : Hp) (Q : Bool → Hp → Prop), Inv X pins σ H s → t σ H Q → wpAny (model X.prog X.w) X.A (isTrue e X.env whole) (TP X pins σ Q) X.xe s
theorem PW.pt {X : Cx} {e : Expr} {t : TT} (h : PW X e t) : PT X e t := h _
def PA (X : Cx) (es : List Expr) (t : TA) : Prop :=
  ∀ (pos : Pos) (pins : List (Addr × Obj)) (s : Shared) (σ : St) (H : Hp) (Q : List V → Hp → Prop), Inv X pins σ H s → t σ H Q → wpAny (model X.prog X.w) X.A (spliced (backTo pos (starEach es X.env))) (AP X pins σ Q) X.xe s
def PS (X : Cx) (st : Stmt) (t : TS) : Prop :=
  ∀ (pins : List (Addr × Obj)) (s : Shared) (σ : St) (H : Hp) (D : Ends), Inv X pins σ H s → t D σ H → wpAny (model X.prog X.w) X.A (exec st X.env) (SP X pins D) X.xe s
def PSs (X : Cx) (st : List Stmt) (t : TS) : Prop :=
  ∀ (pins : List (Addr × Obj)) (s : Shared) (σ : St) (H : Hp) (D : Ends), Inv X pins σ H s → t D σ H → wpAny (model X.prog X.w) X.A (execs st X.env) (SP X pins D) X.xe s
theorem thn {α : Type} {t : Sem α} {Q Q' : α → Shared → Prop} {M : Model} {A : Around} {E : Value → Shared → Prop} {s : Shared} (h : wpAny M A t Q E s) (hQ : ∀ a s, Q a s → Q' a s) : wpAny M A t Q' E s := wpAny_mono h hQ fun _ _ x => x
end L2
namespace L2
open PySem PySem.Spec PyProof.Rows
section
variable {X : Cx}
def tVar (i : Nat) : TE := fun σ H Q => ∃ v, σ[i]? = some (some v) ∧ Q v H
def tC (v : V) : TE := fun _ H Q => Q v H
theorem pe_var {i : Nat} {x : Str} {pos : Pos} (hN : X.N[i]? = some x) (hv : Vis X.env.scope x) (hd : (x == ("__debug__" : Str)) = false := by decide) (hcd : (x == ("__classdict__" : Str)) = false := by decide) : PE X (.Name x pos) (tVar i) := by
  intro pins s σ H Q I h
  obtain ⟨v, e, h⟩ := h
  obtain ⟨m, hn, hl⟩ := I.loc
  obtain ⟨u, r, l⟩ := hl i x v hN e hv
  have fin : EP X pins σ Q u s := ⟨v, H, I, r, h⟩
  rcases l with ⟨hk, hm⟩ | ⟨hk, c, hc, hcell⟩
  · exact wpAny_Name (wpAny_loadName_local I.ok.kind hk hn hm fin) hd
  · rcases hk with hk | hk
    · exact wpAny_Name (wpAny_loadName_cell I.ok.kind hk hc hcell fin) hd
    · exact wpAny_Name (wpAny_loadName_free I.ok.kind hk hc hcell fin hcd) hd
theorem pe_int {i j pos} : PE X (.Constant (.int i) j pos) (tC (.int i)) := fun _ _ _ H _ I h => wpAny_Constant_int ⟨.int i, H, I.tok _, ⟨_, rfl⟩, h⟩
theorem pe_bl {b j pos} : PE X (.Constant (.bool b) j pos) (tC (.bl b)) := fun _ _ _ H _ I h => Constant_bool ⟨.bl b, H, I, rfl, h⟩
theorem pe_non {j pos} : PE X (.Constant .none j pos) (tC .non) := fun _ _ _ H _ I h => Constant_none ⟨.non, H, I, rfl, h⟩
theorem pe_str {x j pos} : PE X (.Constant (.str x) j pos) (tC (.str x)) := fun _ _ _ H _ I h => Calls.Constant_str ⟨.str x, H, I.tok _, ⟨_, rfl⟩, h⟩
def Gl (X : Cx) (x : Str) : Prop := X.env.kindOf x = some .globalImplicit
theorem ld_glob {E : Value → Shared → Prop} {pins : List (Addr × Obj)} {s : Shared} {σ : St} {H : Hp} {x : Str} {u : Value} {pos : Pos} {Q : Value → Shared → Prop} (I : Inv X pins σ H s) (hg : Gl X x) (hm : X.mg x = some u) (h : Q u s)
    (hd : (x == ("__debug__" : Str)) = false := by decide) : wpAny (model X.prog X.w) X.A (eval (.Name x pos) X.env) Q E s :=
  Calls.Name_function_global I.ok.kind hg (Calls.loadGlobal_global (by rw [I.ok.glob]; exact I.mod.glob.keeps I.bk) hm h) hd
theorem ld_blt {E : Value → Shared → Prop} {pins : List (Addr × Obj)} {s : Shared} {σ : St} {H : Hp} {x : Str} {u : Value} {pos : Pos} {Q : Value → Shared → Prop} (I : Inv X pins σ H s) (hg : Gl X x) (hm : X.mg x = none) (hv : bootBuiltins x = some u) (h : Q u s)
    (hn : x ≠ "__name__" := by decide) (hd : (x == ("__debug__" : Str)) = false := by decide) : wpAny (model X.prog X.w) X.A (eval (.Name x pos) X.env) Q E s := by
  obtain ⟨mb, h1, h2⟩ := I.mod.blt
  exact Calls.Name_function_global I.ok.kind hg (Calls.loadGlobal_builtin (by rw [I.ok.glob]; exact I.mod.glob.keeps I.bk) hm (by rw [I.ok.blt]; exact h1.keeps I.bk) ((h2 x hn).trans hv) h) hd
theorem pe_glob {x : Str} {v : V} {u : Value} {pos : Pos} (hg : Gl X x) (hm : X.mg x = some u) (r : RelV v u) (hd : (x == ("__debug__" : Str)) = false := by decide) : PE X (.Name x pos) (tC v) :=
  fun _ _ _ H _ I h => ld_glob I hg hm ⟨v, H, I, r, h⟩ hd
theorem pe_bltn {x : Str} {v : V} {u : Value} {pos : Pos} (hg : Gl X x) (hm : X.mg x = none) (hv : bootBuiltins x = some u) (r : RelV v u) (hn : x ≠ "__name__" := by decide) (hd : (x == ("__debug__" : Str)) = false := by decide) : PE X (.Name x pos) (tC v) :=
  fun _ _ _ H _ I h => ld_blt I hg hm hv ⟨v, H, I, r, h⟩ hn hd
variable {a b : Expr} {ta tb : TE} {pos : Pos}
def PC (X : Cx) (op : CmpOp) (a b : Expr) (t : TE) : Prop :=
  ∀ (pins : List (Addr × Obj)) (s : Shared) (σ : St) (H : Hp) (Q : VK), Inv X pins σ H s → t σ H Q →
    wpAny (model X.prog X.w) X.A (eval a X.env) (fun v s₁ => wpAny (model X.prog X.w) X.A (eval b X.env) (fun u s₂ => wpAny (model X.prog X.w) X.A (compareOp op v u) (EP X pins σ Q) X.xe s₂) X.xe s₁) X.xe s
theorem nobehind (b : Expr) {op : CmpOp} (h : op ≠ .In) (h2 : op ≠ .NotIn) : behindInMarks op b = false := by
  have e1 : (op == CmpOp.In) = false := by cases op <;> first | rfl | exact absurd rfl h
  have e2 : (op == CmpOp.NotIn) = false := by cases op <;> first | rfl | exact absurd rfl h2
  cases b <;> simp [behindInMarks, e1, e2]
def tB (t : TE) : TT := fun σ H Q => t σ H fun x H1 => ∃ c, x = .bl c ∧ Q c H1
theorem pe_cmp {op : CmpOp} {t : TE} (h : PC X op a b t) (h1 : behindInMarks op b = false := by first | exact nobehind _ (by decide) (by decide) | rfl) : PE X (.Compare a [op] [b] pos) t := fun pins s σ H Q I hw => wpAny_Compare1 (h pins s σ H Q I hw) h1
theorem pt_cmp {op : CmpOp} {t : TE} (h : PC X op a b t) (h1 : behindInMarks op b = false := by first | exact nobehind _ (by decide) (by decide) | rfl) : PT X (.Compare a [op] [b] pos) (tB t) := by
  intro pins s σ H Q I hw
  refine wpAny_isTrue_Compare1 (thn (h pins s σ H _ I hw) fun v s1 h1 => thn h1 fun u s2 h2 => thn h2 fun c s3 ⟨x, H1, I1, r1, q1⟩ => ?_) h1
  obtain ⟨d, rfl, q⟩ := q1
  cases r1
  exact wpAny_truthy_bool ⟨H1, I1, q⟩
theorem pt_val {e : Expr} {t : TE} (h : PE X e t) (he : ∀ whole, isTrue e X.env whole = (do let v ← whole; standAt e.pos; holding [v] (truthy v)) := by intro _; rfl) : PT X e (tB t) := by
  intro pins s σ H Q I hw
  refine isTrue_plain (thn (h pins s σ H _ I hw) fun v s1 ⟨x, H1, I1, r1, q1⟩ => ?_) (he _)
  obtain ⟨d, rfl, q⟩ := q1
  cases r1
  exact wpAny_truthy_bool ⟨H1, I1, q⟩
variable {tA tB' : TT} {rest : List Expr}
def tAnd (t u : TT) : TT := fun σ H Q => t σ H fun c H1 => if c = true then u σ H1 Q else Q false H1
def tOr (t u : TT) : TT := fun σ H Q => t σ H fun c H1 => if c = true then Q true H1 else u σ H1 Q
def tNot (t : TT) : TT := fun σ H Q => t σ H fun c H1 => Q (!c) H1
theorem pw_and1 (ha : PT X a tA) : PW X (.BoolOp .And [a] pos) tA := by
  intro wh pins s σ H Q I h
  refine isTrue_and (thn (ha pins s σ H Q I h) fun c s1 e => ?_)
  cases c with
  | true => exact isTrue_and_nil e
  | false => exact e
theorem pw_or1 (ha : PT X a tA) : PW X (.BoolOp .Or [a] pos) tA := by
  intro wh pins s σ H Q I h
  refine isTrue_or (thn (ha pins s σ H Q I h) fun c s1 e => ?_)
  cases c with
  | false => exact isTrue_or_nil e
  | true => exact e
theorem pw_and (ha : PT X a tA) (hb : PW X (.BoolOp .And (b :: rest) pos) tB') : PW X (.BoolOp .And (a :: b :: rest) pos) (tAnd tA tB') := by
  intro wh pins s σ H Q I h
  refine isTrue_and (thn (ha pins s σ H _ I h) fun c s1 ⟨H1, I1, q1⟩ => ?_)
  cases c with
  | true => exact hb wh pins s1 σ H1 Q I1 q1
  | false => exact ⟨H1, I1, q1⟩
theorem pw_or (ha : PT X a tA) (hb : PW X (.BoolOp .Or (b :: rest) pos) tB') : PW X (.BoolOp .Or (a :: b :: rest) pos) (tOr tA tB') := by
  intro wh pins s σ H Q I h
  refine isTrue_or (thn (ha pins s σ H _ I h) fun c s1 ⟨H1, I1, q1⟩ => ?_)
  cases c with
  | true => exact ⟨H1, I1, q1⟩
  | false => exact hb wh pins s1 σ H1 Q I1 q1
theorem pt_not (ha : PT X a tA) : PT X (.UnaryOp .Not a pos) (tNot tA) := by
  intro pins s σ H Q I h
  exact isTrue_not (ha pins s σ H (fun c H1 => Q (!c) H1) I h)
def tAndV (ta tb : TE) : TE := fun σ H Q => ta σ H fun x H1 => ∃ c, x = .bl c ∧ if c = true then tb σ H1 Q else Q (.bl false) H1
def tOrV (ta tb : TE) : TE := fun σ H Q => ta σ H fun x H1 => ∃ c, x = .bl c ∧ if c = true then Q (.bl true) H1 else tb σ H1 Q
def tNotV (ta : TE) : TE := fun σ H Q => ta σ H fun x H1 => ∃ c, x = .bl c ∧ Q (.bl (!c)) H1
theorem pe_one {op} {t : TE} (h : PE X a t) : PE X (.BoolOp op [a] pos) t := fun pins s σ H Q I hw => BoolOp_one (h pins s σ H Q I hw)
theorem pe_and (ha : PE X a ta) (hb : PE X (.BoolOp .And (b :: rest) pos) tb) : PE X (.BoolOp .And (a :: b :: rest) pos) (tAndV ta tb) := by
  intro pins s σ H Q I h
  refine BoolOp_and (thn (ha pins s σ H _ I h) fun v s1 ⟨x, H1, I1, r1, q1⟩ => ?_)
  obtain ⟨c, rfl, q1⟩ := q1
  cases r1
  refine wpAny_truthy_bool ?_
  cases c with
  | true => exact hb pins s1 σ H1 Q I1 q1
  | false => exact ⟨.bl false, H1, I1, rfl, q1⟩
theorem pe_not (ha : PE X a ta) : PE X (.UnaryOp .Not a pos) (tNotV ta) := by
  intro pins s σ H Q I h
  refine UnaryOp_ (thn (ha pins s σ H _ I h) fun v s1 ⟨x, H1, I1, r1, q1⟩ => ?_)
  obtain ⟨c, rfl, q1⟩ := q1
  cases r1
  exact not_of (wpAny_truthy_bool ⟨.bl (!c), H1, I1, rfl, q1⟩)
def tIf (t : TT) (ta tb : TE) : TE := fun σ H Q => t σ H fun c H1 => if c = true then ta σ H1 Q else tb σ H1 Q
theorem pe_ifExp {c : Expr} (hc : PT X c tA) (ha : PE X a ta) (hb : PE X b tb) : PE X (.IfExp c a b pos) (tIf tA ta tb) := by
  intro pins s σ H Q I h
  refine wpAny_IfExp (thn (hc pins s σ H _ I h) fun d s1 ⟨H1, I1, q1⟩ => ?_)
  cases d with
  | true => exact ha pins s1 σ H1 Q I1 q1
  | false => exact hb pins s1 σ H1 Q I1 q1
end
end L2
namespace L2
open PySem PySem.Spec PyProof.Rows
def SqL (K : PySem.W.Frag) (H : Hp) (a : Addr) (xs : List V) : Prop :=
  Rd H a (.lst xs) ∨
    ∃ (o : Obj) (its : Array Value) (n : Nat), K.lookup a = some o ∧ o.cls = .type "list" ∧ o.dict = none ∧ o.data = .seq its n ∧ its.size ≤ sizeLine ∧ Vals xs its.toList
def SqT (K : PySem.W.Frag) (H : Hp) (a : Addr) (xs : List V) : Prop :=
  Rd H a (.tup xs) ∨
    ∃ (o : Obj) (its : Array Value) (n : Nat), K.lookup a = some o ∧ o.cls = .type "tuple" ∧ o.data = .seq its n ∧ its.size ≤ sizeLine ∧ Vals xs its.toList
def absV : Value → Option V
  | .none => some .non
  | .bool b => some (.bl b)
  | .int i _ => some (.int i)
  | .str x _ => some (.str x)
  | .bytes b _ => some (.byt b)
  | .float b _ => some (.flt b)
  | .ref a => some (.ref a)
  | .type n => some (.ty n)
  | _ => none
theorem RelV.abs {x : V} {u : Value} (r : RelV x u) : absV u = some x := by
  cases x with
  | non => cases r; rfl
  | bl _ => cases r; rfl
  | int _ => obtain ⟨t, rfl⟩ := r; rfl
  | str _ => obtain ⟨t, rfl⟩ := r; rfl
  | byt _ => obtain ⟨t, rfl⟩ := r; rfl
  | flt _ => obtain ⟨t, rfl⟩ := r; rfl
  | ref _ => cases r; rfl
  | ty _ => cases r; rfl
theorem RelV.inj {x y : V} {u : Value} (r : RelV x u) (q : RelV y u) : x = y := Option.some.inj (r.abs.symm.trans q.abs)
theorem Vals.inj : ∀ {xs ys : List V} {us : List Value}, Vals xs us → Vals ys us → xs = ys
  | _, _, _, .nil, .nil => rfl
  | _, _, _, .cons r t, .cons r' t' => by rw [r.inj r', Vals.inj t t']
section
variable {X : Cx} {pins : List (Addr × Obj)} {σ : St} {H : Hp} {s : Shared} {a : Addr} {xs ys : List V}
theorem SqL.of {K : PySem.W.Frag} (h : H a = some (.lst xs)) : SqL K H a xs := .inl (.inl h)
theorem SqT.of {K : PySem.W.Frag} (h : H a = some (.tup xs)) : SqT K H a xs := .inl (.inl h)
theorem Inv.list (I : Inv X pins σ H s) (h : SqL X.K H a xs) : ∃ its : List Value, Vals xs its ∧ PlainL s.heap a its.toArray ∧ xs.length ≤ sizeLine := by
  rcases h with h | ⟨o, its, n, hk, hc, hd, hs, hz, r⟩
  · obtain ⟨z, its, n, r, e⟩ := h.ok I.hok
    exact ⟨its, r, ⟨_, n, e, rfl, rfl, rfl⟩, z⟩
  · refine ⟨its.toList, r, ⟨o, n, I.kIn a o hk, hc, hd, by simpa using hs⟩, ?_⟩
    have e := r.length
    simp only [Array.length_toList] at e
    omega
theorem Inv.tuple (I : Inv X pins σ H s) (h : SqT X.K H a xs) : ∃ its : List Value, Vals xs its ∧ IsTup s.heap a its.toArray ∧ xs.length ≤ sizeLine := by
  rcases h with h | ⟨o, its, n, hk, hc, hs, hz, r⟩
  · obtain ⟨z, its, r, p⟩ := h.ok I.hok
    exact ⟨its, r, p, z⟩
  · refine ⟨its.toList, r, ⟨o, I.kIn a o hk, hc, n, by simpa using hs⟩, ?_⟩
    have e := r.length
    simp only [Array.length_toList] at e
    omega
theorem Inv.list_inj (I : Inv X pins σ H s) (h : SqL X.K H a xs) (h' : SqL X.K H a ys) : xs = ys := by
  obtain ⟨its, r, ⟨o, n, e, _, _, d⟩, _⟩ := I.list h
  obtain ⟨its', r', ⟨o', n', e', _, _, d'⟩, _⟩ := I.list h'
  rw [e] at e'; cases e'
  rw [d] at d'
  injection d' with d1 _
  have : its = its' := by simpa using congrArg Array.toList d1
  subst this
  exact r.inj r'
theorem Inv.tuple_inj (I : Inv X pins σ H s) (h : SqT X.K H a xs) (h' : SqT X.K H a ys) : xs = ys := by
  obtain ⟨its, r, ⟨o, e, _, n, d⟩, _⟩ := I.tuple h
  obtain ⟨its', r', ⟨o', e', _, n', d'⟩, _⟩ := I.tuple h'
  rw [e] at e'; cases e'
  rw [d] at d'
  injection d' with d1 _
  have : its = its' := by simpa using congrArg Array.toList d1
  subst this
  exact r.inj r'
end
abbrev Cx.wish (X : Cx) (E : Value → Shared → Prop) : Cx := { X with xe := E }
abbrev Cx.nox (X : Cx) : Cx := X.wish fun _ _ => False
theorem Cx.Ok.wish {X : Cx} (ok : X.Ok) (E : Value → Shared → Prop) : (X.wish E).Ok :=
  ⟨ok.mod, ok.kind, ok.glob, ok.blt, ok.above, ok.inj, ok.has, ok.cab, ok.hd, ok.frames, ok.stk, ok.exf, ok.bs, ok.bsz, ok.noex, ok.exfs, ok.funs, ok.frf⟩
theorem Cx.Ok.unwish {X : Cx} {E : Value → Shared → Prop} (ok : (X.wish E).Ok) : X.Ok :=
  ⟨ok.mod, ok.kind, ok.glob, ok.blt, ok.above, ok.inj, ok.has, ok.cab, ok.hd, ok.frames, ok.stk, ok.exf, ok.bs, ok.bsz, ok.noex, ok.exfs, ok.funs, ok.frf⟩
section
variable {X : Cx} {pins : List (Addr × Obj)} {σ : St} {H : Hp} {s : Shared} {E : Value → Shared → Prop}
theorem Inv.wish (I : Inv X pins σ H s) (E : Value → Shared → Prop) : Inv (X.wish E) pins σ H s := ⟨I.ok.wish E, I.os, I.bare, I.base, I.loc, I.cell, I.free, I.freeC, I.pin, I.hok, I.len⟩
theorem Inv.unwish (I : Inv (X.wish E) pins σ H s) : Inv X pins σ H s := ⟨I.ok.unwish, I.os, I.bare, I.base, I.loc, I.cell, I.free, I.freeC, I.pin, I.hok, I.len⟩
theorem SP.unwish {D : Ends} {f : Flow} {s' : Shared} (h : SP (X.wish E) pins D f s') : SP X pins D f s' := by
  cases f with
  | next => obtain ⟨σ', H', I, q⟩ := h; exact ⟨σ', H', I.unwish, q⟩
  | brk => obtain ⟨σ', H', I, q⟩ := h; exact ⟨σ', H', I.unwish, q⟩
  | cont => obtain ⟨σ', H', I, q⟩ := h; exact ⟨σ', H', I.unwish, q⟩
  | ret u => obtain ⟨v, σ', H', I, r, q⟩ := h; exact ⟨v, σ', H', I.unwish, r, q⟩
theorem PE.nox {e : Expr} {t : TE} (h : PE X.nox e t) : PE X e t := fun pins s σ H Q I hw =>
  wpAny_mono (h pins s σ H Q (I.wish _) hw) (fun _ _ ⟨v, H', I', r, q⟩ => ⟨v, H', I'.unwish, r, q⟩) fun _ _ z => False.elim z
theorem PT.nox {e : Expr} {t : TT} (h : PT X.nox e t) : PT X e t := fun pins s σ H Q I hw =>
  wpAny_mono (h pins s σ H Q (I.wish _) hw) (fun _ _ ⟨H', I', q⟩ => ⟨H', I'.unwish, q⟩) fun _ _ z => False.elim z
theorem PSs.nox {st : List Stmt} {t : TS} (h : PSs X.nox st t) : PSs X st t := fun pins s σ H D I hw =>
  wpAny_mono (h pins s σ H D (I.wish _) hw) (fun _ _ q => q.unwish) fun _ _ z => False.elim z
end
section
variable {X : Cx} {st : Stmt} {rest : List Stmt} {t u : TS} {e : Expr} {te : TE} {pos : Pos}
def tNext : TS := fun D σ H => D.nx σ H
def tSeq (t u : TS) : TS := fun D σ H => t { D with nx := u D } σ H
theorem pss_nil : PSs X [] tNext := fun _ _ σ H _ I h => wpAny_execs_nil ⟨σ, H, I, h⟩
theorem pss_cons (h1 : PS X st t) (h2 : PSs X rest u) : PSs X (st :: rest) (tSeq t u) := by
  intro pins s σ H D I h
  refine wpAny_execs_cons (thn (h1 pins s σ H { D with nx := u D } I h) fun f s1 q => ?_)
  cases f with
  | next =>
    obtain ⟨σ', H', I', q⟩ := q
    exact h2 pins s1 σ' H' D I' q
  | ret v => exact q
  | brk => exact q
  | cont => exact q
theorem pss_one (h1 : PS X st t) : PSs X [st] t := by
  intro pins s σ H D I h
  refine wpAny_execs_cons (thn (h1 pins s σ H D I h) fun f s1 q => ?_)
  cases f with
  | next => exact wpAny_execs_nil q
  | ret v => exact q
  | brk => exact q
  | cont => exact q
theorem Inv.quiet {pins : List (Addr × Obj)} {σ : St} {H : Hp} {s : Shared} (I : Inv X pins σ H s) : interactive X.env = false := by simp [interactive, I.ok.kind]
def tDrop (te : TE) : TS := fun D σ H => te σ H fun _ H1 => D.nx σ H1
theorem ps_expr (he : PE X e te) (hs : swapsWith e none pos.line X.env = pure false := by rfl) : PS X (.Expr e pos) (tDrop te) := by
  intro pins s σ H D I h
  exact wpAny_Expr_any (thn (he pins s σ H _ I h) fun v s1 ⟨x, H1, I1, r1, q1⟩ => ⟨σ, H1, I1, q1⟩) I.quiet hs
def tRet (te : TE) : TS := fun D σ H => te σ H D.rt
theorem ps_ret (he : PE X e te) : PS X (.Return (some e) pos) (tRet te) := by
  intro pins s σ H D I h
  exact wpAny_Return_some (thn (he pins s σ H _ I h) fun v s1 ⟨x, H1, I1, r1, q1⟩ => ⟨x, σ, H1, I1, r1, q1⟩)
def tRetN : TS := fun D _ H => D.rt .non H
def tIfS (c : TT) (t u : TS) : TS := fun D σ H => c σ H fun b H1 => if b = true then t D σ H1 else u D σ H1
theorem ps_if {c : Expr} {a b : List Stmt} {tc : TT} (hc : PT X c tc) (ha : PSs X a t) (hb : PSs X b u) : PS X (.If c a b pos) (tIfS tc t u) := by
  intro pins s σ H D I h
  refine wpAny_If (thn (hc pins s σ H _ I h) fun d s1 ⟨H1, I1, q1⟩ => ?_)
  cases d with
  | true => exact ha pins s1 σ H1 D I1 q1
  | false => exact hb pins s1 σ H1 D I1 q1
def tNever : TS := fun _ _ _ => False
end
abbrev TG := V → St → Hp → (St → Hp → Prop) → Prop
abbrev TGs := List V → St → Hp → (St → Hp → Prop) → Prop
def PG (X : Cx) (target : Expr) (t : TG) : Prop :=
  ∀ (pins : List (Addr × Obj)) (s : Shared) (σ : St) (H : Hp) (v : V) (u : Value) (Q : St → Hp → Prop), Inv X pins σ H s → RelV v u → t v σ H Q →
    wpAny (model X.prog X.w) X.A (assign target X.env u) (fun _ s' => ∃ σ' H', Inv X pins σ' H' s' ∧ Q σ' H') X.xe s
def PGs (X : Cx) (ts : List Expr) (t : TGs) : Prop :=
  ∀ (pins : List (Addr × Obj)) (s : Shared) (σ : St) (H : Hp) (vs : List V) (us : List Value) (Q : St → Hp → Prop), Inv X pins σ H s → Vals vs us → t vs σ H Q →
    wpAny (model X.prog X.w) X.A (assignInOrder ((assignEach ts X.env).map (·.2)) us) (fun _ s' => ∃ σ' H', Inv X pins σ' H' s' ∧ Q σ' H') X.xe s
abbrev TSet := V → V → V → Hp → (Hp → Prop) → Prop
def PSet (X : Cx) (t : TSet) : Prop :=
  ∀ (pins : List (Addr × Obj)) (s : Shared) (σ : St) (H : Hp) (o i v : V) (ov iv u : Value) (Q : Hp → Prop), Inv X pins σ H s → RelV o ov → RelV i iv → RelV v u → t o i v H Q →
    wpAny (model X.prog X.w) X.A (setItem ov iv u) (fun _ s' => ∃ H', Inv X pins σ H' s' ∧ Q H') X.xe s
abbrev TIp := V → V → Hp → VK → Prop
section
variable {X : Cx} {pos : Pos}
def gName (i : Nat) : TG := fun v σ H Q => Q (σ.set i (some v)) H
theorem pg_name {i : Nat} {x : Str} (hN : X.N.Nodup) (hi : X.N[i]? = some x) (hx : Loc X.env.scope x) (hf : X.fn x = true ∨ X.env.scope.names.lookup x = some .local := by first | exact .inl rfl | exact .inr rfl | assumption) : PG X (.Name x pos) (gName i) := by
  intro pins s σ H v u Q I r h
  exact wpAny_assign_Name (store_ok I hN hi hx r (fun s' I' => ⟨_, H, I', h⟩) hf)
def gNil : TGs := fun vs σ H Q => vs = [] ∧ Q σ H
def gCons (t : TG) (u : TGs) : TGs := fun vs σ H Q => ∃ v r, vs = v :: r ∧ t v σ H fun σ' H' => u r σ' H' Q
theorem pgs_nil : PGs X [] gNil := by
  intro pins s σ H vs us Q I r h
  obtain ⟨e, h⟩ := h
  subst e
  cases r
  exact assignInOrder_nil ⟨σ, H, I, h⟩
theorem pgs_cons {e : Expr} {es : List Expr} {t : TG} {u : TGs} (h1 : PG X e t) (h2 : PGs X es u)
    (hs : (assignEach (e :: es) X.env).map (·.2) = assign e X.env :: (assignEach es X.env).map (·.2) := by rfl) : PGs X (e :: es) (gCons t u) := by
  intro pins s σ H vs us Q I r h
  obtain ⟨v, vr, e1, h⟩ := h
  subst e1
  cases r with
  | cons r rr =>
    rw [hs]
    refine assignInOrder_cons (thn (h1 pins s σ H _ _ _ I r h) fun _ s1 ⟨σ1, H1, I1, q1⟩ => ?_)
    exact h2 pins s1 σ1 H1 _ _ Q I1 rr q1
def gTup (K : PySem.W.Frag) (n : Nat) (t : TGs) : TG := fun v σ H Q => ∃ a xs, v = .ref a ∧ SqT K H a xs ∧ xs.length = n ∧ t xs σ H Q
theorem pg_tup {es : List Expr} {k : Nat} {t : TGs} {n : Nat} (hc : X.calm = true) (h : PGs X es t)
    (hn : (assignEach es X.env).length = n := by rfl) (hst : (assignEach es X.env).findIdx? (·.1) = none := by rfl) : PG X (.Tuple es k pos) (gTup X.K n t) := by
  intro pins s σ H v u Q I r hw
  obtain ⟨a, xs, e1, hq, hl, hw⟩ := hw
  subst e1
  cases r
  obtain ⟨its, rv, ht, hz⟩ := I.tuple hq
  refine assign_Tuple_tuple (I.ok.hd hc) ht (by simp [hn, ← hl, rv.length]) hst fun h' hx => ?_
  have I1 : Inv X pins σ H { s with heap := h' } := I.kept (t' := s.toks) fun b o e => hx b o (Nat.ne_of_lt (Heap.lt_size e)) e
  exact h pins _ σ H xs _ Q I1 (by simpa using rv) hw
def gSub (to ti : TE) (t : TSet) : TG := fun v σ H Q => to σ H fun o H1 => ti σ H1 fun i H2 => t o i v H2 fun H3 => Q σ H3
theorem pg_sub {o i : Expr} {to ti : TE} {t : TSet} (ho : PE X o to) (hi : PE X i ti) (hs : PSet X t)
    (ha : ∀ v, assign (.Subscript o i pos) X.env v = (do
      let ov ← holding [v] (eval o X.env)
      let iv ← holding [v, ov] (eval i X.env)
      standAt pos
      holding [v, ov, iv] (setItem ov iv v)
      release [v, ov, iv] []) := by intro _; rfl) : PG X (.Subscript o i pos) (gSub to ti t) := by
  intro pins s σ H v u Q I r h
  rw [ha]
  refine wpAny_bind (wpAny_holding (thn (ho pins s σ H _ I h) fun ov s1 ⟨x, H1, I1, r1, q1⟩ => ?_))
  refine wpAny_bind (wpAny_holding (thn (hi pins s1 σ H1 _ I1 q1) fun iv s2 ⟨y, H2, I2, r2, q2⟩ => ?_))
  refine wpAny_bind (wpAny_standAt (wpAny_bind (wpAny_holding (thn (hs pins s2 σ H2 x y v ov iv u _ I2 r1 r2 r q2) fun _ s3 ⟨H3, I3, q3⟩ => ?_))))
  exact wpAny_release ⟨σ, H3, I3, q3⟩
def tAsg (te : TE) (g : TG) : TS := fun D σ H => te σ H fun x H1 => g x σ H1 D.nx
theorem ps_asg {tg e : Expr} {te : TE} {g : TG} (he : PE X e te) (hg : PG X tg g) (hs : swapsWithSole [tg] e pos.line X.env = pure false := by rfl) (hw : swappedStores [tg] e X.env = pure none := by rfl)
    (h1 : (assignEach [tg] X.env).map (·.2) = [assign tg X.env] := by rfl) : PS X (.Assign [tg] e pos) (tAsg te g) := by
  intro pins s σ H D I h
  refine wpAny_Assign_stores (thn (he pins s σ H _ I h) fun v s1 ⟨x, H1, I1, r1, q1⟩ => ?_) hs hw
  rw [h1]
  exact thn (hg pins s1 σ H1 x v _ I1 r1 q1) fun _ s2 q => q
theorem ps_set {i : Nat} {x : Str} {e : Expr} {te : TE} {pos' : Pos} (hN : X.N.Nodup) (hi : X.N[i]? = some x) (hx : Loc X.env.scope x) (he : PE X e te) (hs : swapsWith e (some (.Name x pos')) pos.line X.env = pure false := by rfl) (hf : X.fn x = true ∨ X.env.scope.names.lookup x = some .local := by first | exact .inl rfl | exact .inr rfl | assumption) :
    PS X (.Assign [.Name x pos'] e pos) (tAsg te (gName i)) := by
  intro pins s σ H D I h
  refine wpAny_Assign_Name (thn (he pins s σ H _ I h) fun v s1 ⟨y, H1, I1, r1, q1⟩ => ?_) hs
  exact store_ok I1 hN hi hx r1 (fun s2 I2 => ⟨_, H1, I2, q1⟩) hf
def tAug (i : Nat) (te : TE) (ti : TIp) : TS := fun D σ H => ∃ x, σ[i]? = some (some x) ∧ te σ H fun y H1 => ti x y H1 fun z H2 => D.nx (σ.set i (some z)) H2
def ipI (f : Int → Int → Int) : TIp := fun x y H Q => ∃ i j, x = .int i ∧ y = .int j ∧ Q (.int (f i j)) H
end
section
variable {X : Cx} {pos : Pos}
def tWhile (c : TT) (tb : TS) : TS := fun D σ H => ∃ W : Nat → St → Hp → Prop, (∃ m, W m σ H) ∧ ∀ m σ H, W m σ H →
  c σ H fun b H1 => if b = true then ∃ N : St → Hp → Prop, (∀ σ' H', N σ' H' → ∃ m', m' < m ∧ W m' σ' H') ∧ tb { D with nx := N, ct := N, bk := D.nx } σ H1 else D.nx σ H1
end
structure It where
  go : Nat → Hp → Prop
  yld : Nat → Hp → V → Hp → Prop
  stop : Nat → Hp → Prop
def FpOk (X : Cx) (pins : List (Addr × Obj)) (H : Hp) (b : Addr) : Prop :=
  H b = none ∧ b ≠ X.env.locals ∧ b ∉ X.fs ∧ (b ∈ X.ex ∨ X.s₀.heap.objs.size ≤ b) ∧ (∀ x c, X.env.cells.lookup x = some c → c ≠ b) ∧ ∀ p ∈ X.pn ++ pins, p.1 ≠ b
theorem Inv.fpOk {X : Cx} {pins : List (Addr × Obj)} {σ : St} {H H' : Hp} {s : Shared} {b : Addr} (I : Inv X pins σ H s) (hb : s.heap.objs.size ≤ b) (hn : H' b = none) : FpOk X pins H' b := by
  refine ⟨hn, Nat.ne_of_gt (Nat.lt_of_lt_of_le I.lt hb), I.nofs hb, .inr (Nat.le_trans I.sz hb), fun x c e z => ?_, fun p hp z => ?_⟩
  · obtain ⟨v, q⟩ := I.cell x c e
    exact absurd (Nat.lt_of_lt_of_le q.lt (by rw [z]; exact hb)) (Nat.lt_irrefl _)
  · exact absurd (Nat.lt_of_lt_of_le (Heap.lt_size (I.pin p hp).1) (by rw [z]; exact hb)) (Nat.lt_irrefl _)
structure Turn (P : Program) (w : World) (K : PySem.W.Frag) (tg : Expr) (J : It) (fp : List Addr) (it : Addr) (tn : Nat → Heap → Prop) : Prop where
  mem : it ∈ fp
  obj : ∀ i h, tn i h → ∀ b ∈ fp, ∃ o, h.get? b = some o ∧ ∀ v, o.data ≠ .cell v
  keep : ∀ i h h', tn i h → (∀ b ∈ fp, ∀ o, h.get? b = some o → h'.get? b = some o) → tn i h'
  item : ∀ (X : Cx), X.prog = P → X.w = w → X.K = K → X.calm = true → ∀ (i : Nat) (pins : List (Addr × Obj)) (s : Shared) (σ : St) (H : Hp) (E : Value → Shared → Prop), Inv X pins σ H s → (∀ b ∈ fp, FpOk X pins H b) → tn i s.heap → J.go i H →
    wpAny (model P w) X.A (pyNext (.ref it)) (fun r s1 => ∃ u, r = some u ∧
      wpAny (model P w) X.A (letOwnedTupleGo tg (.ref it) u) (fun _ s2 => ∃ x H', Inv X pins σ H' s2 ∧ RelV x u ∧ J.yld i H x H' ∧ tn (i + 1) s2.heap ∧ ∀ b ∈ fp, H' b = none) E s1) E s
  done : ∀ (X : Cx), X.prog = P → X.w = w → X.K = K → X.calm = true → ∀ (i : Nat) (pins : List (Addr × Obj)) (s : Shared) (σ : St) (H : Hp) (E : Value → Shared → Prop), Inv X pins σ H s → (∀ b ∈ fp, FpOk X pins H b) → tn i s.heap → J.stop i H →
    wpAny (model P w) X.A (pyNext (.ref it)) (fun r s1 => r = none ∧ Inv X pins σ H s1) E s
  self : ∀ (A : Around) (i : Nat) (s : Shared) (Q : Value → Shared → Prop) (E : Value → Shared → Prop), tn i s.heap → Q (.ref it) s → wpAny (model P w) A (pyIter (.ref it)) Q E s
abbrev TI := St → Hp → (It → Hp → Prop) → Prop
def PIE (X : Cx) (pins : List (Addr × Obj)) (σ : St) (tg : Expr) (R : It → Hp → Prop) (itv : Value) (s2 : Shared) : Prop :=
  ∃ (it : Addr) (fp : List Addr) (tn : Nat → Heap → Prop) (J : It) (H' : Hp), itv = .ref it ∧ Inv X pins σ H' s2 ∧ Turn X.prog X.w X.K tg J fp it tn ∧ tn 0 s2.heap ∧ (∀ b ∈ fp, FpOk X pins H' b) ∧ R J H'
def PI (X : Cx) (tg iter : Expr) (wi : TI) : Prop :=
  ∀ (pins : List (Addr × Obj)) (s : Shared) (σ : St) (H : Hp) (R : It → Hp → Prop), Inv X pins σ H s → wi σ H R →
    wpAny (model X.prog X.w) X.A (eval iter X.env) (fun v s1 => wpAny (model X.prog X.w) X.A (pyIter v) (PIE X pins σ tg R) X.xe s1) X.xe s
theorem go_of {M : Model} {A : Around} {E : Value → Shared → Prop} {s : Shared} {tg : Expr} {it : Addr} {u : Value} {o : Obj} {n : String} {vs : Array Value} {Q : Unit → Shared → Prop} (ho : s.heap.get? it = some o) (hc : o.cls = .type n) (hd : o.data = .fields vs)
    (hn : ["enumerate", "zip", "dict_itemiterator", "dict_reverseitemiterator", "odict_iterator", "itertools.zip_longest", "itertools.pairwise"].contains n = false) (hQ : Q () s) : wpAny M A (letOwnedTupleGo tg (.ref it) u) Q E s := by
  unfold letOwnedTupleGo
  cases tg <;> first
    | exact wpAny_pure hQ
    | (cases u <;> first
        | exact wpAny_pure hQ
        | (refine wpAny_bind (wpAny_load ho ?_)
           rw [hc, hd]
           show wpAny M A (if (["enumerate", "zip", "dict_itemiterator", "dict_reverseitemiterator", "odict_iterator", "itertools.zip_longest", "itertools.pairwise"].contains n && vs[0]? == some (rawInt _)) = true then _ else _) Q E s
           rw [if_neg (by intro h; rw [hn, Bool.false_and] at h; cases h)]
           exact wpAny_pure hQ))
def Itl (K : PySem.W.Frag) (a : Addr) : It :=
  ⟨fun i H => ∃ xs x, SqL K H a xs ∧ xs[i]? = some x, fun i H x H' => H' = H ∧ ∀ xs, SqL K H a xs → xs[i]? = some x, fun i H => ∃ xs, SqL K H a xs ∧ xs.length ≤ i⟩
def Itt (K : PySem.W.Frag) (a : Addr) : It :=
  ⟨fun i H => ∃ xs x, SqT K H a xs ∧ xs[i]? = some x, fun i H x H' => H' = H ∧ ∀ xs, SqT K H a xs → xs[i]? = some x, fun i H => ∃ xs, SqT K H a xs ∧ xs.length ≤ i⟩
def Itr (lo : Int) (n : Nat) : It := ⟨fun i _ => i < n, fun i H x H' => H' = H ∧ x = .int (lo + i), fun i _ => n ≤ i⟩
theorem turn_list {P : Program} {w : World} {K : PySem.W.Frag} {tg : Expr} (a it : Addr) : Turn P w K tg (Itl K a) [it] it (fun i h => h.IsListIter it a i) where
  mem := by simp
  obj := fun i h st b hb => by
    have e : b = it := by simpa using hb
    subst e
    obtain ⟨o, e, c, d⟩ := st
    exact ⟨o, e, fun v z => by rw [d] at z; cases z⟩
  keep := fun i h h' st k => st.at fun o e => k it (by simp) o e
  item := by
    intro X hP hw hK hc i pins s σ H E I hf st hg
    subst hP hw hK
    obtain ⟨xs, x, hq, hx⟩ := hg
    obtain ⟨its, rv, p, hz⟩ := I.list hq
    obtain ⟨u, hu, ru⟩ := rv.get hx
    obtain ⟨f0, f1, f2, f3, f4, f5⟩ := hf it (by simp)
    refine wpAny_pyNext_list_item st p.isList (x := u) (by simpa using hu) fun h' st' sb => ?_
    have I1 : Inv X pins σ H { s with heap := h' } := I.turned (t' := s.toks) (fun b o hb e => (sb.2 b hb).trans e) f0 f1 f3 f4 f5
    obtain ⟨o, e, c, d⟩ := id st'
    exact ⟨u, rfl, go_of (s := { s with heap := h' }) e c d (by decide) ⟨x, H, I1, ru, ⟨rfl, fun ys hy => by rw [I.list_inj hy hq]; exact hx⟩, st', fun b hb => (hf b hb).1⟩⟩
  done := by
    intro X hP hw hK hc i pins s σ H E I hf st hg
    subst hP hw hK
    obtain ⟨xs, hq, hx⟩ := hg
    obtain ⟨its, rv, p, hz⟩ := I.list hq
    obtain ⟨f0, f1, f2, f3, f4, f5⟩ := hf it (by simp)
    have hl := rv.length
    exact wpAny_pyNext_list_end (I.ok.hd hc) st p.isList (by simp; omega) fun h' eb => ⟨rfl, I.turned (t' := s.toks) (fun b o hb e => eb b o hb e) f0 f1 f3 f4 f5⟩
  self := fun _ _ _ _ _ st h => wpAny_pyIter_listiter st h
theorem turn_range {P : Program} {w : World} {K : PySem.W.Frag} {tg : Expr} (it : Addr) (lo : Int) (n : Nat) : Turn P w K tg (Itr lo n) [it] it (fun i h => IsRangeIter h it (lo + (i : Nat) * 1) ((n : Int) - (i : Nat)) 1) where
  mem := by simp
  obj := fun i h st b hb => by
    have e : b = it := by simpa using hb
    subst e
    exact ⟨_, st, fun v z => by
      have z' : Data.fields _ = Data.cell v := z
      cases z'⟩
  keep := fun i h h' st k => k it (by simp) _ st
  item := by
    intro X hP hw hK hc i pins s σ H E I hf st hg
    subst hP hw hK
    obtain ⟨f0, f1, f2, f3, f4, f5⟩ := hf it (by simp)
    have W := Walks.range (prog := X.prog) (w := X.w) (I.ok.hd hc) it lo 1 n
    refine W.item i s _ _ hg st fun v h' tk hv st' kk => ?_
    obtain ⟨t, rfl⟩ := hv
    have I1 : Inv X pins σ H { s with heap := h', toks := tk } := I.turned (fun b o hb e => kk b o (by simpa using hb) e) f0 f1 f3 f4 f5
    refine ⟨_, rfl, go_of (s := { s with heap := h', toks := tk }) (n := "range_iterator") st' rfl rfl (by decide) ⟨.int (lo + i), H, I1, ⟨t, ?_⟩, ⟨rfl, rfl⟩, st', fun b hb => (hf b hb).1⟩⟩
    rw [Int.mul_one]
  done := by
    intro X hP hw hK hc i pins s σ H E I hf st hg
    subst hP hw hK
    obtain ⟨f0, f1, f2, f3, f4, f5⟩ := hf it (by simp)
    exact wpAny_pyNext_range_end (I.ok.hd hc) st (by have : n ≤ i := hg; omega) fun h' eb => ⟨rfl, I.turned (t' := s.toks) (fun b o hb e => eb b o hb e) f0 f1 f3 f4 f5⟩
  self := fun _ _ _ _ _ st h => wpAny_pyIter_rangeiter st h
end L2
namespace L2
open PySem PySem.Spec PyProof.Rows
section
variable {X : Cx} {tg : Expr}
def iList (K : PySem.W.Frag) (tl : TE) : TI := fun σ H R => tl σ H fun x H1 => ∃ a, x = .ref a ∧ (∃ xs, SqL K H1 a xs) ∧ R (Itl K a) H1
def iTup (K : PySem.W.Frag) (tl : TE) : TI := fun σ H R => tl σ H fun x H1 => ∃ a, x = .ref a ∧ (∃ xs, SqT K H1 a xs) ∧ R (Itt K a) H1
theorem pi_list {l : Expr} {tl : TE} (hl : PE X l tl) : PI X tg l (iList X.K tl) := by
  intro pins s σ H R I h
  refine thn (hl pins s σ H _ I h) fun v s1 ⟨x, H1, I1, r1, q1⟩ => ?_
  obtain ⟨a, e, ⟨xs, hq⟩, q⟩ := q1
  subst e
  cases r1
  obtain ⟨its, rv, p, hz⟩ := I1.list hq
  refine wpAny_pyIter_list p.isList ?_
  refine ⟨s1.heap.objs.size, [s1.heap.objs.size], _, _, H1, rfl, I1.kept (t' := s1.toks) fun b o e => Heap.get?_push_of_some _ e, turn_list a _, ⟨_, Heap.get?_push_size _ rfl, rfl, rfl⟩, fun b hb => ?_, q⟩
  have e : b = s1.heap.objs.size := by simpa using hb
  subst e
  exact I1.fpOk (Nat.le_refl _) (I1.hok.fresh (Nat.le_refl _))
theorem range_it {pins : List (Addr × Obj)} {σ : St} {H : Hp} {s : Shared} {R : It → Hp → Prop} {E : Value → Shared → Prop} {lo hi : Int} {t u v : Tok} {tk : Nat} (I : Inv X pins σ H s) (h1 : -(2 ^ 62) ≤ lo) (h2 : lo < 2 ^ 62) (h3 : -(2 ^ 62) ≤ hi) (h4 : hi < 2 ^ 62)
    (q : R (Itr lo (hi - lo).toNat) H) : wpAny (model X.prog X.w) X.A (pyIter (.ref s.heap.objs.size)) (PIE X pins σ tg R) E { s with heap := s.heap.push { cls := .type "range", data := .fields #[.int lo t, .int hi u, .int 1 v] }, toks := tk } := by
  refine wpAny_pyIter_range (IsRange.new ..) (small_one h1 h2 h3 h4) ?_
  have I1 : Inv X pins σ H { s with heap := s.heap.push { cls := .type "range", data := .fields #[.int lo t, .int hi u, .int 1 v] }, toks := tk } := I.kept fun b o e => Heap.get?_push_of_some _ e
  refine ⟨(s.heap.push { cls := .type "range", data := .fields #[.int lo t, .int hi u, .int 1 v] }).objs.size, [(s.heap.push { cls := .type "range", data := .fields #[.int lo t, .int hi u, .int 1 v] }).objs.size], _, _, H, rfl,
    I1.kept (t' := tk) fun b o e => Heap.get?_push_of_some _ e, turn_range _ lo (hi - lo).toNat, ?_, fun b hb => ?_, q⟩
  · have e1 : lo + ((0 : Nat) : Int) * 1 = lo := by simp
    have e2 : (((hi - lo).toNat : Nat) : Int) - ((0 : Nat) : Int) = Builtin.Range.rangeSize lo hi 1 := by rw [rangeSize_one]; split <;> omega
    show IsRangeIter _ _ (lo + ((0 : Nat) : Int) * 1) ((((hi - lo).toNat : Nat) : Int) - ((0 : Nat) : Int)) 1
    rw [e1, e2]
    exact Heap.get?_push_size _ rfl
  · have e : b = (s.heap.push { cls := .type "range", data := .fields #[.int lo t, .int hi u, .int 1 v] }).objs.size := by simpa using hb
    subst e
    exact I1.fpOk (Nat.le_refl _) (I1.hok.fresh (Nat.le_refl _))
def iRng1 (ta : TA) : TI := fun σ H R => ta σ H fun vs H1 => ∃ j : Int, vs = [.int j] ∧ -(2 ^ 62) ≤ j ∧ j < 2 ^ 62 ∧ R (Itr 0 j.toNat) H1
def iRng2 (ta : TA) : TI := fun σ H R => ta σ H fun vs H1 => ∃ i j : Int, vs = [.int i, .int j] ∧ (-(2 ^ 62) ≤ i ∧ i < 2 ^ 62 ∧ -(2 ^ 62) ≤ j ∧ j < 2 ^ 62) ∧ R (Itr i (j - i).toNat) H1
theorem pi_range1 {a : Expr} {ta : TA} {p pos : Pos} (hg : Gl X "range") (hm : X.mg "range" = none) (ha : PA X [a] ta) (hs : starEach [a] X.env = [(false, eval a X.env)] := by rfl) : PI X tg (.Call (.Name "range" p) [a] [] pos) (iRng1 ta) := by
  intro pins s σ H R I h
  refine Call_ (ld_blt I hg hm boot_range (PyProof.Rows.callWith_type1 (thn (ha pos pins s σ H _ I h) fun us s1 ⟨vs, H1, I1, r1, q1⟩ => ?_) hs rfl))
  obtain ⟨j, e, q1, q2, q⟩ := q1
  subst e
  cases r1 with
  | cons r rr =>
    cases rr
    obtain ⟨t, rfl⟩ := r
    exact call_range_1 (range_it I1 (by omega) (by omega) q1 q2 (by simpa using q))
theorem pi_range2 {a b : Expr} {ta : TA} {p pos : Pos} (hg : Gl X "range") (hm : X.mg "range" = none) (ha : PA X [a, b] ta) (hs : starEach [a, b] X.env = [(false, eval a X.env), (false, eval b X.env)] := by rfl) (hs2 : starEach [b] X.env = [(false, eval b X.env)] := by rfl) :
    PI X tg (.Call (.Name "range" p) [a, b] [] pos) (iRng2 ta) := by
  intro pins s σ H R I h
  refine Call_ (ld_blt I hg hm boot_range (PyProof.Rows.callWith_type1 (thn (ha pos pins s σ H _ I h) fun us s1 ⟨vs, H1, I1, r1, q1⟩ => ?_) (by rw [hs, hs2]) (by rw [hs2]; rfl)))
  obtain ⟨i, j, e, ⟨q1, q2, q3, q4⟩, q⟩ := q1
  subst e
  cases r1 with
  | cons r rr =>
    cases rr with
    | cons r' rr =>
      cases rr
      obtain ⟨t, rfl⟩ := r
      obtain ⟨t', rfl⟩ := r'
      exact call_range_2 (range_it I1 q1 q2 q3 q4 q)
def tFor (wi : TI) (g : TG) (tb : TS) : TS := fun D σ H => wi σ H fun J H1 => ∃ W : Nat → Nat → St → Hp → Prop, (∃ m, W 0 m σ H1) ∧ ∀ i m σ H, W i m σ H →
  (J.stop i H ∧ D.nx σ H) ∨ (J.go i H ∧ ∃ N : St → Hp → Prop, (∀ σ' H', N σ' H' → ∃ m', m' < m ∧ W (i + 1) m' σ' H') ∧ ∀ x H', J.yld i H x H' → g x σ H' fun σ2 H2 => tb { D with nx := N, ct := N, bk := D.nx } σ2 H2)
def pinsAt (fp : List Addr) (h : Heap) : List (Addr × Obj) := fp.filterMap fun b => (h.get? b).map fun o => (b, o)
theorem mem_pinsAt {fp : List Addr} {h : Heap} {b : Addr} {o : Obj} (hb : b ∈ fp) (e : h.get? b = some o) : (b, o) ∈ pinsAt fp h := List.mem_filterMap.mpr ⟨b, hb, by rw [e]; rfl⟩
theorem of_pinsAt {fp : List Addr} {h : Heap} {p : Addr × Obj} (hp : p ∈ pinsAt fp h) : p.1 ∈ fp ∧ h.get? p.1 = some p.2 := by
  obtain ⟨b, hb, e⟩ := List.mem_filterMap.mp hp
  cases q : h.get? b with
  | none => rw [q] at e; cases e
  | some o =>
    rw [q] at e
    have e' : (b, o) = p := Option.some.inj e
    subst e'
    exact ⟨hb, q⟩
theorem Inv.pinned {pins : List (Addr × Obj)} {σ : St} {H : Hp} {s : Shared} {fp : List Addr} (I : Inv X pins σ H s) (hf : ∀ b ∈ fp, FpOk X pins H b) (ho : ∀ b ∈ fp, ∃ o, s.heap.get? b = some o ∧ ∀ v, o.data ≠ .cell v) : Inv X (pins ++ pinsAt fp s.heap) σ H s :=
  I.pins_of fun p hp => (List.mem_append.mp hp).elim (fun z => I.pin p (List.mem_append_right _ z)) fun z => by
    obtain ⟨hb, e⟩ := of_pinsAt z
    obtain ⟨f0, f1, f2, _⟩ := hf p.1 hb
    obtain ⟨o, e', d⟩ := ho p.1 hb
    rw [e] at e'; cases e'
    exact ⟨e, f0, f1, f2, d⟩
theorem Inv.unpinned {pins pl : List (Addr × Obj)} {σ : St} {H : Hp} {s : Shared} (I : Inv X (pins ++ pl) σ H s) : Inv X pins σ H s := I.pins_of fun p hp => I.pin p (List.mem_append_right _ (List.mem_append_left _ hp))
theorem ps_for {iter : Expr} {body : List Stmt} {wi : TI} {g : TG} {tb : TS} {pos : Pos} (hp : PassesOwn (model X.prog X.w) X.A X.env X.xe) (hc : X.calm = true) (hi : PI X tg iter wi) (hg : PG X tg g) (hb : PSs X body tb)
    (hs : ∀ x, foldedSetIterable iter X.env x = pure x := by intro _; rfl) : PS X (.For tg iter body [] pos) (tFor wi g tb) := by
  intro pins s σ H D I h
  refine wpAny_For (thn (hi pins s σ H _ I h) fun v s1 h1 => thn h1 fun itv s2 h2 => ?_) hs
  obtain ⟨it, fp, tn, J, H2, e, I2, T, st2, f2, W, ⟨m0, w0⟩, turn⟩ := h2
  subst e
  have stat : ∀ {H' : Hp}, (∀ b ∈ fp, H' b = none) → ∀ b ∈ fp, FpOk X pins H' b := fun hn b hb => ⟨hn b hb, (f2 b hb).2⟩
  refine codeAny_forLoop_any (fun n s' => ∃ i σ' H', Inv X pins σ' H' s' ∧ tn i s'.heap ∧ (∀ b ∈ fp, H' b = none) ∧ W i n σ' H') ?_ m0 ⟨0, σ, H2, I2, st2, fun b hb => (f2 b hb).1, w0⟩
  rintro n s3 ⟨i, σ3, H3, I3, st3, fr3, w3⟩
  rcases turn i n σ3 H3 w3 with ⟨stop, qn⟩ | ⟨go, N, hN, step⟩
  · refine wpAny_passesOwn hp (thn (T.done X rfl rfl rfl hc i pins s3 σ3 H3 X.xe I3 (stat fr3) st3 stop) fun r s4 ⟨hr, I4⟩ => ?_)
    subst hr
    exact wpAny_execs_nil ⟨σ3, H3, I4, qn⟩
  · refine wpAny_passesOwn hp (thn (T.item X rfl rfl rfl hc i pins s3 σ3 H3 X.xe I3 (stat fr3) st3 go) fun r s4 ⟨u, hr, h4⟩ => ?_)
    subst hr
    refine wpAny_passesOwn hp (thn h4 fun _ s5 ⟨x, H5, I5, r5, y5, st5, fr5⟩ => ?_)
    have I5' := I5.pinned (stat fr5) (T.obj _ _ st5)
    refine wpAny_passesOwn hp (thn (hg _ s5 σ3 H5 x u _ I5' r5 (step x H5 y5)) fun _ s6 ⟨σ6, H6, I6, q6⟩ => ?_)
    refine wpAny_passesOwn hp (thn (hb _ s6 σ6 H6 _ I6 q6) fun f s7 q7 => ?_)
    have again : ∀ {σ7 : St} {H7 : Hp}, Inv X (pins ++ pinsAt fp s5.heap) σ7 H7 s7 → N σ7 H7 → ∃ m, m < n ∧ ∃ i σ' H', Inv X pins σ' H' s7 ∧ tn i s7.heap ∧ (∀ b ∈ fp, H' b = none) ∧ W i m σ' H' := fun {σ7 H7} I7 n7 => by
      obtain ⟨m', hm, w7⟩ := hN σ7 H7 n7
      refine ⟨m', hm, i + 1, σ7, H7, I7.unpinned, T.keep _ _ _ st5 fun b hb o e => (I7.pin (b, o) (List.mem_append_right _ (List.mem_append_right _ (mem_pinsAt hb e)))).1, fun b hb => ?_, w7⟩
      obtain ⟨o, e, d⟩ := T.obj _ _ st5 b hb
      exact (I7.pin (b, o) (List.mem_append_right _ (List.mem_append_right _ (mem_pinsAt hb e)))).2.1
    cases f with
    | next => obtain ⟨σ7, H7, I7, n7⟩ := q7; exact again I7 n7
    | cont => obtain ⟨σ7, H7, I7, n7⟩ := q7; exact again I7 n7
    | brk => obtain ⟨σ7, H7, I7, q7⟩ := q7; exact ⟨σ7, H7, I7.unpinned, q7⟩
    | ret v => obtain ⟨x7, σ7, H7, I7, r7, q7⟩ := q7; exact ⟨x7, σ7, H7, I7.unpinned, r7, q7⟩
end
theorem for_list {K : PySem.W.Frag} {a : Addr} {xs : List V} {g : TG} {tb : TS} {D : Ends} {σ : St} {H : Hp} (Pv : Nat → St → Hp → Prop) (h0 : Pv 0 σ H) (hl : ∀ i σ H, i ≤ xs.length → Pv i σ H → SqL K H a xs)
    (hs : ∀ i x σ H, xs[i]? = some x → Pv i σ H → g x σ H fun σ2 H2 => tb { D with nx := Pv (i + 1), ct := Pv (i + 1), bk := D.nx } σ2 H2) (hd : ∀ σ H, Pv xs.length σ H → D.nx σ H) :
    ∃ W : Nat → Nat → St → Hp → Prop, (∃ m, W 0 m σ H) ∧ ∀ i m σ H, W i m σ H →
      ((Itl K a).stop i H ∧ D.nx σ H) ∨ ((Itl K a).go i H ∧ ∃ N : St → Hp → Prop, (∀ σ' H', N σ' H' → ∃ m', m' < m ∧ W (i + 1) m' σ' H') ∧ ∀ x H', (Itl K a).yld i H x H' → g x σ H' fun σ2 H2 => tb { D with nx := N, ct := N, bk := D.nx } σ2 H2) := by
  refine ⟨fun i m σ H => m = xs.length - i ∧ i ≤ xs.length ∧ Pv i σ H, ⟨xs.length, by simp, Nat.zero_le _, h0⟩, ?_⟩
  rintro i m σ H ⟨rfl, hi, p⟩
  have q := hl i σ H hi p
  by_cases hlt : i < xs.length
  · refine .inr ⟨⟨xs, xs[i], q, by simp [hlt]⟩, Pv (i + 1), fun σ' H' p' => ⟨xs.length - (i + 1), by omega, rfl, hlt, p'⟩, fun x H' y => ?_⟩
    obtain ⟨e, y⟩ := y
    subst e
    exact hs i x σ _ (y xs q) p
  · have e : i = xs.length := by omega
    subst e
    exact .inl ⟨⟨xs, q, Nat.le_refl _⟩, hd σ H p⟩
theorem for_range {lo : Int} {n : Nat} {g : TG} {tb : TS} {D : Ends} {σ : St} {H : Hp} (Pv : Nat → St → Hp → Prop) (h0 : Pv 0 σ H)
    (hs : ∀ i σ H, i < n → Pv i σ H → g (.int (lo + i)) σ H fun σ2 H2 => tb { D with nx := Pv (i + 1), ct := Pv (i + 1), bk := D.nx } σ2 H2) (hd : ∀ σ H, Pv n σ H → D.nx σ H) :
    ∃ W : Nat → Nat → St → Hp → Prop, (∃ m, W 0 m σ H) ∧ ∀ i m σ H, W i m σ H →
      ((Itr lo n).stop i H ∧ D.nx σ H) ∨ ((Itr lo n).go i H ∧ ∃ N : St → Hp → Prop, (∀ σ' H', N σ' H' → ∃ m', m' < m ∧ W (i + 1) m' σ' H') ∧ ∀ x H', (Itr lo n).yld i H x H' → g x σ H' fun σ2 H2 => tb { D with nx := N, ct := N, bk := D.nx } σ2 H2) := by
  refine ⟨fun i m σ H => m = n - i ∧ i ≤ n ∧ Pv i σ H, ⟨n, by simp, Nat.zero_le _, h0⟩, ?_⟩
  rintro i m σ H ⟨rfl, hi, p⟩
  by_cases hlt : i < n
  · refine .inr ⟨hlt, Pv (i + 1), fun σ' H' p' => ⟨n - (i + 1), by omega, rfl, hlt, p'⟩, fun x H' y => ?_⟩
    obtain ⟨e, y⟩ := y
    subst e y
    exact hs i σ _ hlt p
  · have e : i = n := by omega
    subst e
    exact .inl ⟨Nat.le_refl _, hd σ H p⟩
end L2
namespace L2
open PySem PySem.Spec PyProof.Rows
abbrev R2 := V → V → Hp → VK → Prop
def OpR (X : Cx) (f : Value → Value → Sem Value) (r : R2) : Prop :=
  ∀ (pins : List (Addr × Obj)) (s : Shared) (σ : St) (H : Hp) (x y : V) (v u : Value) (Q : VK), Inv X pins σ H s → RelV x v → RelV y u → r x y H Q →
    wpAny (model X.prog X.w) X.A (f v u) (EP X pins σ Q) X.xe s
def UnR (X : Cx) (f : Value → Sem Value) (r : V → Hp → VK → Prop) : Prop :=
  ∀ (pins : List (Addr × Obj)) (s : Shared) (σ : St) (H : Hp) (x : V) (v : Value) (Q : VK), Inv X pins σ H s → RelV x v → r x H Q →
    wpAny (model X.prog X.w) X.A (f v) (EP X pins σ Q) X.xe s
def CallR (X : Cx) (f : Value) (r : List V → Hp → VK → Prop) : Prop :=
  ∀ (pins : List (Addr × Obj)) (s : Shared) (σ : St) (H : Hp) (xs : List V) (us : List Value) (Q : VK), Inv X pins σ H s → Vals xs us → r xs H Q →
    wpAny (model X.prog X.w) X.A (call f us) (EP X pins σ Q) X.xe s
def tOp (r : R2) (ta tb : TE) : TE := fun σ H Q => ta σ H fun x H1 => tb σ H1 fun y H2 => r x y H2 Q
def tUn (r : V → Hp → VK → Prop) (ta : TE) : TE := fun σ H Q => ta σ H fun x H1 => r x H1 Q
def rI (C : Int → Int → Prop) (g : Int → Int → V) : R2 := fun x y H Q => ∃ i j, x = .int i ∧ y = .int j ∧ C i j ∧ Q (g i j) H
def rI0 (g : Int → Int → V) : R2 := fun x y H Q => ∃ i j, x = .int i ∧ y = .int j ∧ Q (g i j) H
def rU (g : Int → V) : V → Hp → VK → Prop := fun x H Q => ∃ i, x = .int i ∧ Q (g i) H
section
variable {X : Cx} {a b c : Expr} {ta tb tc : TE} {pos : Pos}
theorem binT (ha : PE X a ta) (hb : PE X b tb) {pins : List (Addr × Obj)} {s : Shared} {σ : St} {H : Hp} {R : V → V → Hp → Prop} (I : Inv X pins σ H s)
    (h : ta σ H fun x H1 => tb σ H1 fun y H2 => R x y H2) {Q : Value → Shared → Prop} {f : Value → Value → Sem Value}
    (hf : ∀ v u s2 x y H2, Inv X pins σ H2 s2 → RelV x v → RelV y u → R x y H2 → wpAny (model X.prog X.w) X.A (f v u) Q X.xe s2) :
    wpAny (model X.prog X.w) X.A (eval a X.env) (fun v s₁ => wpAny (model X.prog X.w) X.A (eval b X.env) (fun u s₂ => wpAny (model X.prog X.w) X.A (f v u) Q X.xe s₂) X.xe s₁) X.xe s := by
  refine thn (ha pins s σ H _ I h) fun v s1 ⟨x, H1, I1, r1, q1⟩ => ?_
  refine thn (hb pins s1 σ H1 _ I1 q1) fun u s2 ⟨y, H2, I2, r2, q2⟩ => ?_
  exact hf v u s2 x y H2 I2 r1 r2 q2
theorem pe_op {op : Operator} {r : R2} (ho : OpR X (binaryOp op) r) (ha : PE X a ta) (hb : PE X b tb) : PE X (.BinOp a op b pos) (tOp r ta tb) := by
  intro pins s σ H Q I h
  exact wpAny_BinOp (binT ha hb I h fun v u s2 x y H2 I2 rx ry q => ho pins s2 σ H2 x y v u Q I2 rx ry q)
theorem pe_un {op : UnaryOp} {r : V → Hp → VK → Prop} (ho : UnR X (unaryOp op) r) (ha : PE X a ta) : PE X (.UnaryOp op a pos) (tUn r ta) := by
  intro pins s σ H Q I h
  exact UnaryOp_ (thn (ha pins s σ H _ I h) fun v s1 ⟨x, H1, I1, r1, q1⟩ => ho pins s1 σ H1 x v Q I1 r1 q1)
theorem opI {f : Value → Value → Sem Value} {C : Int → Int → Prop} {g : Int → Int → Int}
    (rule : ∀ (i j : Int) (t u : Tok) (s : Shared) (Q : Value → Shared → Prop) (E : Value → Shared → Prop), C i j → Q (.int (g i j) s.toks) { s with toks := s.toks + 1 } → wpAny (model X.prog X.w) X.A (f (.int i t) (.int j u)) Q E s) :
    OpR X f (rI C fun i j => .int (g i j)) := by
  intro pins s σ H x y v u Q I rx ry h
  obtain ⟨i, j, rfl, rfl, hc, q⟩ := h
  obtain ⟨t, rfl⟩ := rx
  obtain ⟨t', rfl⟩ := ry
  exact rule i j t t' s _ _ hc ⟨.int (g i j), H, I.tok _, ⟨_, rfl⟩, q⟩
theorem opI0 {f : Value → Value → Sem Value} {g : Int → Int → Int}
    (rule : ∀ (i j : Int) (t u : Tok) (s : Shared) (Q : Value → Shared → Prop) (E : Value → Shared → Prop), Q (.int (g i j) s.toks) { s with toks := s.toks + 1 } → wpAny (model X.prog X.w) X.A (f (.int i t) (.int j u)) Q E s) :
    OpR X f (rI0 fun i j => .int (g i j)) := by
  intro pins s σ H x y v u Q I rx ry h
  obtain ⟨i, j, rfl, rfl, q⟩ := h
  obtain ⟨t, rfl⟩ := rx
  obtain ⟨t', rfl⟩ := ry
  exact rule i j t t' s _ _ ⟨.int (g i j), H, I.tok _, ⟨_, rfl⟩, q⟩
theorem opB0 {f : Value → Value → Sem Value} {g : Int → Int → Bool}
    (rule : ∀ (i j : Int) (t u : Tok) (s : Shared) (Q : Value → Shared → Prop) (E : Value → Shared → Prop), Q (.bool (g i j)) s → wpAny (model X.prog X.w) X.A (f (.int i t) (.int j u)) Q E s) :
    OpR X f (rI0 fun i j => .bl (g i j)) := by
  intro pins s σ H x y v u Q I rx ry h
  obtain ⟨i, j, rfl, rfl, q⟩ := h
  obtain ⟨t, rfl⟩ := rx
  obtain ⟨t', rfl⟩ := ry
  exact rule i j t t' s _ _ ⟨.bl (g i j), H, I, rfl, q⟩
def CPow (i j : Int) : Prop := 0 ≤ j ∧ j ≤ 1000000 ∧ i.natAbs < 2 ^ 64
def CMul (i j : Int) : Prop := (-(2 ^ 64) < i ∧ i < 2 ^ 64) ∨ (-(2 ^ 64) < j ∧ j < 2 ^ 64)
theorem CMul.ok {i j : Int} (h : CMul i j) : IntMulOk i j := by
  rcases h with ⟨h1, h2⟩ | ⟨h1, h2⟩
  · exact .of_left (intBits_le_64 h1 h2)
  · exact .of_right (intBits_le_64 h1 h2)
theorem two_pow_nn (k : Nat) : (0 : Int) ≤ 2 ^ k := by
  rw [two_pow_cast]
  exact Int.natCast_nonneg _
theorem op_add : OpR X (binaryOp .Add) (rI0 fun i j => .int (i + j)) := opI0 fun _ _ _ _ _ _ _ q => add_int q
theorem op_sub : OpR X (binaryOp .Sub) (rI0 fun i j => .int (i - j)) := opI0 fun _ _ _ _ _ _ _ q => sub_int q
theorem op_mul : OpR X (binaryOp .Mult) (rI CMul fun i j => .int (i * j)) := opI fun _ _ _ _ _ _ _ hc q => mul_int q hc.ok
theorem op_mod : OpR X (binaryOp .Mod) (rI (fun _ j => 0 < j) fun i j => .int (i % j)) := opI fun i j _ _ _ _ _ hc q => by
  have h1 : (0 : Int) < j := hc
  exact mod_int' (by omega) (by rw [Int.fmod_eq_emod_of_nonneg i (by omega)]; exact q)
theorem op_pow : OpR X (binaryOp .Pow) (rI CPow fun i j => .int (i ^ j.toNat)) := opI fun _ _ _ _ _ _ _ hc q => pow_int_small hc.1 hc.2.1 hc.2.2 q
theorem op_shr : OpR X (binaryOp .RShift) (rI (fun _ j => 0 ≤ j) fun i j => .int (i / 2 ^ j.toNat)) := opI fun i j _ _ _ _ _ hc q =>
  rshift_int hc (by rw [Int.fdiv_eq_ediv_of_nonneg i (two_pow_nn _)]; exact q)
theorem op_and : OpR X (binaryOp .BitAnd) (rI0 fun i j => .int (Builtin.bitAnd i j)) := opI0 fun _ _ _ _ _ _ _ q => and_int q
theorem op_or : OpR X (binaryOp .BitOr) (rI0 fun i j => .int (Builtin.bitOr i j)) := opI0 fun _ _ _ _ _ _ _ q => or_int q
theorem unI {f : Value → Sem Value} {g : Int → Int}
    (rule : ∀ (i : Int) (t : Tok) (s : Shared) (Q : Value → Shared → Prop) (E : Value → Shared → Prop), Q (.int (g i) s.toks) { s with toks := s.toks + 1 } → wpAny (model X.prog X.w) X.A (f (.int i t)) Q E s) :
    UnR X f (rU fun i => .int (g i)) := by
  intro pins s σ H x v Q I rx h
  obtain ⟨i, rfl, q⟩ := h
  obtain ⟨t, rfl⟩ := rx
  exact rule i t s _ _ ⟨.int (g i), H, I.tok _, ⟨_, rfl⟩, q⟩
theorem un_neg : UnR X (unaryOp .USub) (rU fun i => .int (-i)) := unI fun _ _ _ _ _ q => neg_int q
end
def scal : V → V → Bool
  | .non, .non => true | .non, .int _ => true | .int _, .non => true | .non, .bl _ => true | .bl _, .non => true | .non, .str _ => true | .str _, .non => true
  | .int _, .int _ => true | .bl _, .bl _ => true | .str _, .str _ => true | .byt _, .byt _ => true
  | .int _, .str _ => true | .str _, .int _ => true | .bl _, .str _ => true | .str _, .bl _ => true
  | _, _ => false
def rEq : R2 := fun x y H Q => scal x y = true ∧ Q (.bl (decide (x = y))) H
def rNe : R2 := fun x y H Q => scal x y = true ∧ Q (.bl (!decide (x = y))) H
theorem dec_int {i j : Int} : decide (V.int i = V.int j) = (i == j) := by
  rw [Bool.eq_iff_iff]
  simp
theorem dec_bl {i j : Bool} : decide (V.bl i = V.bl j) = (i == j) := by
  rw [Bool.eq_iff_iff]
  simp
theorem dec_str {i j : Str} : decide (V.str i = V.str j) = (i == j) := by
  rw [Bool.eq_iff_iff]
  simp
theorem dec_byt {i j : Array UInt8} : decide (V.byt i = V.byt j) = (i.toList == j.toList) := by
  rw [Bool.eq_iff_iff]
  cases i
  cases j
  simp
section
variable {X : Cx} {a b c : Expr} {ta tb tc : TE} {pos : Pos}
theorem fin_bl {pins : List (Addr × Obj)} {σ : St} {H : Hp} {s : Shared} {Q : VK} {k k' : Bool} (I : Inv X pins σ H s) (q : Q (.bl k) H) (e : k = k') : EP X pins σ Q (.bool k') s := by
  subst e
  exact ⟨.bl k, H, I, rfl, q⟩
theorem op_eq : OpR X (compareOp .Eq) rEq := by
  intro pins s σ H x y v u Q I rx ry h
  obtain ⟨hs, q⟩ := h
  cases x with
  | non =>
    cases rx
    cases y with
    | non => cases ry; exact PySem.EqNone.eq_none_none (fin_bl I q (by simp))
    | bl j => cases ry; exact PySem.EqNone.eq_none_bool (fin_bl I q (by simp))
    | int j => obtain ⟨t', rfl⟩ := ry; exact PySem.EqNone.eq_none_int (fin_bl I q (by simp))
    | str j => obtain ⟨t', rfl⟩ := ry; exact PySem.EqNone.eq_none_str (fin_bl I q (by simp))
    | _ => exact absurd (show false = true from hs) Bool.false_ne_true
  | bl i =>
    cases rx
    cases y with
    | non => cases ry; exact PySem.EqNone.eq_bool_none (fin_bl I q (by simp))
    | bl j => cases ry; exact eq_bool (fin_bl I q dec_bl)
    | str j => obtain ⟨t', rfl⟩ := ry; exact PySem.EqMixed.eq_bool_str (fin_bl I q (by simp))
    | _ => exact absurd (show false = true from hs) Bool.false_ne_true
  | int i =>
    obtain ⟨t, rfl⟩ := rx
    cases y with
    | non => cases ry; exact PySem.EqNone.eq_int_none (fin_bl I q (by simp))
    | int j => obtain ⟨t', rfl⟩ := ry; exact eq_int (fin_bl I q dec_int)
    | str j => obtain ⟨t', rfl⟩ := ry; exact PySem.EqMixed.eq_int_str (fin_bl I q (by simp))
    | _ => exact absurd (show false = true from hs) Bool.false_ne_true
  | str i =>
    obtain ⟨t, rfl⟩ := rx
    cases y with
    | non => cases ry; exact PySem.EqNone.eq_str_none (fin_bl I q (by simp))
    | bl j => cases ry; exact PySem.EqMixed.eq_str_bool (fin_bl I q (by simp))
    | int j => obtain ⟨t', rfl⟩ := ry; exact PySem.EqMixed.eq_str_int (fin_bl I q (by simp))
    | str j => obtain ⟨t', rfl⟩ := ry; exact eq_str (fin_bl I q dec_str)
    | _ => exact absurd (show false = true from hs) Bool.false_ne_true
  | byt i =>
    obtain ⟨t, rfl⟩ := rx
    cases y with
    | byt j => obtain ⟨t', rfl⟩ := ry; exact PySem.W.eq_bytes (fin_bl I q dec_byt)
    | _ => exact absurd (show false = true from hs) Bool.false_ne_true
  | _ => cases y <;> exact absurd (show false = true from hs) Bool.false_ne_true
theorem op_ne : OpR X (compareOp .NotEq) rNe := by
  intro pins s σ H x y v u Q I rx ry h
  obtain ⟨hs, q⟩ := h
  cases x with
  | non =>
    cases rx
    cases y with
    | non => cases ry; exact PySem.EqNone.ne_none_none (fin_bl I q (by simp))
    | bl j => cases ry; exact PySem.EqNone.ne_none_bool (fin_bl I q (by simp))
    | int j => obtain ⟨t', rfl⟩ := ry; exact PySem.EqNone.ne_none_int (fin_bl I q (by simp))
    | str j => obtain ⟨t', rfl⟩ := ry; exact PySem.EqNone.ne_none_str (fin_bl I q (by simp))
    | _ => exact absurd (show false = true from hs) Bool.false_ne_true
  | bl i =>
    cases rx
    cases y with
    | non => cases ry; exact PySem.EqNone.ne_bool_none (fin_bl I q (by simp))
    | bl j => cases ry; exact ne_bool (fin_bl I q (congrArg not dec_bl))
    | str j => obtain ⟨t', rfl⟩ := ry; exact PySem.EqMixed.ne_bool_str (fin_bl I q (by simp))
    | _ => exact absurd (show false = true from hs) Bool.false_ne_true
  | int i =>
    obtain ⟨t, rfl⟩ := rx
    cases y with
    | non => cases ry; exact PySem.EqNone.ne_int_none (fin_bl I q (by simp))
    | int j => obtain ⟨t', rfl⟩ := ry; exact ne_int (fin_bl I q (congrArg not dec_int))
    | str j => obtain ⟨t', rfl⟩ := ry; exact PySem.EqMixed.ne_int_str (fin_bl I q (by simp))
    | _ => exact absurd (show false = true from hs) Bool.false_ne_true
  | str i =>
    obtain ⟨t, rfl⟩ := rx
    cases y with
    | non => cases ry; exact PySem.EqNone.ne_str_none (fin_bl I q (by simp))
    | bl j => cases ry; exact PySem.EqMixed.ne_str_bool (fin_bl I q (by simp))
    | int j => obtain ⟨t', rfl⟩ := ry; exact PySem.EqMixed.ne_str_int (fin_bl I q (by simp))
    | str j => obtain ⟨t', rfl⟩ := ry; exact ne_str (fin_bl I q (congrArg not dec_str))
    | _ => exact absurd (show false = true from hs) Bool.false_ne_true
  | byt i =>
    obtain ⟨t, rfl⟩ := rx
    cases y with
    | byt j => obtain ⟨t', rfl⟩ := ry; exact PySem.W.ne_bytes (fin_bl I q (congrArg not dec_byt))
    | _ => exact absurd (show false = true from hs) Bool.false_ne_true
  | _ => cases y <;> exact absurd (show false = true from hs) Bool.false_ne_true
theorem op_lt : OpR X (compareOp .Lt) (rI0 fun i j => .bl (decide (i < j))) := opB0 fun _ _ _ _ _ _ _ q => lt_int q
theorem op_le : OpR X (compareOp .LtE) (rI0 fun i j => .bl (decide (i ≤ j))) := opB0 fun _ _ _ _ _ _ _ q => le_int q
theorem op_gt : OpR X (compareOp .Gt) (rI0 fun i j => .bl (decide (j < i))) := opB0 fun _ _ _ _ _ _ _ q => gt_int q
theorem op_isN : OpR X (compareOp .Is) (fun x y H Q => y = .non ∧ Q (.bl (decide (x = .non))) H) := by
  intro pins s σ H x y v u Q I rx ry h
  obtain ⟨rfl, q⟩ := h
  cases ry
  refine is_none_gen (fin_bl I q ?_)
  cases x <;> first
    | (cases rx; rfl)
    | (obtain ⟨t, rfl⟩ := rx; rfl)
theorem op_notN : OpR X (compareOp .IsNot) (fun x y H Q => y = .non ∧ Q (.bl (!decide (x = .non))) H) := by
  intro pins s σ H x y v u Q I rx ry h
  obtain ⟨rfl, q⟩ := h
  cases ry
  refine isnot_none_gen (fin_bl I q ?_)
  cases x <;> first
    | (cases rx; rfl)
    | (obtain ⟨t, rfl⟩ := rx; rfl)
theorem nomark (b : Expr) {op : CmpOp} (h : op ≠ .In := by decide) (h2 : op ≠ .NotIn := by decide) : behindInMarks op b = false := by
  have e1 : (op == CmpOp.In) = false := by cases op <;> first | rfl | exact absurd rfl h
  have e2 : (op == CmpOp.NotIn) = false := by cases op <;> first | rfl | exact absurd rfl h2
  cases b <;> simp [behindInMarks, e1, e2]
theorem pe_cmpR {op : CmpOp} {r : R2} (ho : OpR X (compareOp op) r) (ha : PE X a ta) (hb : PE X b tb) (hm : behindInMarks op b = false) : PE X (.Compare a [op] [b] pos) (tOp r ta tb) := by
  intro pins s σ H Q I h
  exact wpAny_Compare1 (binT ha hb I h fun v u s2 x y H2 I2 rx ry q => ho pins s2 σ H2 x y v u Q I2 rx ry q) hm
def tTest (t : TE) : TT := fun σ H Q => t σ H fun x H' => ∃ k, x = .bl k ∧ Q k H'
theorem pt_cmpR {op : CmpOp} {r : R2} (ho : OpR X (compareOp op) r) (ha : PE X a ta) (hb : PE X b tb) (hm : behindInMarks op b = false) : PT X (.Compare a [op] [b] pos) (tTest (tOp r ta tb)) := by
  intro pins s σ H Q I h
  refine wpAny_isTrue_Compare1 (thn (ha pins s σ H _ I h) fun v s1 ⟨x, H1, I1, r1, q1⟩ => thn (hb pins s1 σ H1 _ I1 q1) fun u s2 ⟨y, H2, I2, r2, q2⟩ =>
    thn (ho pins s2 σ H2 x y v u _ I2 r1 r2 q2) fun c s3 ⟨z, H3, I3, r3, k, e, q3⟩ => ?_) hm
  subst e
  cases r3
  exact wpAny_truthy_bool ⟨H3, I3, q3⟩
def tChain (r r' : R2) (ta tb tc : TE) : TE := fun σ H Q => ta σ H fun x H1 => tb σ H1 fun y H2 => r x y H2 fun z H3 => ∃ k, z = .bl k ∧
  (if k = true then tc σ H3 fun w' H4 => r' y w' H4 Q else Q (.bl false) H3)
theorem line63 : (sizeLine : Nat) < 2 ^ 63 := by rw [sizeLine_eq]; decide
theorem vals1 {x : V} {us : List Value} (r : Vals [x] us) : ∃ u, us = [u] ∧ RelV x u := by
  cases r with
  | cons r1 r2 => cases r2; exact ⟨_, rfl, r1⟩
theorem vals2 {x y : V} {us : List Value} (r : Vals [x, y] us) : ∃ u w', us = [u, w'] ∧ RelV x u ∧ RelV y w' := by
  cases r with
  | cons r1 r2 =>
    cases r2 with
    | cons r3 r4 => cases r4; exact ⟨_, _, rfl, r1, r3⟩
theorem call_abs : CallR X (.builtin "abs") (fun xs H Q => ∃ i, xs = [.int i] ∧ Q (.int (if i < 0 then -i else i)) H) := by
  intro pins s σ H xs us Q I r h
  obtain ⟨i, rfl, q⟩ := h
  obtain ⟨u, rfl, t, rfl⟩ := vals1 r
  exact call_abs_int fun u tk => ⟨.int (if i < 0 then -i else i), H, I.tok _, ⟨_, rfl⟩, q⟩
theorem call_min2 (hc : X.calm = true) : CallR X (.builtin "min") (fun xs H Q => ∃ i j, xs = [.int i, .int j] ∧ Q (.int (if j < i then j else i)) H) := by
  intro pins s σ H xs us Q I r h
  obtain ⟨i, j, rfl, q⟩ := h
  obtain ⟨u, w', rfl, ⟨t, rfl⟩, ⟨t', rfl⟩⟩ := vals2 r
  refine min_two_ints (I.ok.hd hc) fun h' tk k => ⟨_, H, I.kept k, ?_, q⟩
  by_cases hj : j < i
  · rw [if_pos hj, if_pos hj]; exact ⟨_, rfl⟩
  · rw [if_neg hj, if_neg hj]; exact ⟨_, rfl⟩
theorem call_int1 : CallR X (.type "int") (fun xs H Q => (∃ i, xs = [.int i] ∧ Q (.int i) H) ∨ ∃ k, xs = [.bl k] ∧ Q (.int (if k then 1 else 0)) H) := by
  intro pins s σ H xs us Q I r h
  rcases h with ⟨i, rfl, q⟩ | ⟨k, rfl, q⟩
  · obtain ⟨u, rfl, t, rfl⟩ := vals1 r
    exact call_int_int ⟨.int i, H, I, ⟨_, rfl⟩, q⟩
  · obtain ⟨u, rfl, r1⟩ := vals1 r
    cases r1
    exact call_int_bool ⟨.int (if k then 1 else 0), H, I.tok _, ⟨_, rfl⟩, q⟩
end
end L2
namespace L2
open PySem PySem.Spec PyProof.Rows
structure ObjM (h : Heap) (x dx C : Addr) (mA : Str → Option Value) : Prop where
  obj : h.get? x = some (PySem.W.instObj C dx)
  ns : h.Ns1 dx mA
  ne : dx ≠ x
theorem lookIn_ns {h : Heap} {dx : Addr} {mA : Str → Option Value} (n : h.Ns1 dx mA) : ∃ od, h.get? dx = some od ∧ ∀ name, PySem.W.lookIn name od = some (mA name) := by
  obtain ⟨o, es, ep, ho, hd, hk, _, hm⟩ := n
  refine ⟨o, ho, fun name => ?_⟩
  have e := hm name
  unfold nsFind findBy at e
  rw [← Array.find?_toList] at e
  unfold PySem.W.lookIn
  rw [hd]
  dsimp only
  split
  · rename_i y q
    rw [q] at e
    exact congrArg some e
  · rename_i q
    rw [q] at e
    have a : es.toList.any (·.refKey) = false := by
      rw [List.any_eq_false]
      intro y hy
      obtain ⟨z, t, hkey⟩ := hk y (Array.mem_toList_iff.mp hy)
      simp [DictEntry.refKey, hkey]
    have a' : ¬ es.toList.any (·.refKey) = true := by rw [a]; exact Bool.false_ne_true
    rw [if_neg a']
    exact congrArg some e
theorem ObjM.look {h : Heap} {x dx C : Addr} {mA : Str → Option Value} (I : ObjM h x dx C mA) : ∃ od, PySem.W.InstAt h x (PySem.W.instObj C dx) C (some od) ∧ ∀ name, PySem.W.lookIn name od = some (mA name) :=
  let ⟨od, ho, hl⟩ := lookIn_ns I.ns
  ⟨od, ⟨I.obj, rfl, rfl, ho⟩, hl⟩
section
variable {prog : Program} {w : World} {A : Around} {E : Value → Shared → Prop} {s : Shared} {K : PySem.W.Frag} {x dx C f : Addr} {mA : Str → Option Value} {name : Str} {v : Value}
theorem get_map {expr : Bool} {Q : Value → Shared → Prop} (X : K.In s.heap) (I : ObjM s.heap x dx C mA) (hg : PySem.W.plainGet K C name = true) (hh : PySem.W.hasDictIn K C = true)
    (ha : PySem.W.findIn K (.ref C) name = some none) (hv : mA name = some v) (hv' : PySem.W.handedIn v = true) (h : Q v { s with toks := s.toks + 1 }) :
    wpAny (model prog w) A (getAttr (.ref x) name expr) Q E s := by
  obtain ⟨od, J, hl⟩ := I.look
  exact PySem.W.get_value X J (PySem.W.plainGet_of hg).1 (PySem.W.findObj_own hh ha rfl (by rw [hl, hv])) hv' h
theorem get_meth {pl : Sem Bool} {Q : Value × List Value → Shared → Prop} (X : K.In s.heap) (I : ObjM s.heap x dx C mA) (hg : PySem.W.plainGet K C name = true)
    (hf : PySem.W.findIn K (.ref C) name = some (some (.ref f))) (ht : PySem.W.isFn K (.ref f) = true) (hv : mA name = none) (h : Q (.ref f, [.ref x]) s) :
    wpAny (model prog w) A (getMethod (.ref x) name pl) Q E s := by
  obtain ⟨od, J, hl⟩ := I.look
  exact PySem.W.method_fn X J (PySem.W.plainGet_of hg).1 (PySem.W.plainGet_of hg).2 hf (beq_iff_eq.mp ht) (by show (PySem.W.lookIn name od).map (·.isSome) = some false; rw [hl, hv]; rfl) h
theorem set_map {ns : List Str} {Q : Unit → Shared → Prop} (X : K.In s.heap) (I : ObjM s.heap x dx C mA)
    (hs : PySem.W.findIn K (.ref C) "__setattr__" = some (some (.builtin "object.__setattr__"))) (hp : PySem.W.plainOver K C = true) (ht : PySem.W.takerIn K C name = some none) (hh : PySem.W.hasDictIn K C = true)
    (hw : PySem.Within mA ns) (hsz : ns.length ≤ sizeLine)
    (h : ∀ h', ObjM h' x dx C (fun y => if y = name then some v else mA y) → Heap.SameBut dx s.heap h' → Q () { s with heap := h', toks := s.toks + 2 }) :
    wpAny (model prog w) A (setAttr (.ref x) name v) Q E s := by
  obtain ⟨od, J, hl⟩ := I.look
  refine PySem.W.set_plain X J hs (PySem.W.osa_open (s := { s with toks := s.toks + 1 }) (r := none) X J hp ht fun b => ?_)
  obtain ⟨cd, hc, hd'⟩ := PySem.W.any_some hh
  have hx : s.heap.get? x = some ⟨.ref C, some dx, .plain, #[]⟩ := I.obj
  refine wpAny_bind (wpAny_pure (wpAny_bind (wpAny_bind (wpAny_loadPart hx (wpAny_bind (PySem.W.Looks.here (s := { s with toks := s.toks + 1 }) (PySem.W.looks_clsIn X hc) ?_))))))
  rw [hd']
  refine wpAny_pure (a := some dx) (wpAny_bind (wpAny_pure (wpAny_bind ?_)))
  refine wpAny_nsSet1 (s := { s with toks := s.toks + 1 }) I.ns fun h' hn2 hs2 => ?_
  obtain ⟨oD, esD, epD, hoD, hdD, hcD⟩ := hn2.count (PySem.Within.cons name v hw)
  refine wpAny_bind (wpAny_lookBehind hoD (by rw [hdD]; exact pastItsLine_dict (Nat.le_trans hcD (by rw [List.length_cons]; omega))) ?_)
  exact wpAny_pure (h _ ⟨(hs2.2 _ (Ne.symm I.ne)).trans I.obj, hn2, I.ne⟩ hs2)
theorem make_map {R : Result → Shared → Prop} {vs : List Value} {kw : List (Str × Value)} (X : K.In s.heap) (hm : PySem.W.makesIn K C = true)
    (hi : PySem.W.findIn K (.ref C) "__init__" = some (some (.ref f))) (hf : PySem.W.typeIn K (.ref f) = some (.type "function"))
    (h : codeAny (model prog w) (A.under (.builtin "type.__call__" ⟨.ref C :: vs, kw⟩)) (.call (.ref f) ⟨.ref (s.heap.objs.size + 1) :: vs, kw⟩) (PySem.W.InitBack (s.heap.objs.size + 1) R)
      { s with heap := (s.heap.push PySem.W.emptyDict).push (PySem.W.instObj C s.heap.objs.size) }) :
    codeAny (model prog w) A (.call (.ref C) ⟨vs, kw⟩) R s := by
  obtain ⟨hh, g, d, t, os⟩ := s
  exact PySem.W.make_core (PySem.W.makes_of X hm) (PySem.W.looks_findIn X hi) (fun self => PySem.W.bind_fn X self hf) (.inl rfl) h
end
def putF (f : Str) (v : V) : List (Str × V) → List (Str × V)
  | [] => [(f, v)]
  | (g, x) :: r => if g = f then (g, v) :: r else (g, x) :: putF f v r
theorem lookup_putF (f g : Str) (v : V) : ∀ fs : List (Str × V), (putF f v fs).lookup g = if g = f then some v else fs.lookup g
  | [] => by
    show List.lookup g [(f, v)] = _
    by_cases h : g = f
    · have hb : (g == f) = true := beq_iff_eq.mpr h
      simp only [List.lookup, hb, if_pos h]
    · have hb : (g == f) = false := beq_eq_false_iff_ne.mpr h
      simp only [List.lookup, hb, if_neg h]
  | (k, x) :: r => by
    have ih := lookup_putF f g v r
    rw [show putF f v ((k, x) :: r) = (if k = f then (k, v) :: r else (k, x) :: putF f v r) from rfl]
    by_cases hk : k = f
    · rw [if_pos hk]
      by_cases h : g = k
      · have hb : (g == k) = true := beq_iff_eq.mpr h
        simp only [List.lookup, hb, if_pos (h.trans hk)]
      · have hb : (g == k) = false := beq_eq_false_iff_ne.mpr h
        simp only [List.lookup, hb, if_neg (fun e : g = f => h (e.trans hk.symm))]
    · rw [if_neg hk]
      by_cases h : g = k
      · have hb : (g == k) = true := beq_iff_eq.mpr h
        simp only [List.lookup, hb, if_neg (fun e : g = f => hk (h.symm.trans e))]
      · have hb : (g == k) = false := beq_eq_false_iff_ne.mpr h
        simp only [List.lookup, hb]
        exact ih
theorem keys_putF (f : Str) (v : V) : ∀ fs : List (Str × V), f ∈ (putF f v fs).map (·.1) ∧ ∀ g, g ∈ fs.map (·.1) → g ∈ (putF f v fs).map (·.1)
  | [] => ⟨by simp [putF], fun g h => by simp at h⟩
  | (k, x) :: r => by
    obtain ⟨i1, i2⟩ := keys_putF f v r
    rw [show putF f v ((k, x) :: r) = (if k = f then (k, v) :: r else (k, x) :: putF f v r) from rfl]
    by_cases hk : k = f
    · rw [if_pos hk]
      subst hk
      exact ⟨by simp, fun g h => by simpa using h⟩
    · rw [if_neg hk]
      refine ⟨?_, fun g h => ?_⟩
      · rw [List.map_cons]
        exact List.mem_cons_of_mem _ i1
      · rw [List.map_cons] at h ⊢
        rcases List.mem_cons.mp h with e | e
        · exact List.mem_cons.mpr (.inl e)
        · exact List.mem_cons_of_mem _ (i2 g e)
theorem length_putF (f : Str) (v : V) : ∀ fs : List (Str × V), (putF f v fs).length ≤ fs.length + 1
  | [] => by simp [putF]
  | (k, x) :: r => by
    have ih := length_putF f v r
    rw [show putF f v ((k, x) :: r) = (if k = f then (k, v) :: r else (k, x) :: putF f v r) from rfl]
    by_cases hk : k = f
    · rw [if_pos hk, List.length_cons, List.length_cons]; omega
    · rw [if_neg hk, List.length_cons, List.length_cons]; omega
theorem RelO.some_of {v : V} {o : Option Value} (r : RelO (some v) o) : ∃ u, o = some u ∧ RelV v u := by
  cases o with
  | none => exact (show False from r).elim
  | some u => exact ⟨u, rfl, r⟩
theorem RelO.none_of {o : Option Value} (r : RelO none o) : o = none := by
  cases o with
  | none => rfl
  | some u => exact (show False from r).elim
theorem handed_of {v : V} {u : Value} (r : RelV v u) : PySem.W.handedIn u = true := by
  cases v with
  | non => cases (show u = Value.none from r); rfl
  | bl b => cases (show u = Value.bool b from r); rfl
  | int i => obtain ⟨t, e⟩ := (show ∃ t, u = Value.int i t from r); cases e; rfl
  | str x => obtain ⟨t, e⟩ := (show ∃ t, u = Value.str x t from r); cases e; rfl
  | byt b => obtain ⟨t, e⟩ := (show ∃ t, u = Value.bytes b t from r); cases e; rfl
  | flt b => obtain ⟨t, e⟩ := (show ∃ t, u = Value.float b t from r); cases e; rfl
  | ref a => cases (show u = Value.ref a from r); rfl
  | ty n => cases (show u = Value.type n from r); rfl
section
variable {P : Program} {w : World} {H H' : Hp} {h h' : Heap} {a C dx : Addr} {fs fs' : List (Str × V)}
theorem ins_get (hok : HOk P w H h) (e : H a = some (.ins C dx fs)) : ∃ mA, ObjM h a dx C mA ∧ (∀ f, RelO (fs.lookup f) (mA f)) ∧ PySem.Within mA (fs.map (·.1)) ∧ fs.length ≤ 1000 ∧ H dx = some (.own a) := by
  obtain ⟨d, z, ne, ob, mA, n, r, q⟩ := (show ObjOk P w H h a (.ins C dx fs) from hok a _ e)
  exact ⟨mA, ⟨ob, n, ne⟩, r, q, z, d⟩
end
structure Cls (K : PySem.W.Frag) (C : Addr) : Prop where
  pg : PySem.W.plainGet K C Str.empty = true
  hd : PySem.W.hasDictIn K C = true
  po : PySem.W.plainOver K C = true
  sa : PySem.W.findIn K (.ref C) "__setattr__" = some (some (.builtin "object.__setattr__"))
theorem Cls.get {K : PySem.W.Frag} {C : Addr} (c : Cls K C) (f : Str) : PySem.W.plainGet K C f = true := c.pg
def NoAttr (K : PySem.W.Frag) (C : Addr) (f : Str) : Prop := PySem.W.findIn K (.ref C) f = some none
theorem NoAttr.taker {K : PySem.W.Frag} {C : Addr} {f : Str} (n : NoAttr K C f) : PySem.W.takerIn K C f = some none := by
  unfold PySem.W.takerIn
  rw [show PySem.W.findIn K (.ref C) f = some none from n]
  rfl
structure Con (K : PySem.W.Frag) (C : Addr) (f : Str) (v : V) (u : Value) : Prop where
  at_ : PySem.W.findIn K (.ref C) f = some (some u)
  rel : RelV v u
  get : PySem.W.specialIn K u "__get__" = some none
  cp : PySem.W.copiedNames.contains f = false
structure Meth (K : PySem.W.Frag) (C : Addr) (m : Str) (f : Addr) : Prop where
  at_ : PySem.W.findIn K (.ref C) m = some (some (.ref f))
  fn : PySem.W.isFn K (.ref f) = true
  kp : PySem.W.keepIn K (.ref f) = true
section
variable {X : Cx} {pins : List (Addr × Obj)} {σ : St} {H : Hp} {s : Shared} {a C dx : Addr} {fs : List (Str × V)} {f : Str} {v : V} {A : Around} {E : Value → Shared → Prop}
theorem getattr_ok {b : Bool} {Q : Value → Shared → Prop} (I : Inv X pins σ H s) (e : H a = some (.ins C dx fs)) (c : Cls X.K C) (n : NoAttr X.K C f) (l : fs.lookup f = some v)
    (h : ∀ u s', Inv X pins σ H s' → RelV v u → Q u s') : wpAny (model X.prog X.w) A (getAttr (.ref a) f b) Q E s := by
  obtain ⟨mA, O, r, _, _, _⟩ := ins_get I.hok e
  obtain ⟨u, hu, ru⟩ := RelO.some_of (v := v) (o := mA f) (by rw [← l]; exact r f)
  exact get_map I.kIn O (c.get f) c.hd n hu (handed_of ru) (h u _ (I.tok _) ru)
theorem getmeth_ok {m : Str} {g : Addr} {pl : Sem Bool} {Q : Value × List Value → Shared → Prop} (I : Inv X pins σ H s) (e : H a = some (.ins C dx fs)) (c : Cls X.K C) (k : Meth X.K C m g) (l : fs.lookup m = none)
    (h : Q (.ref g, [.ref a]) s) : wpAny (model X.prog X.w) A (getMethod (.ref a) m pl) Q E s := by
  obtain ⟨mA, O, r, _, _, _⟩ := ins_get I.hok e
  have hn : mA m = none := RelO.none_of (by rw [← l]; exact r m)
  exact get_meth I.kIn O (c.get m) k.at_ k.fn hn h
theorem setattr_ok {y : V} {u : Value} {Q : Unit → Shared → Prop} (I : Inv X pins σ H s) (e : H a = some (.ins C dx fs)) (c : Cls X.K C) (n : NoAttr X.K C f) (hl : fs.length < 1000) (ry : RelV y u)
    (h : ∀ s', Inv X pins σ (upd H a (.ins C dx (putF f y fs))) s' → Q () s') : wpAny (model X.prog X.w) A (setAttr (.ref a) f u) Q E s := by
  obtain ⟨mA, O, r, wi, _, ho⟩ := ins_get I.hok e
  have hz : (fs.map (·.1)).length ≤ sizeLine := by rw [List.length_map, sizeLine_eq]; omega
  refine set_map I.kIn O c.sa c.po n.taker c.hd wi hz fun h' O' sb => h _ ?_
  have hd : ∃ o, h'.get? dx = some o := let ⟨o, _, _, e', _⟩ := O'.ns; ⟨o, e'⟩
  refine I.write (x := a) (e := dx) (by rw [e]; exact True.intro) (.inr ho) (fun b q hb z => (sb.2 b hb).trans z) hd ?_
  refine ⟨by rw [upd_ne O.ne]; exact ho, ?_, O.ne, O'.obj, _, O'.ns, fun g => ?_, fun g hg => ?_⟩
  · have := length_putF f y fs; omega
  · show RelO ((putF f y fs).lookup g) (if g = f then some u else mA g)
    rw [lookup_putF]
    by_cases q : g = f
    · rw [if_pos q, if_pos q]; exact ry
    · rw [if_neg q, if_neg q]; exact r g
  · by_cases q : g = f
    · rw [q]; exact (keys_putF f y fs).1
    · refine (keys_putF f y fs).2 g (wi g fun z => hg ?_)
      show (if g = f then some u else mA g) = none
      rw [if_neg q]; exact z
theorem Inv.made (I : Inv X pins σ H s) : Inv X pins σ (upd (upd H s.heap.objs.size (.own (s.heap.objs.size + 1))) (s.heap.objs.size + 1) (.ins C s.heap.objs.size []))
    { s with heap := (s.heap.push PySem.W.emptyDict).push (PySem.W.instObj C s.heap.objs.size) } := by
  have e1 : (s.heap.push PySem.W.emptyDict).get? s.heap.objs.size = some PySem.W.emptyDict := Heap.get?_push_size s.heap rfl
  have e2 : ((s.heap.push PySem.W.emptyDict).push (PySem.W.instObj C s.heap.objs.size)).get? (s.heap.objs.size + 1) = some (PySem.W.instObj C s.heap.objs.size) := by
    have := Heap.get?_push_size (s.heap.push PySem.W.emptyDict) (o := PySem.W.instObj C s.heap.objs.size) rfl
    rwa [Heap.size_push] at this
  have e3 : (s.heap.push PySem.W.emptyDict).Ns s.heap.objs.size (fun _ => none) := ⟨PySem.W.emptyDict, #[], _, e1, rfl, (fun e he => absurd he (by simp)), fun _ => rfl⟩
  have I1 := I.laid (a := s.heap.objs.size) (o := .own (s.heap.objs.size + 1)) (h' := s.heap.push PySem.W.emptyDict) (t' := s.toks) (fun b u q => Heap.get?_push_of_some _ q) (Nat.le_refl _) ⟨_, e1⟩
  refine I1.laid (a := s.heap.objs.size + 1) (o := .ins C s.heap.objs.size []) (t' := s.toks) (fun b u q => Heap.get?_push_of_some _ q) (Nat.le_of_eq (Heap.size_push _ _)) ?_
  have ne : s.heap.objs.size ≠ s.heap.objs.size + 1 := Nat.ne_of_lt (Nat.lt_succ_self _)
  refine ⟨by rw [upd_ne ne, upd_same], Nat.zero_le _, ne, e2, fun _ => none, (Heap.Ns1.of_empty e3).at fun o q => Heap.get?_push_of_some _ q, fun _ => True.intro, fun y hy => absurd rfl hy⟩
theorem attr_of {prog : Program} {w : World} {env : Env} {e : Expr} {f : Str} {pos : Pos} {s : Shared} {Q : Value → Shared → Prop} (hb : attributeBase e f env (eval e env) = eval e env)
    (h : wpAny (model prog w) A (eval e env) (fun o s₁ => wpAny (model prog w) A (getAttr o f true) Q E s₁) E s) : wpAny (model prog w) A (eval (.Attribute e f pos) env) Q E s :=
  Attribute_any_ h (by rw [arm_eval_Attribute, hb])
end
def tFld (K : PySem.W.Frag) (ta : TE) (f : Str) : TE := fun σ H Q => ta σ H fun x H1 => ∃ a C dx fs v, x = .ref a ∧ H1 a = some (.ins C dx fs) ∧ Cls K C ∧ NoAttr K C f ∧ fs.lookup f = some v ∧ Q v H1
def sFld (K : PySem.W.Frag) (ta tv : TE) (f : Str) : TS := fun D σ H => tv σ H fun y H1 => ta σ H1 fun x H2 => ∃ a C dx fs, x = .ref a ∧ H2 a = some (.ins C dx fs) ∧ Cls K C ∧ NoAttr K C f ∧ fs.length < 1000 ∧
  D.nx σ (upd H2 a (.ins C dx (putF f y fs)))
section
variable {X : Cx} {o e value : Expr} {f : Str} {pos pos' tpos : Pos} {ta tv : TE}
theorem pe_fld (he : PE X e ta) (hb : attributeBase e f X.env (eval e X.env) = eval e X.env) : PE X (.Attribute e f pos) (tFld X.K ta f) := by
  intro pins s σ H Q I h
  refine attr_of hb (thn (he pins s σ H _ I h) fun u s1 ⟨x, H1, I1, rx, a, C, dx, fs, v, ex, ea, c, n, l, q⟩ => ?_)
  subst ex
  obtain rfl : u = Value.ref a := rx
  exact getattr_ok I1 ea c n l fun u' s2 I2 ru => ⟨v, H1, I2, ru, q⟩
theorem ps_fld (ha : PE X o ta) (hv : PE X value tv) (hs : swapsWith value (some (.Attribute o f pos')) pos.line X.env = pure false) : PS X (.Assign [.Attribute o f pos'] value pos) (sFld X.K ta tv f) := by
  intro pins s σ H D I h
  refine plainObj_wpAny_Assign_Attribute (thn (hv pins s σ H _ I h) fun u s1 ⟨y, H1, I1, ry, q⟩ => thn (ha pins s1 σ H1 _ I1 q) fun ov s2 ⟨x, H2, I2, rx, a, C, dx, fs, ex, ea, c, n, l, q2⟩ => ?_) hs
  subst ex
  obtain rfl : ov = Value.ref a := rx
  exact setattr_ok I2 ea c n l ry fun s3 I3 => ⟨σ, _, I3, q2⟩
end
section
variable {X : Cx} {pins : List (Addr × Obj)} {σ : St} {H : Hp} {s : Shared} {A : Around} {E : Value → Shared → Prop} {Q : Value → Shared → Prop} {c : Value} {b : Bool}
inductive TyOf (K : PySem.W.Frag) (H : Hp) : V → Value → Prop where
  | non : TyOf K H .non (.type "NoneType")
  | bl (x : Bool) : TyOf K H (.bl x) (.type "bool")
  | int (i : Int) : TyOf K H (.int i) (.type "int")
  | str (x : Str) : TyOf K H (.str x) (.type "str")
  | flt (x : UInt64) : TyOf K H (.flt x) (.type "float")
  | lst {a : Addr} {xs : List V} (e : H a = some (.lst xs)) : TyOf K H (.ref a) (.type "list")
  | frz {a : Addr} {o : Obj} {xs : List V} (e : H a = some (.frz o (.lst xs))) : TyOf K H (.ref a) (.type "list")
  | tup {a : Addr} {xs : List V} (e : H a = some (.tup xs)) : TyOf K H (.ref a) (.type "tuple")
  | dK {a : Addr} {kvs : List (Key × V)} (e : H a = some (.dK kvs)) : TyOf K H (.ref a) (.type "dict")
  | dT {a : Addr} {kvs : List (List Key × V)} (e : H a = some (.dT kvs)) : TyOf K H (.ref a) (.type "dict")
  | ins {a C dx : Addr} {fs : List (Str × V)} (e : H a = some (.ins C dx fs)) (cl : Cls K C) (ha : PySem.W.findIn K (.ref C) "__class__" = some (some (.builtin "object.__class__")))
      (hn : PySem.W.specialIn K (.builtin "object.__class__") "__get__" = some (some (.builtin "getset_descriptor.__get__"))) (htk : PySem.W.takesIn K (.builtin "object.__class__") = some true)
      (hm : PySem.W.mroIn K C (.type "object") = some true) : TyOf K H (.ref a) (.ref C)
theorem isinst_ok {x : V} {u t : Value} (I : Inv X pins σ H s) (rx : RelV x u) (ty : TyOf X.K H x t) (e : PySem.W.kitOne X.K t c = some b) (h : ∀ tk, Q (.bool b) { s with toks := tk }) :
    wpAny (model X.prog X.w) A (call (.builtin "isinstance") [u, c]) Q E s := by
  cases ty with
  | non => cases (show u = Value.none from rx); exact PySem.W.kia_one PySem.W.kitx_none I.kIn True.intro e (fun z => nomatch z) h
  | bl y => cases (show u = Value.bool y from rx); exact PySem.W.kia_one PySem.W.kitx_bool I.kIn True.intro e (fun z => nomatch z) h
  | int i => obtain ⟨t, q⟩ := (show ∃ t, u = Value.int i t from rx); cases q; exact PySem.W.kia_one PySem.W.kitx_int I.kIn True.intro e (fun z => nomatch z) h
  | str y => obtain ⟨t, q⟩ := (show ∃ t, u = Value.str y t from rx); cases q; exact PySem.W.kia_one PySem.W.kitx_str I.kIn True.intro e (fun z => nomatch z) h
  | flt y => obtain ⟨t, q⟩ := (show ∃ t, u = Value.float y t from rx); cases q; exact PySem.W.kia_one PySem.W.kitx_float I.kIn True.intro e (fun z => nomatch z) h
  | @lst a xs ea =>
    cases (show u = Value.ref a from rx)
    obtain ⟨_, _, n, _, h1⟩ := (show ObjOk X.prog X.w H s.heap a (.lst xs) from I.hok a _ ea)
    exact PySem.W.kia_one PySem.W.kitx_list I.kIn ⟨_, h1, rfl⟩ e (fun z => nomatch z) h
  | @frz a ob xs ea =>
    cases (show u = Value.ref a from rx)
    obtain ⟨_, _, _, n, _, h1⟩ := (show ObjOk X.prog X.w H s.heap a (.frz ob (.lst xs)) from I.hok a _ ea)
    exact PySem.W.kia_one PySem.W.kitx_list I.kIn ⟨_, h1, rfl⟩ e (fun z => nomatch z) h
  | @tup a xs ea =>
    cases (show u = Value.ref a from rx)
    obtain ⟨_, _, _, p⟩ := (show ObjOk X.prog X.w H s.heap a (.tup xs) from I.hok a _ ea)
    obtain ⟨o, h1, h2, _⟩ := p
    exact PySem.W.kia_one PySem.W.kitx_tuple I.kIn ⟨o, h1, h2⟩ e (fun z => nomatch z) h
  | @dK a kvs ea =>
    cases (show u = Value.ref a from rx)
    obtain ⟨_, _, vs, _, p⟩ := (show ObjOk X.prog X.w H s.heap a (.dK kvs) from I.hok a _ ea)
    obtain ⟨o, es, ep, h1, h2, _⟩ := p
    exact PySem.W.kia_one PySem.W.kitx_dict I.kIn ⟨o, h1, h2.1⟩ e (fun z => nomatch z) h
  | @dT a kvs ea =>
    cases (show u = Value.ref a from rx)
    obtain ⟨_, _, xs, _, o, es, ep, h1, h2, _⟩ := (show ObjOk X.prog X.w H s.heap a (.dT kvs) from I.hok a _ ea)
    exact PySem.W.kia_one PySem.W.kitx_dict I.kIn ⟨o, h1, h2.1⟩ e (fun z => nomatch z) h
  | @ins a C dx fs ea cl ha hn htk hm =>
    cases (show u = Value.ref a from rx)
    obtain ⟨mA, O, _⟩ := ins_get I.hok ea
    obtain ⟨od, J, _⟩ := O.look
    exact PySem.W.kia_one (PySem.W.kitx_own (cl.get _) cl.hd ha hn htk hm) I.kIn J e (fun z => nomatch z) h
end
end L2
namespace L2
open PySem PySem.Spec PyProof.Rows
structure Room (k : Nat) (A : Around) : Prop where
  hd : A.handled = none
  dp : A.depth + 3 * k + 5 < recursionLimit
  un : A.units + 16 * k + 200 < cLine
theorem Room.mono {j k : Nat} {A : Around} (r : Room k A) (h : j ≤ k) : Room j A := ⟨r.hd, by have := r.dp; omega, by have := r.un; omega⟩
theorem Room.deeper {k : Nat} {A : Around} (r : Room (k + 1) A) (env : Env) : Room k (A.deeper env) :=
  ⟨r.hd, by have := r.dp; show A.depth + 1 + 3 * k + 5 < _; omega, by have := r.un; show A.units + 3 + 16 * k + 200 < _; omega⟩
theorem Room.in1 {k : Nat} {A : Around} (r : Room (k + 1) A) : Room k A.in1 :=
  ⟨r.hd, by have := r.dp; show A.depth + 3 * k + 5 < _; omega, by have := r.un; show A.units + 1 + 16 * k + 200 < _; omega⟩
theorem make_depth {A : Around} {C : Addr} {us : List Value} {kw : List (Str × Value)} : (A.under (.builtin "type.__call__" ⟨.ref C :: us, kw⟩)).depth = A.depth + 1 := by
  first | rfl | simp [Around.under, Code.weight, Code.isCreation, Code.isGuard, Code.isCaller, Code.frames, Code.isFrame, guardIds]
theorem make_units {A : Around} {C : Addr} {us : List Value} {kw : List (Str × Value)} : (A.under (.builtin "type.__call__" ⟨.ref C :: us, kw⟩)).units = A.units + 1 := by
  first | rfl | simp [Around.under, Code.cUnits, Code.frames, Code.isFrame]
theorem Room.make {k : Nat} {A : Around} (r : Room (k + 1) A) (C : Addr) (us : List Value) (kw : List (Str × Value)) : Room k (A.under (.builtin "type.__call__" ⟨.ref C :: us, kw⟩)) :=
  ⟨r.hd, by have := r.dp; rw [make_depth]; omega, by have := r.un; rw [make_units]; omega⟩
theorem Room.depth {k : Nat} {A : Around} (r : Room k A) : A.depth < recursionLimit := by have := r.dp; omega
theorem Room.units {k : Nat} {A : Around} (r : Room k A) : A.units + 64 < cLine := by have := r.un; omega
def tNil : TA := fun _ H Q => Q [] H
def tCons (ta : TE) (tr : TA) : TA := fun σ H Q => ta σ H fun x H1 => tr σ H1 fun xs H2 => Q (x :: xs) H2
section
variable {X : Cx} {e : Expr} {es : List Expr} {te : TE} {t : TA} {pos : Pos}
theorem pa_nil : PA X [] tNil := fun _ _ _ _ H Q I h => Calls.spliced_nil ⟨[], H, I, .nil, h⟩
theorem pa_cons (ha : PE X e te) (hr : PA X es t) (hs : starEach (e :: es) X.env = (false, eval e X.env) :: starEach es X.env := by rfl) : PA X (e :: es) (tCons te t) := by
  intro pos pins s σ H Q I h
  rw [hs]
  show wpAny _ _ (spliced ((false, eval e X.env) :: backTo pos (starEach es X.env))) _ _ s
  refine Calls.spliced_cons (thn (ha pins s σ H _ I h) fun u s1 ⟨x, H1, I1, r1, q1⟩ => ?_)
  exact thn (hr pos pins s1 σ H1 _ I1 q1) fun us s2 ⟨xs, H2, I2, r2, q2⟩ => ⟨x :: xs, H2, I2, .cons r1 r2, q2⟩
def tTup (t : TA) : TE := fun σ H Q => t σ H fun xs H1 => xs.length ≤ sizeLine ∧ ∀ p, H1 p = none → Q (.ref p) (upd H1 p (.tup xs))
def tLst (t : TA) : TE := fun σ H Q => t σ H fun xs H1 => xs.length ≤ sizeLine ∧ ∀ p, H1 p = none → Q (.ref p) (upd H1 p (.lst xs))
theorem pe_tup {x1} (h : PA X es t) : PE X (.Tuple es x1 pos) (tTup t) := by
  intro pins s σ H Q I hq
  refine wpAny_Tuple_spliced (thn (h pos pins s σ H _ I hq) fun us s1 ⟨xs, H1, I1, r, z, q⟩ => ⟨by rw [← r.length]; exact z, ?_⟩)
  have hf : H1 s1.heap.objs.size = none := I1.hok.fresh (Nat.le_refl _)
  refine ⟨.ref s1.heap.objs.size, upd H1 s1.heap.objs.size (.tup xs), I1.laid (t' := s1.toks) (fun b u e => Heap.get?_push_of_some _ e) (Nat.le_refl _) ?_, rfl, q _ hf⟩
  exact ⟨z, us, r, ⟨_, Heap.get?_push_size _ rfl, rfl, _, rfl⟩⟩
theorem pe_lst (h : PA X es t) : PE X (.List es pos) (tLst t) := by
  intro pins s σ H Q I hq
  refine wpAny_List_spliced (thn (h pos pins s σ H _ I hq) fun us s1 ⟨xs, H1, I1, r, z, q⟩ => ⟨by rw [← r.length]; exact z, ?_⟩)
  have hf : H1 s1.heap.objs.size = none := I1.hok.fresh (Nat.le_refl _)
  refine ⟨.ref s1.heap.objs.size, upd H1 s1.heap.objs.size (.lst xs), I1.laid (t' := s1.toks) (fun b u e => Heap.get?_push_of_some _ e) (Nat.le_refl _) ?_, rfl, q _ hf⟩
  exact ⟨z, us, 0, r, Heap.get?_push_size _ rfl⟩
end
abbrev Sp := List V → Hp → VK → XK → Prop
abbrev CXT := List Env → Hp → Shared → XK → Value → Shared → Prop
structure Env0 (P : Program) (w : World) (K : PySem.W.Frag) (mg : Str → Option Value) (base : Heap) (A : Around) (outer : List Env) (s : Shared) (H : Hp) : Prop where
  frames : A.frames = some outer
  mod : Mod K mg base
  bs : ∀ b o, base.get? b = some o → s.heap.get? b = some o ∧ H b = none
  bsz : base.objs.size ≤ s.heap.objs.size
  funs : s.heap.FunFrames base outer
  frf : ∀ b ∈ frs outer, H b = none
  hok : HOk P w H s.heap
  bare : AllBare s.gens
def CE (outer : List Env) (P : Program) (w : World) (H : Hp) (s : Shared) (Q : VK) (u : Value) (s' : Shared) : Prop :=
  ∃ v H', s'.os = s.os ∧ AllBare s'.gens ∧ Un (frs outer) [] H H' s.heap s'.heap ∧ HOk P w H' s'.heap ∧ RelV v u ∧ Q v H'
def CR (CX : CXT) (outer : List Env) (P : Program) (w : World) (H : Hp) (s : Shared) (Q : VK) (E : XK) (r : Result) (s' : Shared) : Prop :=
  match r with
  | .ok (.ret u) => CE outer P w H s Q u s'
  | .ok _ => False
  | .error e => CX outer H s E e s'
structure FnOk (P : Program) (w : World) (K : PySem.W.Frag) (mg : Str → Option Value) (base : Heap) (CX : CXT) (k : Nat) (f : Addr) (fd : FuncData) (ps : List Str) (sp : Sp) : Prop where
  len : ∀ vs H Q E, sp vs H Q E → vs.length = ps.length
  run : ∀ (A : Around) (outer : List Env) (s : Shared) (H : Hp) (args : Args) (us : List Value) (vs : List V) (Q : VK) (E : XK), Room k A → Env0 P w K mg base A outer s H → BindsTo s fd args (ps.zip us) → Vals vs us → sp vs H Q E →
    codeAny (model P w) A (.call (.ref f) args) (CR CX outer P w H s Q E) s
theorem FnOk.mono {P : Program} {w : World} {K : PySem.W.Frag} {mg : Str → Option Value} {base : Heap} {CX : CXT} {j k : Nat} {f : Addr} {fd : FuncData} {ps : List Str} {sp : Sp} (F : FnOk P w K mg base CX j f fd ps sp) (h : j ≤ k) :
    FnOk P w K mg base CX k f fd ps sp := ⟨F.len, fun A outer s H args us vs Q E hr => F.run A outer s H args us vs Q E (hr.mono h)⟩
theorem FnOk.imp {P : Program} {w : World} {K : PySem.W.Frag} {mg : Str → Option Value} {base : Heap} {CX : CXT} {k : Nat} {f : Addr} {fd : FuncData} {ps : List Str} {sp sp' : Sp} (F : FnOk P w K mg base CX k f fd ps sp)
    (h : ∀ vs H Q E, sp' vs H Q E → sp vs H Q E) : FnOk P w K mg base CX k f fd ps sp' :=
  ⟨fun vs H Q E q => F.len vs H Q E (h _ _ _ _ q), fun A outer s H args us vs Q E hr he hb hv hs => F.run A outer s H args us vs Q E hr he hb hv (h _ _ _ _ hs)⟩
theorem Env0.make {P : Program} {w : World} {K : PySem.W.Frag} {mg : Str → Option Value} {base : Heap} {A : Around} {outer : List Env} {s : Shared} {H : Hp} (e : Env0 P w K mg base A outer s H) (C : Addr) (us : List Value) (kw : List (Str × Value)) :
    Env0 P w K mg base (A.under (.builtin "type.__call__" ⟨.ref C :: us, kw⟩)) outer s H := ⟨by first | exact e.frames | (simpa [Around.under, Code.envs, Code.isFrame, pushEnvs] using e.frames), e.mod, e.bs, e.bsz, e.funs, e.frf, e.hok, e.bare⟩
theorem Env0.in1 {P : Program} {w : World} {K : PySem.W.Frag} {mg : Str → Option Value} {base : Heap} {A : Around} {outer : List Env} {s : Shared} {H : Hp} (e : Env0 P w K mg base A outer s H) :
    Env0 P w K mg base A.in1 outer s H := ⟨e.frames, e.mod, e.bs, e.bsz, e.funs, e.frf, e.hok, e.bare⟩
section
variable {X : Cx} {pins : List (Addr × Obj)} {σ : St} {H : Hp} {s s' : Shared}
theorem Inv.env0 (I : Inv X pins σ H s) : Env0 X.prog X.w X.K X.mg X.base X.A X.stack s H :=
  ⟨I.ok.frames, I.ok.mod, I.bs, Nat.le_trans I.ok.bsz I.sz, I.stack, I.stkFree, I.hok, I.bare⟩
theorem Inv.after {Q : VK} {u : Value} (I : Inv X pins σ H s) (h : CE X.stack X.prog X.w H s Q u s') : EP X pins σ Q u s' := by
  obtain ⟨v, H', os, bare, un, hok, r, q⟩ := h
  obtain ⟨hh, g, d, t, os'⟩ := s'
  obtain rfl : os' = s.os := os
  exact ⟨v, H', I.call (h' := hh) (g' := g) (d' := d) (t' := t) (ch := []) un hok bare (fun b z => absurd z (by simp)), r, q⟩
end
def tCall (sp : Sp) (dvs : List V) (E : XK) (t : TA) : TE := fun σ H Q => t σ H fun vs H1 => sp (vs ++ dvs) H1 Q E
def tMeth (C : Addr) (m : Str) (sp : Sp) (dvs : List V) (E : XK) (ta : TE) (t : TA) : TE := fun σ H Q => ta σ H fun x H1 => ∃ a dx fs, x = .ref a ∧ H1 a = some (.ins C dx fs) ∧ fs.lookup m = none ∧
  t σ H1 fun vs H2 => sp (x :: (vs ++ dvs)) H2 Q E
def tMake (C : Addr) (sp : Sp) (dvs : List V) (E : XK) (t : TA) : TE := fun σ H Q => t σ H fun vs H1 => ∀ x dx, H1 x = none → H1 dx = none → dx ≠ x →
  sp (.ref x :: (vs ++ dvs)) (upd (upd H1 dx (.own x)) x (.ins C dx [])) (fun v H2 => v = .non ∧ Q (.ref x) H2) E
def Binds (K : PySem.W.Frag) (fd : FuncData) (ps : List Str) (ds : List Value) : Prop :=
  ∀ (s : Shared) (us : List Value), K.In s.heap → (us ++ ds).length = ps.length → BindsTo s fd ⟨us, []⟩ (ps.zip (us ++ ds))
theorem Binds.all {K : PySem.W.Frag} {fd : FuncData} {ps : List Str} (h : ∀ us : List Value, us.length = ps.length → bindArgs fd ⟨us, []⟩ = pure (ps.zip us)) : Binds K fd ps [] := fun s us _ hl => by
  rw [List.append_nil] at hl ⊢
  exact .of_eq (h us hl)
def Passes (CX : CXT) (X : Cx) (E : XK) : Prop := ∀ (pins : List (Addr × Obj)) (σ : St) (H : Hp) (s : Shared) (e : Value) (s' : Shared), Inv X pins σ H s → CX X.stack H s E e s' → X.xe e s'
section
variable {X : Cx} {CX : CXT} {k : Nat} {f C : Addr} {fd : FuncData} {ps : List Str} {sp : Sp} {dvs : List V} {ds : List Value} {E : XK} {x m : Str} {p pos apos : Pos} {e o : Expr} {es : List Expr} {ta : TE} {t : TA}
theorem run_fn {pins : List (Addr × Obj)} {σ : St} {H : Hp} {s : Shared} {Q : VK} {us : List Value} {vs : List V} (F : FnOk X.prog X.w X.K X.mg X.base CX k f fd ps sp) (hr : Room k X.A) (hb : Binds X.K fd ps ds) (hd : Vals dvs ds) (hx : Passes CX X E)
    (I : Inv X pins σ H s) (r : Vals vs us) (h : sp (vs ++ dvs) H Q E) : wpAny (model X.prog X.w) X.A (call (.ref f) us) (EP X pins σ Q) X.xe s := by
  have r2 : Vals (vs ++ dvs) (us ++ ds) := r.append hd
  have hl : (us ++ ds).length = ps.length := by rw [← r2.length]; exact F.len _ _ _ _ h
  refine wpAny_call (codeAny_mono (F.run X.A X.stack s H ⟨us, []⟩ (us ++ ds) (vs ++ dvs) Q E hr I.env0 (hb s us I.kIn hl) r2 h) fun r s' hq => ?_)
  cases r with
  | error e => exact hx pins σ H s e s' I hq
  | ok fl =>
    cases fl with
    | ret u => exact I.after hq
    | next => exact False.elim hq
    | brk => exact False.elim hq
    | cont => exact False.elim hq
theorem pe_call (F : FnOk X.prog X.w X.K X.mg X.base CX k f fd ps sp) (hr : Room k X.A) (hg : Gl X x) (hm : X.mg x = some (.ref f)) (hk : PySem.W.keepIn X.K (.ref f) = true) (hb : Binds X.K fd ps ds) (hd : Vals dvs ds) (hx : Passes CX X E)
    (ha : PA X (e :: es) t) (hdb : (x == ("__debug__" : Str)) = false := by decide) (he : starEach (e :: es) X.env = (false, eval e X.env) :: starEach es X.env := by rfl) (hpl : (backTo pos (starEach es X.env)).any (·.1) = false := by rfl) :
    PE X (.Call (.Name x p) (e :: es) [] pos) (tCall sp dvs E t) := by
  intro pins s σ H Q I h
  refine wpAny_Call_Name_kw (ld_glob I hg hm ?_ hdb)
  refine PySem.W.callWith_K (h₀ := X.base) I.ok.mod.kin hk (thn (ha pos pins s σ H _ I h) fun us s1 ⟨vs, H1, I1, r, q⟩ => ⟨I1.kIn, ?_⟩) he hpl
  exact run_fn F hr hb hd hx I1 r q
theorem pe_meth {pl : Sem Bool} (he : PE X o ta) (c : Cls X.K C) (hm : Meth X.K C m f) (F : FnOk X.prog X.w X.K X.mg X.base CX k f fd ps sp) (hr : Room k X.A) (hb : Binds X.K fd ps ds) (hd : Vals dvs ds) (hx : Passes CX X E) (ha : PA X (e :: es) t)
    (hst : starEach (e :: es) X.env = (false, eval e X.env) :: starEach es X.env := by rfl) (hpl : (backTo pos (starEach es X.env)).any (·.1) = false := by rfl)
    (ht : eval (.Call (.Attribute o m apos) (e :: es) [] pos) X.env = (do
      let ov ← eval o X.env
      standAt apos.atName
      let (f, first) ← holding [ov] (getMethod ov m pl)
      callWith pos f first (backTo pos (starEach (e :: es) X.env)) (backToKw pos (keywordEach [] X.env))) := by rfl) :
    PE X (.Call (.Attribute o m apos) (e :: es) [] pos) (tMeth C m sp dvs E ta t) := by
  intro pins s σ H Q I h
  refine PySem.W.methodCall_KW (pl := pl) (thn (he pins s σ H _ I h) fun u s1 ⟨x, H1, I1, rx, a, dx, fs, ex, ea, l, q⟩ => ?_) ht
  subst ex
  obtain rfl : u = Value.ref a := rx
  refine getmeth_ok I1 ea c hm l ?_
  refine PySem.W.callWith_K (first := [.ref a]) (h₀ := X.base) I.ok.mod.kin hm.kp (thn (ha pos pins s1 σ H1 _ I1 q) fun us s2 ⟨vs, H2, I2, r, q2⟩ => ⟨I2.kIn, ?_⟩) hst hpl
  exact run_fn (us := .ref a :: us) (vs := .ref a :: vs) F hr hb hd hx I2 (.cons rfl r) q2
theorem pe_meth0 {pl : Sem Bool} (he : PE X o ta) (c : Cls X.K C) (hm : Meth X.K C m f) (F : FnOk X.prog X.w X.K X.mg X.base CX k f fd ps sp) (hr : Room k X.A) (hb : Binds X.K fd ps ds) (hd : Vals dvs ds) (hx : Passes CX X E)
    (ht : eval (.Call (.Attribute o m apos) [] [] pos) X.env = (do
      let ov ← eval o X.env
      standAt apos.atName
      let (f, first) ← holding [ov] (getMethod ov m pl)
      callWith pos f first (backTo pos (starEach [] X.env)) (backToKw pos (keywordEach [] X.env))) := by rfl) :
    PE X (.Call (.Attribute o m apos) [] [] pos) (tMeth C m sp dvs E ta tNil) := by
  intro pins s σ H Q I h
  refine PySem.W.methodCall_KW (pl := pl) (thn (he pins s σ H _ I h) fun u s1 ⟨x, H1, I1, rx, a, dx, fs, ex, ea, l, q⟩ => ?_) ht
  subst ex
  obtain rfl : u = Value.ref a := rx
  refine getmeth_ok I1 ea c hm l ?_
  exact PySem.W.callWith_K0 (first := [.ref a]) I1.kIn hm.kp (run_fn (us := [.ref a]) (vs := [.ref a]) F hr hb hd hx I1 (.cons rfl .nil) q)
structure Mk (K : PySem.W.Frag) (C f : Addr) : Prop where
  makes : PySem.W.makesIn K C = true
  init : PySem.W.findIn K (.ref C) "__init__" = some (some (.ref f))
  fn : PySem.W.isFn K (.ref f) = true
  kp : PySem.W.keepIn K (.ref C) = true
theorem run_make {pins : List (Addr × Obj)} {σ : St} {H : Hp} {s : Shared} {Q : VK} {us : List Value} {vs : List V} (M : Mk X.K C f) (F : FnOk X.prog X.w X.K X.mg X.base CX k f fd ps sp) (hr : Room (k + 1) X.A) (hb : Binds X.K fd ps ds) (hd : Vals dvs ds)
    (hx : Passes CX X E) (I : Inv X pins σ H s) (r : Vals vs us)
    (h : ∀ x dx, H x = none → H dx = none → dx ≠ x → sp (.ref x :: (vs ++ dvs)) (upd (upd H dx (.own x)) x (.ins C dx [])) (fun v H2 => v = .non ∧ Q (.ref x) H2) E) :
    wpAny (model X.prog X.w) X.A (call (.ref C) us) (EP X pins σ Q) X.xe s := by
  have hq := h (s.heap.objs.size + 1) s.heap.objs.size (I.hok.fresh (Nat.le_succ _)) (I.hok.fresh (Nat.le_refl _)) (Nat.ne_of_lt (Nat.lt_succ_self _))
  have I2 := Inv.made (C := C) I
  have r2 : Vals (V.ref (s.heap.objs.size + 1) :: (vs ++ dvs)) (Value.ref (s.heap.objs.size + 1) :: (us ++ ds)) := .cons rfl (r.append hd)
  have hl : (Value.ref (s.heap.objs.size + 1) :: us ++ ds).length = ps.length := by
    have e := r2.length
    rw [F.len _ _ _ _ hq] at e
    exact e.symm
  refine wpAny_call (make_map (f := f) I.kIn M.makes M.init (beq_iff_eq.mp M.fn) (codeAny_mono (F.run _ X.stack _ _ ⟨Value.ref (s.heap.objs.size + 1) :: us, []⟩ (Value.ref (s.heap.objs.size + 1) :: (us ++ ds)) _ _ E (hr.make C us [])
    (I2.env0.make C us []) (hb _ (Value.ref (s.heap.objs.size + 1) :: us) I2.kIn hl) r2 hq) fun r s' hq' => ?_))
  cases r with
  | error e => exact hx pins σ _ _ e s' I2 hq'
  | ok fl =>
    cases fl with
    | ret u =>
      obtain ⟨v, H', I3, rv, ev, q3⟩ := I2.after hq'
      subst ev
      exact ⟨rv, ⟨V.ref (s.heap.objs.size + 1), H', I3, rfl, q3⟩⟩
    | next => exact False.elim hq'
    | brk => exact False.elim hq'
    | cont => exact False.elim hq'
theorem pe_make (M : Mk X.K C f) (F : FnOk X.prog X.w X.K X.mg X.base CX k f fd ps sp) (hr : Room (k + 1) X.A) (hg : Gl X x) (hm : X.mg x = some (.ref C)) (hb : Binds X.K fd ps ds) (hd : Vals dvs ds) (hx : Passes CX X E)
    (ha : PA X (e :: es) t) (hdb : (x == ("__debug__" : Str)) = false := by decide) (he : starEach (e :: es) X.env = (false, eval e X.env) :: starEach es X.env := by rfl) (hpl : (backTo pos (starEach es X.env)).any (·.1) = false := by rfl) :
    PE X (.Call (.Name x p) (e :: es) [] pos) (tMake C sp dvs E t) := by
  intro pins s σ H Q I h
  refine wpAny_Call_Name_kw (ld_glob I hg hm ?_ hdb)
  refine PySem.W.callWith_K (h₀ := X.base) I.ok.mod.kin M.kp (thn (ha pos pins s σ H _ I h) fun us s1 ⟨vs, H1, I1, r, q⟩ => ⟨I1.kIn, ?_⟩) he hpl
  exact run_make M F hr hb hd hx I1 r q
end
section
variable {X : Cx} {CX : CXT} {k : Nat} {f C : Addr} {fd : FuncData} {ps ks : List Str} {sp : Sp} {E : XK} {x m : Str} {p pos apos kpos : Pos} {e o : Expr} {es : List Expr} {kws : List Keyword} {te ta : TE} {t tk : TA} {nm : Option Str}
structure KBinds (K : PySem.W.Frag) (fd : FuncData) (ps ks : List Str) (g : List Value → List Value → List Value) (gV : List V → List V → List V) : Prop where
  to : ∀ (s : Shared) (us ws : List Value), K.In s.heap → (g us ws).length = ps.length → BindsTo s fd ⟨us, ks.zip ws⟩ (ps.zip (g us ws))
  rel : ∀ {vs : List V} {us : List Value} {zs : List V} {ws : List Value}, Vals vs us → Vals zs ws → Vals (gV vs zs) (g us ws)
variable {g : List Value → List Value → List Value} {gV : List V → List V → List V}
end
structure FnScope (N P : List Str) (sc : Scope) : Prop where
  kind : sc.kind = .function
  co : sc.isCoroutine = false
  gen : sc.isGenerator = false
  nd : N.Nodup
  pre : N.take P.length = P
  par : ∀ x ∈ P, sc.names.lookup x = some .local ∨ sc.names.lookup x = some .cell
  nofree : ∀ y ∈ sc.names, y.2 ≠ .free
theorem bindL_out {kindOf : Str → Option NameKind} {x : Str} : ∀ {binds : List (Str × Value)} {m : Str → Option Value}, (∀ v, (x, v) ∉ binds) → bindL kindOf binds m x = m x
  | [], _, _ => rfl
  | (n, v) :: r, m, h => by
    unfold bindL
    rw [bindL_out fun w hw => h w (List.mem_cons_of_mem _ hw)]
    split
    · have : x ≠ n := by rintro rfl; exact h v List.mem_cons_self
      simp [this]
    · rfl
theorem bindC_out {kindOf : Str → Option NameKind} {x : Str} : ∀ {binds : List (Str × Value)} {m : Str → Option Value}, (∀ v, (x, v) ∉ binds) → bindC kindOf binds m x = m x
  | [], _, _ => rfl
  | (n, v) :: r, m, h => by
    unfold bindC
    rw [bindC_out fun w hw => h w (List.mem_cons_of_mem _ hw)]
    split
    · rfl
    · have : x ≠ n := by rintro rfl; exact h v List.mem_cons_self
      simp [this]
theorem bindL_get {kindOf : Str → Option NameKind} {x : Str} {v : Value} : ∀ {P : List Str} {vs : List Value} {i : Nat} {m : Str → Option Value}, P.Nodup → P[i]? = some x → vs[i]? = some v → kindOf x = some .local →
    bindL kindOf (P.zip vs) m x = some v
  | [], _, _, _, _, h, _, _ => by simp at h
  | _ :: _, [], _, _, _, _, h, _ => by simp at h
  | p :: P, w :: vs, 0, m, nd, h1, h2, hk => by
    simp at h1 h2; subst h1; subst h2
    show bindL kindOf ((p, w) :: P.zip vs) m p = _
    unfold bindL
    rw [bindL_out fun v hv => (List.nodup_cons.mp nd).1 (List.of_mem_zip hv).1, if_pos hk]
    simp
  | p :: P, w :: vs, i + 1, m, nd, h1, h2, hk => by
    show bindL kindOf ((p, w) :: P.zip vs) m x = _
    unfold bindL
    exact bindL_get (i := i) (List.nodup_cons.mp nd).2 (by simpa using h1) (by simpa using h2) hk
theorem bindC_get {kindOf : Str → Option NameKind} {x : Str} {v : Value} : ∀ {P : List Str} {vs : List Value} {i : Nat} {m : Str → Option Value}, P.Nodup → P[i]? = some x → vs[i]? = some v → kindOf x ≠ some .local →
    bindC kindOf (P.zip vs) m x = some v
  | [], _, _, _, _, h, _, _ => by simp at h
  | _ :: _, [], _, _, _, _, h, _ => by simp at h
  | p :: P, w :: vs, 0, m, nd, h1, h2, hk => by
    simp at h1 h2; subst h1; subst h2
    show bindC kindOf ((p, w) :: P.zip vs) m p = _
    unfold bindC
    rw [bindC_out fun v hv => (List.nodup_cons.mp nd).1 (List.of_mem_zip hv).1, if_neg hk]
    simp
  | p :: P, w :: vs, i + 1, m, nd, h1, h2, hk => by
    show bindC kindOf ((p, w) :: P.zip vs) m x = _
    unfold bindC
    exact bindC_get (i := i) (List.nodup_cons.mp nd).2 (by simpa using h1) (by simpa using h2) hk
def start (N : List Str) (vs : List V) : St := vs.map some ++ List.replicate (N.length - vs.length) none
def cxOf (CX : CXT) (P : Program) (w : World) (K : PySem.W.Frag) (mg : Str → Option Value) (base : Heap) (N : List Str) (qual : Str) (scope : Scope) (f : Addr) (cd : Value) (A : Around) (outer : List Env) (s : Shared) (H : Hp) (E : XK) : Cx where
  prog := P
  w := w
  K := K
  mg := mg
  base := base
  A := A.deeper (envOfC qual scope s.heap.objs.size f cd)
  N := N
  s₀ := s
  H₀ := H
  env := envOfC qual scope s.heap.objs.size f cd
  outer := outer
  stack := envOfC qual scope s.heap.objs.size f cd :: outer
  ex := []
  calm := true
  fn := fun _ => true
  pn := []
  xe := fun e s' => wpAny (model P w) (A.deeper (envOfC qual scope s.heap.objs.size f cd)) (leaving (envOfC qual scope s.heap.objs.size f cd) e) (fun _ s'' => CX outer H s E e s'') (fun e' s'' => CX outer H s E e' s'') s'
theorem cell_has {sc : Scope} {n : Nat} {x : Str} (h : sc.names.lookup x = some .cell) : ∃ c, (cellsFrom n sc.names []).lookup x = some c := by
  have q := PySem.W.cellsFrom_some sc.names n [] (.inl h)
  exact Option.isSome_iff_exists.mp q
theorem inv_start {CX : CXT} {P : Program} {w : World} {K : PySem.W.Frag} {mg : Str → Option Value} {base : Heap} {N ps : List Str} {qual : Str} {scope : Scope} {f : Addr} {cd : Value} {A : Around} {outer : List Env} {s s1 : Shared} {H : Hp} {E : XK} {us : List Value} {vs : List V}
    (S : FnScope N ps scope) (hd : A.handled = none) (e0 : Env0 P w K mg base A outer s H) (hl : vs.length = ps.length) (r : Vals vs us)
    (x : InCallC s s.heap.objs.size (bindL (envOfC qual scope s.heap.objs.size f cd).kindOf (ps.zip us) fun _ => none) (cellsFrom (s.heap.objs.size + 1) scope.names []) (bindC (envOfC qual scope s.heap.objs.size f cd).kindOf (ps.zip us) fun _ => none) s1) :
    Inv (cxOf CX P w K mg base N qual scope f cd A outer s H E) [] (start N vs) H s1 := by
  have hpl : ps.length ≤ N.length := by have := congrArg List.length S.pre; rw [List.length_take] at this; omega
  obtain ⟨h1, tk, rfl, hk⟩ := x.done
  have noA : ∀ b : Addr, b ∉ (cxOf CX P w K mg base N qual scope f cd A outer s H E).ex := fun b z => absurd (show b ∈ ([] : List Addr) from z) (by simp)
  refine ⟨⟨e0.mod, S.kind, rfl, rfl, Nat.le_refl _, fun y z c h1 h2 => ?_, fun y hy => ?_, fun y c _ h => ?_, fun _ => hd, Around.frames_deeper e0.frames, .inr ⟨rfl, rfl⟩, fun b z => absurd z (noA b), e0.bs, e0.bsz, fun b _ _ => noA b, fun b z => absurd z (noA b), e0.funs, e0.frf⟩,
    rfl, e0.bare, Un.kept hk, ⟨_, x.toInCall.ns, fun i y v h1 h2 h3 => ?_⟩, fun y c h => ⟨_, x.cell y c h⟩, e0.hok.fresh (Nat.le_refl _), fun y c h => ?_, fun p hp => absurd (show p ∈ ([] : List (Addr × Obj)) from hp) (by simp), e0.hok.kept hk, ?_⟩
  · exact name_of_addr x.apart (PySem.mem_of_lookup h1) (PySem.mem_of_lookup h2)
  · have hy : scope.names.lookup y = some .cell ∨ scope.names.lookup y = some .free := hy
    rcases hy with hy | hy
    · exact cell_has hy
    · exact absurd rfl (S.nofree _ (PySem.mem_of_lookup hy))
  · exact Nat.le_of_lt (x.above y c (PySem.mem_of_lookup h))
  · have hi : i < vs.length := by
      unfold start at h2
      by_cases hi : i < vs.length
      · exact hi
      · rw [List.getElem?_append_right (by simpa using hi)] at h2
        rw [List.getElem?_replicate] at h2
        split at h2 <;> cases h2
    have ha : vs[i]? = some v := by
      unfold start at h2
      rw [List.getElem?_append_left (by simpa using hi), List.getElem?_map] at h2
      cases e : vs[i]? with
      | none => rw [e] at h2; cases h2
      | some a => rw [e] at h2; cases h2; rfl
    obtain ⟨u, hu, rv⟩ := r.get ha
    have hp : ps[i]? = some y := by
      rw [← S.pre, List.getElem?_take_of_lt (by omega)]; exact h1
    have ndP : ps.Nodup := by rw [← S.pre]; exact S.nd.sublist (List.take_sublist _ _)
    refine ⟨u, rv, ?_⟩
    rcases S.par y (List.mem_of_getElem? hp) with k | k
    · exact .inl ⟨k, bindL_get ndP hp hu k⟩
    · obtain ⟨c, e⟩ := cell_has (n := s.heap.objs.size + 1) k
      refine .inr ⟨.inl k, c, e, ?_⟩
      have q := x.cell y c e
      rw [bindC_get ndP hp hu (by show scope.names.lookup y ≠ _; rw [k]; decide)] at q
      exact q
  · exact e0.hok.fresh (Nat.le_of_lt (x.above y c (PySem.mem_of_lookup h)))
  · unfold start
    show _ = N.length
    rw [List.length_append, List.length_map, List.length_replicate]
    omega
theorem fn_of {CX : CXT} {P : Program} {w : World} {K : PySem.W.Frag} {mg : Str → Option Value} {base : Heap} {k : Nat} {f : Addr} {name qual : Str} {params : Arguments} {body : List Stmt} {scope : Scope} {dV kV doc pm cdv ct oc : Value} {an od : Option Addr}
    {osl : Array (Option Value)} {N ps : List Str} {sp : Sp} (lk : K.lookup f = some ⟨oc, od, .func (PySem.W.fnOf name qual params body scope dV kV doc pm an cdv ct), osl⟩) (hcd : PySem.W.codeIn K cdv qual = true) (S : FnScope N ps scope)
    (len : ∀ vs H Q E, sp vs H Q E → vs.length = ps.length)
    (hbody : ∀ (A : Around) (outer : List Env) (s : Shared) (H : Hp) (vs : List V) (Q : VK) (E : XK), Room k (A.deeper (envOfC qual scope s.heap.objs.size f cdv)) → sp vs H Q E →
      ∃ t, PSs (cxOf CX P w K mg base N qual scope f cdv A outer s H E) body t ∧ t { nx := fun _ H' => Q .non H', rt := Q } (start N vs) H) :
    FnOk P w K mg base CX (k + 1) f (PySem.W.fnOf name qual params body scope dV kV doc pm an cdv ct) ps sp := by
  refine ⟨len, fun A outer s H args us vs Q E hr e0 hb r hsp => ?_⟩
  have hl := len _ _ _ _ hsp
  have KX : K.In s.heap := e0.mod.kin.keeps fun b o e => (e0.bs b o e).1
  have lim : s.heap.NoLimit := e0.mod.nolimit.keeps fun b o e => (e0.bs b o e).1
  have hkind : ∀ y ∈ ps.zip us, scope.names.lookup y.1 = some .local ∨ (scope.names.lookup y.1 = some .cell ∧ ((cellsFrom (s.heap.objs.size + 1) scope.names []).lookup y.1).isSome = true) := fun ⟨n, v⟩ hy => by
    rcases S.par n (List.of_mem_zip hy).1 with q | q
    · exact .inl q
    · exact .inr ⟨q, PySem.W.cellsFrom_some _ _ _ (.inl q)⟩
  refine codeAny_call_function hr.depth (KX _ _ lk) rfl S.co S.gen rfl (PySem.W.codeRec_of KX hcd) (hb _ _ _ _ ?_)
  refine wpAny_newFunctionEnv_cells S.kind hkind fun env he s1 x => ?_
  subst he
  refine ⟨lim.keeps x.toInCall.keep, codeAny_func ?_⟩
  obtain ⟨t, ht, hq⟩ := hbody A outer s H vs Q E (hr.deeper _) hsp
  have I : Inv (cxOf CX P w K mg base N qual scope f cdv A outer s H E) [] (start N vs) H s1 := inv_start S hr.hd e0 hl r x
  refine wpAny_mono (ht [] s1 (start N vs) H _ I hq) (fun fl s' hs => ?_) fun e s' hs => hs
  have fin : ∀ {σ' : St} {H' : Hp} {v : V} {u : Value}, Inv (cxOf CX P w K mg base N qual scope f cdv A outer s H E) [] σ' H' s' → RelV v u → Q v H' → CE outer P w H s Q u s' :=
    fun {σ' H' v u} J rv q => ⟨v, H', J.os, J.bare, J.base, J.hok, rv, q⟩
  cases fl with
  | ret u =>
    obtain ⟨v, σ', H', J, rv, q⟩ := hs
    exact fin J rv q
  | next =>
    obtain ⟨σ', H', J, q⟩ := hs
    exact fin (v := V.non) (u := Value.none) J rfl q
  | brk =>
    obtain ⟨_, _, _, q⟩ := hs
    exact False.elim q
  | cont =>
    obtain ⟨_, _, _, q⟩ := hs
    exact False.elim q
end L2
namespace L2
open PySem PySem.Spec PyProof.Rows
section
variable {X : Cx} {x : Str} {p pos : Pos} {e : Expr} {es : List Expr} {t : TA} {id T : String} {r : List V → Hp → VK → Prop}
def tCB (r : List V → Hp → VK → Prop) (t : TA) : TE := fun σ H Q => t σ H fun vs H1 => r vs H1 Q
theorem pe_callB (hc : CallR X (.builtin id) r) (hg : Gl X x) (hm : X.mg x = none) (hv : bootBuiltins x = some (.builtin id)) (ha : PA X (e :: es) t) (hn : x ≠ "__name__" := by decide) (hdb : (x == ("__debug__" : Str)) = false := by decide)
    (he : starEach (e :: es) X.env = (false, eval e X.env) :: starEach es X.env := by rfl) (hpl : (backTo pos (starEach es X.env)).any (·.1) = false := by rfl) : PE X (.Call (.Name x p) (e :: es) [] pos) (tCB r t) := by
  intro pins s σ H Q I h
  refine wpAny_Call_Name_kw (ld_blt I hg hm hv ?_ hn hdb)
  exact PyProof.Rows.callWith_builtin1 (thn (ha pos pins s σ H _ I h) fun us s1 ⟨vs, H1, I1, r1, q1⟩ => hc pins s1 σ H1 vs us Q I1 r1 q1) he hpl
theorem pe_callTy (hc : CallR X (.type T) r) (hg : Gl X x) (hm : X.mg x = none) (hv : bootBuiltins x = some (.type T)) (ha : PA X (e :: es) t) (hn : x ≠ "__name__" := by decide) (hdb : (x == ("__debug__" : Str)) = false := by decide)
    (he : starEach (e :: es) X.env = (false, eval e X.env) :: starEach es X.env := by rfl) (hpl : (backTo pos (starEach es X.env)).any (·.1) = false := by rfl) : PE X (.Call (.Name x p) (e :: es) [] pos) (tCB r t) := by
  intro pins s σ H Q I h
  refine wpAny_Call_Name_kw (ld_blt I hg hm hv ?_ hn hdb)
  exact PyProof.Rows.callWith_type1 (thn (ha pos pins s σ H _ I h) fun us s1 ⟨vs, H1, I1, r1, q1⟩ => hc pins s1 σ H1 vs us Q I1 r1 q1) he hpl
end
end L2
namespace HT
open PySem PyProof.Rows
section
open PySem.SeqAt
open PySem.AutoSeq1 (wpAny_loadPart')
open PySem.MeetsSeq PySem.MeetsSeq2 PySem.MeetsSeq3
end
section
variable {prog : Program} {w : World} {A : Around} {E : Value → Shared → Prop} {s : Shared}
def sIx (n d : Nat) : Option Int → Nat
  | none => d
  | some v => if v < 0 then (v + (n : Int)).toNat else min v.toNat n
theorem sIx_none (n d : Nat) : sIx n d none = d := rfl
theorem sIx_nat (n d k : Nat) : sIx n d (some (k : Int)) = min k n := by
  show (if (k : Int) < 0 then ((k : Int) + (n : Int)).toNat else min (k : Int).toNat n) = min k n
  rw [if_neg (by omega), Int.toNat_natCast]
end
end HT
namespace L2
open PySem PySem.Spec PyProof.Rows
abbrev TO := St → Hp → (Option Int → Hp → Prop) → Prop
def PO (X : Cx) (e : Option Expr) (t : TO) : Prop :=
  ∀ (pins : List (Addr × Obj)) (s : Shared) (σ : St) (H : Hp) (Q : Option Int → Hp → Prop), Inv X pins σ H s → t σ H Q →
    wpAny (model X.prog X.w) X.A (evalPart e X.env) (fun u s' => ∃ o H', Inv X pins σ H' s' ∧ IsPart u o ∧ Q o H') X.xe s
def tNoPart : TO := fun _ H Q => Q none H
def tPart (t : TE) : TO := fun σ H Q => t σ H fun x H1 => ∃ i, x = .int i ∧ Q (some i) H1
theorem intsAre_of {ns : List Int} : ∀ {us : List Value}, Vals (ns.map V.int) us → IntsAre us ns := by
  induction ns with
  | nil => intro us r; rw [List.map_nil] at r; cases r; exact .nil
  | cons n ns ih =>
    intro us r
    rw [List.map_cons] at r
    cases r with
    | cons r1 r2 =>
      obtain ⟨t, e⟩ := r1
      subst e
      exact .cons n t (ih r2)
section
variable {X : Cx} {e : Expr} {te : TE} {lo hi : Option Expr} {tl th : TO} {pos p2 : Pos}
theorem po_none : PO X none tNoPart := by
  intro pins s σ H Q I h
  rw [evalPart_none]
  exact wpAny_pure ⟨none, H, I, .none, h⟩
theorem po_some (h : PE X e te) : PO X (some e) (tPart te) := by
  intro pins s σ H Q I hw
  rw [evalPart_some]
  refine thn (h pins s σ H _ I hw) fun u s1 ⟨x, H1, I1, r1, q1⟩ => ?_
  obtain ⟨i, rfl, q⟩ := q1
  obtain ⟨t, rfl⟩ := r1
  exact ⟨some i, H1, I1, .int i t, q⟩
def SlR (X : Cx) (r : V → Option Int → Option Int → Hp → VK → Prop) : Prop :=
  ∀ (pins : List (Addr × Obj)) (s : Shared) (σ : St) (H : Hp) (x : V) (v vl vu : Value) (lo hi : Option Int) (sl : Addr) (Q : VK), Inv X pins σ H s → RelV x v → s.heap.IsSliceOf sl vl vu .none → IsPart vl lo → IsPart vu hi → r x lo hi H Q →
    ∃ T id, typeLookup (.type T) "__getitem__" = pure (some (.builtin id)) ∧ s.TypeIs v T ∧ wpAny (model X.prog X.w) X.A (getItem v (.ref sl)) (EP X pins σ Q) X.xe s
def tSl (r : V → Option Int → Option Int → Hp → VK → Prop) (te : TE) (tl th : TO) : TE := fun σ H Q => te σ H fun x H1 => tl σ H1 fun l H2 => th σ H2 fun u H3 => r x l u H3 Q
theorem pe_slice {r : V → Option Int → Option Int → Hp → VK → Prop} (hr : SlR X r) (he : PE X e te) (hl : PO X lo tl) (hu : PO X hi th) : PE X (.Subscript e (.Slice lo hi none p2) pos) (tSl r te tl th) := by
  intro pins s σ H Q I h
  refine Subscript_ (thn (he pins s σ H _ I h) fun v s1 ⟨x, H1, I1, r1, q1⟩ => ?_)
  refine wpAny_Slice (thn (hl pins s1 σ H1 _ I1 q1) fun vl s2 ⟨l, H2, I2, pl, q2⟩ => thn (hu pins s2 σ H2 _ I2 q2) fun vu s3 ⟨u, H3, I3, pu, q3⟩ => ?_)
  rw [evalPart_none]
  refine wpAny_pure ?_
  have I4 : Inv X pins σ H3 { s3 with heap := s3.heap.push { cls := .type "slice", data := .fields #[vl, vu, .none] } } := I3.kept (t' := s3.toks) fun b ob q => Heap.get?_push_of_some _ q
  obtain ⟨T, id, hT, ht, hg⟩ := hr pins { s3 with heap := s3.heap.push { cls := .type "slice", data := .fields #[vl, vu, .none] } } σ H3 x v vl vu l u s3.heap.objs.size Q I4 r1 (Heap.IsSliceOf.new ..) pl pu q3
  show wpAny (model X.prog X.w) X.A (subscriptTail e (.Slice lo hi none p2) v (.ref s3.heap.objs.size)) (EP X pins σ Q) X.xe { s3 with heap := s3.heap.push { cls := .type "slice", data := .fields #[vl, vu, .none] } }
  exact tail_any (ops := [.ref s3.heap.objs.size, v]) ht hT hg (by with_unfolding_all rfl)
def cutV (xs : List V) (lo hi : Option Int) : List V := (xs.drop (HT.sIx xs.length 0 lo)).take (HT.sIx xs.length xs.length hi - HT.sIx xs.length 0 lo)
theorem cutV_length (xs : List V) (lo hi : Option Int) : (cutV xs lo hi).length ≤ xs.length := by
  unfold cutV
  rw [List.length_take, List.length_drop]
  omega
end
end L2
namespace L2
open PySem PySem.Spec PyProof.Rows
def ixN (n : Nat) (i : Int) : Option Nat := if 0 ≤ i then (if i < n then some i.toNat else none) else if -(n : Int) ≤ i then some (i + n).toNat else none
def atI {α : Type} (xs : List α) (i : Int) : Option α := (ixN xs.length i).bind fun j => xs[j]?
theorem ixN_seq {n : Nat} {i : Int} {j : Nat} (h : ixN n i = some j) : seqIndex? i n = some j ∧ j < n ∧ -(n : Int) ≤ i ∧ i < n := by
  unfold ixN at h
  by_cases h0 : 0 ≤ i
  · rw [if_pos h0] at h
    by_cases h1 : i < n
    · rw [if_pos h1] at h
      have e : i.toNat = j := Option.some.inj h
      exact ⟨by rw [seqIndex_of h0 h1, e], by omega, by omega, h1⟩
    · rw [if_neg h1] at h; cases h
  · rw [if_neg h0] at h
    by_cases h1 : -(n : Int) ≤ i
    · rw [if_pos h1] at h
      have e : (i + n).toNat = j := Option.some.inj h
      exact ⟨by rw [seqIndex_neg (by omega) h1, e], by omega, h1, by omega⟩
    · rw [if_neg h1] at h; cases h
theorem atI_get {α : Type} {xs : List α} {i : Int} {v : α} (h : atI xs i = some v) : ∃ j, seqIndex? i xs.length = some j ∧ xs[j]? = some v ∧ j < xs.length ∧ -(xs.length : Int) ≤ i ∧ i < xs.length := by
  unfold atI at h
  cases e : ixN xs.length i with
  | none => rw [e] at h; cases h
  | some j =>
    rw [e] at h
    obtain ⟨h1, h2, h3, h4⟩ := ixN_seq e
    exact ⟨j, h1, h, h2, h3, h4⟩
theorem atI_nat {α : Type} {xs : List α} {j : Nat} {v : α} (h : xs[j]? = some v) : atI xs (j : Int) = some v := by
  have hj : j < xs.length := (List.getElem?_eq_some_iff.mp h).1
  have e : ixN xs.length (j : Int) = some j := by
    unfold ixN
    rw [if_pos (by omega), if_pos (by omega)]; simp
  unfold atI; rw [e]; exact h
def PlainIx (b : Expr) : Prop := ∀ o i, subscripted b false o i = operate [o, i] (getItem o i)
def IxR (X : Cx) (r : R2) : Prop :=
  ∀ (value slice : Expr) (pins : List (Addr × Obj)) (s : Shared) (σ : St) (H : Hp) (x y : V) (v u : Value) (Q : VK), Inv X pins σ H s → RelV x v → RelV y u → r x y H Q →
    subscripted slice false v u = operate [v, u] (getItem v u) → wpAny (model X.prog X.w) X.A (subscriptTail value slice v u) (EP X pins σ Q) X.xe s
def MtR (X : Cx) (id : String) (r : V → List V → Hp → VK → Prop) : Prop :=
  ∀ (pins : List (Addr × Obj)) (s : Shared) (σ : St) (H : Hp) (x : V) (xs : List V) (v : Value) (us : List Value) (Q : VK), Inv X pins σ H s → RelV x v → Vals xs us → r x xs H Q →
    wpAny (model X.prog X.w) X.A (call (.builtin id) (v :: us)) (EP X pins σ Q) X.xe s
section
variable {X : Cx} {a b : Expr} {ta tb : TE} {pos : Pos}
theorem pe_ix {r : R2} (hr : IxR X r) (ha : PE X a ta) (hb : PE X b tb) (hs : PlainIx b) : PE X (.Subscript a b pos) (tOp r ta tb) := by
  intro pins s σ H Q I h
  exact Subscript_ (binT ha hb I h fun v u s2 x y H2 I2 rx ry q => hr a b pins s2 σ H2 x y v u Q I2 rx ry q (hs _ _))
def rIxL (K : PySem.W.Frag) : R2 := fun x y H Q => ∃ p xs i v, x = .ref p ∧ y = .int i ∧ SqL K H p xs ∧ atI xs i = some v ∧ Q v H
def rIxT (K : PySem.W.Frag) : R2 := fun x y H Q => ∃ p xs i v, x = .ref p ∧ y = .int i ∧ SqT K H p xs ∧ atI xs i = some v ∧ Q v H
theorem ix_list : IxR X (rIxL X.K) := by
  intro value slice pins s σ H x y v u Q I rx ry h hs
  obtain ⟨p, xs, i, z, rfl, rfl, hq, he, q⟩ := h
  cases rx
  obtain ⟨t, rfl⟩ := ry
  obtain ⟨its, r, pl, hz⟩ := I.list hq
  obtain ⟨j, h1, h2, h3, h4, h5⟩ := atI_get he
  obtain ⟨w, ew, rw'⟩ := r.get h2
  have hl := r.length
  have hn := line63
  have fin : EP X pins σ Q w s := ⟨z, H, I, rw', q⟩
  by_cases h0 : 0 ≤ i
  · have hj : i.toNat = j := by
      rw [seqIndex_of h0 h5] at h1
      exact Option.some.inj h1
    exact item_listR pl.isList h0 (by omega) (by rw [hj]; simpa using ew) fin hs
  · have hj : (i + (its.toArray.size : Int)).toNat = j := by
      rw [seqIndex_neg (by omega) h4] at h1
      rw [List.size_toArray, ← hl]
      exact Option.some.inj h1
    exact subscriptTail_builtinR (x := w) pl.isList.typeIs slot_list_getitem.lookup
      (wpAny_getItem_list_neg (Q := fun r s' => r = w ∧ EP X pins σ Q r s') pl.isList (by omega) (by rw [List.size_toArray] <;> omega) (by omega) (by rw [hj]; simpa using ew) ⟨rfl, fin⟩) hs
theorem ix_tup : IxR X (rIxT X.K) := by
  intro value slice pins s σ H x y v u Q I rx ry h hs
  obtain ⟨p, xs, i, z, rfl, rfl, hq, he, q⟩ := h
  cases rx
  obtain ⟨t, rfl⟩ := ry
  obtain ⟨its, r, pl, hz⟩ := I.tuple hq
  obtain ⟨j, h1, h2, h3, h4, h5⟩ := atI_get he
  obtain ⟨w, ew, rw'⟩ := r.get h2
  have hl := r.length
  have hn := line63
  have fin : EP X pins σ Q w s := ⟨z, H, I, rw', q⟩
  exact subscriptTail_builtinR (x := w) pl.typeIs slot_tuple_getitem.lookup
    (getItem_tuple (j := j) (Q := fun r s' => r = w ∧ EP X pins σ Q r s') pl (by omega) (by omega) (by rw [List.size_toArray, ← hl]; exact h1) (by simpa using ew) ⟨rfl, fin⟩) hs
theorem mapSeq_set (its : List Value) (n j : Nat) (u : Value) : Obj.mapSeq (·.setIfInBounds j u) { cls := .type "list", data := .seq its.toArray n } = { cls := .type "list", data := .seq (its.set j u).toArray n } := by
  simp [Obj.mapSeq]
theorem Inv.lst {pins : List (Addr × Obj)} {σ : St} {H : Hp} {s : Shared} {p : Addr} {xs : List V} (I : Inv X pins σ H s) (h : H p = some (.lst xs)) :
    ∃ (its : List Value) (n : Nat), Vals xs its ∧ s.heap.get? p = some { cls := .type "list", data := .seq its.toArray n } ∧ xs.length ≤ sizeLine := by
  obtain ⟨z, its, n, r, e⟩ := I.hok p _ h
  exact ⟨its, n, r, e, z⟩
theorem Inv.lstUpd {pins : List (Addr × Obj)} {σ : St} {H : Hp} {s : Shared} {p : Addr} {xs ys : List V} {its its' : List Value} {n n' : Nat} {f : Obj → Obj} (I : Inv X pins σ H s) (h : H p = some (.lst xs))
    (ho : s.heap.get? p = some { cls := .type "list", data := .seq its.toArray n }) (hf : f { cls := .type "list", data := .seq its.toArray n } = { cls := .type "list", data := .seq its'.toArray n' }) (r : Vals ys its') (hz : ys.length ≤ sizeLine) (t : Nat) :
    Inv X pins σ (upd H p (.lst ys)) { s with heap := s.heap.update p f, toks := t } := by
  have e : (s.heap.update p f).get? p = some { cls := .type "list", data := .seq its'.toArray n' } := by
    rw [Heap.get?_update_self f ho (by rw [hf] <;> rfl), hf]
  refine I.write (x := p) (e := p) (by rw [h]; trivial) (.inl rfl) (fun b u hb q => (Heap.get?_update_other _ _ (Ne.symm hb)).trans q) ⟨_, e⟩ ?_
  exact ⟨hz, its', n', r, e⟩
def rSetL : V → V → V → Hp → (Hp → Prop) → Prop := fun o i v H Q => ∃ p xs k j, o = .ref p ∧ i = .int k ∧ H p = some (.lst xs) ∧ ixN xs.length k = some j ∧ Q (upd H p (.lst (xs.set j v)))
theorem set_list : PSet X rSetL := by
  intro pins s σ H o i v ov iv u Q I ro ri rv h
  obtain ⟨p, xs, k, j, rfl, rfl, hp, hj, q⟩ := h
  cases ro
  obtain ⟨t, rfl⟩ := ri
  obtain ⟨its, n, r, ho, hz⟩ := I.lst hp
  obtain ⟨h1, h2, h3, h4⟩ := ixN_seq hj
  have hl := r.length
  have hn := line63
  have I' : Inv X pins σ (upd H p (.lst (xs.set j v))) { s with heap := s.heap.update p (Obj.mapSeq (·.setIfInBounds j u)) } :=
    I.lstUpd hp ho (mapSeq_set its n j u) (r.set rv j) (by rw [List.length_set]; exact hz) s.toks
  by_cases h0 : 0 ≤ k
  · have hk : k.toNat = j := by
      rw [seqIndex_of h0 h4] at h1
      exact Option.some.inj h1
    exact PySem.W.ki_setAt ho h0 (by omega) (by rw [List.size_toArray, ← hl]; exact h4) (by rw [hk]; exact ⟨_, I', q⟩)
  · have hk : (k + (its.toArray.size : Int)).toNat = j := by
      rw [seqIndex_neg (by omega) h3] at h1
      rw [List.size_toArray, ← hl]
      exact Option.some.inj h1
    exact PySem.W.ki_setBack ho (by omega) (by rw [List.size_toArray, ← hl]; exact h3) (by omega) (by rw [hk]; exact ⟨_, I', q⟩)
theorem slice_bounds (lo hi : Option Int) (n : Nat) : (sliceBounds lo hi none n).1 = ((HT.sIx n 0 lo : Nat) : Int) ∧ (sliceBounds lo hi none n).2.1 = ((HT.sIx n n hi : Nat) : Int) ∧ (sliceBounds lo hi none n).2.2 = 1 := by
  refine ⟨?_, ?_, rfl⟩
  · cases lo with
    | none => simp [sliceBounds, HT.sIx]
    | some i =>
      simp only [sliceBounds, HT.sIx, Option.getD_none, show (1 : Int) > 0 by decide, if_true]
      by_cases h : i < 0
      · simp only [h, if_true] <;> omega
      · simp only [h, if_false] <;> omega
  · cases hi with
    | none => simp [sliceBounds, HT.sIx]
    | some i =>
      simp only [sliceBounds, HT.sIx, Option.getD_none, show (1 : Int) > 0 by decide, if_true]
      by_cases h : i < 0
      · simp only [h, if_true] <;> omega
      · simp only [h, if_false] <;> omega
theorem slicePick_cut (its : List Value) (lo hi : Option Int) : slicePick its.toArray lo hi none = ((its.drop (HT.sIx its.length 0 lo)).take (HT.sIx its.length its.length hi - HT.sIx its.length 0 lo)).toArray := by
  obtain ⟨h1, h2, h3⟩ := slice_bounds lo hi its.toArray.size
  unfold slicePick
  rw [h1, h2, h3]
  simp only [sliceRange_one, pick_run, List.size_toArray] <;> rfl
def rSlL (K : PySem.W.Frag) : V → Option Int → Option Int → Hp → VK → Prop := fun x lo hi H Q => ∃ a xs, x = .ref a ∧ SqL K H a xs ∧ ∀ p, H p = none → Q (.ref p) (upd H p (.lst (cutV xs lo hi)))
theorem sl_list : SlR X (rSlL X.K) := by
  intro pins s σ H x v vl vu lo hi sl Q I rx hs pl pu h
  obtain ⟨a, xs, rfl, hx, q⟩ := h
  cases rx
  obtain ⟨its, r, ht, hz⟩ := I.list hx
  have hlen := r.length
  refine ⟨"list", _, slot_list_getitem.lookup, ht.isList.typeIs, ?_⟩
  refine wpAny_getItem_list_slice ht.isList hs pl pu .none (by simp) ?_ (by rw [List.size_toArray] <;> omega)
  rw [slicePick_cut, ← hlen]
  refine ⟨.ref s.heap.objs.size, _, I.laid (t' := s.toks) (o := .lst (cutV xs lo hi)) (fun b ob q => Heap.get?_push_of_some _ q) (Nat.le_refl _) ?_, rfl, q _ (I.hok.fresh (Nat.le_refl _))⟩
  exact ⟨Nat.le_trans (cutV_length xs lo hi) hz, _, 0, (r.drop (HT.sIx xs.length 0 lo)).take (HT.sIx xs.length xs.length hi - HT.sIx xs.length 0 lo), Heap.get?_push_size _ rfl⟩
def flatV : V → Bool
  | .non => true
  | .bl _ => true
  | .int _ => true
  | .str _ => true
  | _ => false
theorem call_len_seq : CallR X (.builtin "len") (fun xs H Q => ∃ p ys, xs = [.ref p] ∧ (SqL X.K H p ys ∨ SqT X.K H p ys) ∧ Q (.int ys.length) H) := by
  intro pins s σ H xs us Q I r h
  obtain ⟨p, ys, rfl, hq, q⟩ := h
  obtain ⟨u, rfl, rx⟩ := vals1 r
  cases rx
  have hn := line63
  rcases hq with hq | hq
  · obtain ⟨its, r', pl, hz⟩ := I.list hq
    have hlen := r'.length
    exact Calls.call_len_list pl.isList (by simp only [List.size_toArray] <;> omega) ⟨.int ys.length, H, I.tok _, ⟨s.toks + 1, by rw [List.size_toArray, hlen]⟩, q⟩
  · obtain ⟨its, r', pl, hz⟩ := I.tuple hq
    have hlen := r'.length
    exact len_tuple pl (by simp only [List.size_toArray] <;> omega) ⟨.int ys.length, H, I.tok _, ⟨s.toks + 1, by rw [List.size_toArray, hlen]⟩, q⟩
theorem call_list_of : CallR X (.type "list") (fun xs H Q => ∃ p ys, xs = [.ref p] ∧ (SqL X.K H p ys ∨ SqT X.K H p ys) ∧ ∀ l, H l = none → Q (.ref l) (upd H l (.lst ys))) := by
  intro pins s σ H xs us Q I r h
  obtain ⟨p, ys, rfl, hq, q⟩ := h
  obtain ⟨u, rfl, rx⟩ := vals1 r
  cases rx
  have fin : ∀ (its : List Value), Vals ys its → ys.length ≤ sizeLine → ∀ (h' : Heap) (c' : Nat), (∀ b o', s.heap.get? b = some o' → h'.get? b = some o') →
      h'.get? s.heap.objs.size = some { cls := .type "list", dict := none, data := .seq its.toArray c', slots := #[] } → EP X pins σ Q (.ref s.heap.objs.size) { s with heap := h' } := fun its r' hz h' c' kp e =>
    ⟨.ref s.heap.objs.size, _, I.laid (t' := s.toks) kp (Nat.le_refl _) (show ObjOk X.prog X.w _ h' _ (.lst ys) from ⟨hz, its, c', r', e⟩), rfl, q _ (I.hok.fresh (Nat.le_refl _))⟩
  rcases hq with hq | hq
  · obtain ⟨its, r', pl, hz⟩ := I.list hq
    have hlen := r'.length
    obtain ⟨o, ho, hc, n, hd⟩ := pl.isList
    exact call_list_seq p (.inl rfl) ho hc hd (fun h' c' kp e => fin its r' hz h' c' kp e) (by simp only [List.size_toArray] <;> omega)
  · obtain ⟨its, r', pl, hz⟩ := I.tuple hq
    have hlen := r'.length
    obtain ⟨o, ho, hc, n, hd⟩ := pl
    exact call_list_seq p (.inr rfl) ho hc hd (fun h' c' kp e => fin its r' hz h' c' kp e) (by simp only [List.size_toArray] <;> omega)
def tyV (K : PySem.W.Frag) (T : String) (x : V) (H : Hp) : Prop := match x with
  | .str _ => T = "str"
  | .int _ => T = "int"
  | .ref p => (T = "list" ∧ ∃ xs, SqL K H p xs) ∨ (T = "tuple" ∧ ∃ o, K.lookup p = some o ∧ o.cls = .type "tuple" ∧ o.dict = none) ∨
      (T = "dict" ∧ ((∃ kvs, H p = some (.dK kvs)) ∨ ∃ kvs, H p = some (.dT kvs))) ∨ (T = "set" ∧ ∃ S n, H p = some (.set S n))
  | _ => False
theorem tyV_is {pins : List (Addr × Obj)} {σ : St} {H : Hp} {s : Shared} {T : String} {x : V} {v : Value} (I : Inv X pins σ H s) (r : RelV x v) (ty : tyV X.K T x H) :
    s.TypeIs v T ∧ ∀ a, v = .ref a → ∃ ob, s.heap.get? a = some ob ∧ ob.dict = none := by
  cases x with
  | str z =>
    obtain ⟨t, rfl⟩ := r
    cases (show T = "str" from ty)
    exact ⟨typeIs_str s z t, fun _ e => nomatch e⟩
  | int i =>
    obtain ⟨t, rfl⟩ := r
    cases (show T = "int" from ty)
    exact ⟨typeIs_int s i t, fun _ e => nomatch e⟩
  | ref p =>
    cases r
    rcases ty with ⟨rfl, xs, hq⟩ | ⟨rfl, o, hk, hc, hd⟩ | ⟨rfl, hk⟩ | ⟨rfl, S, n, hk⟩
    · obtain ⟨its, _, pl, _⟩ := I.list hq
      refine ⟨pl.isList.typeIs, fun a e => ?_⟩
      cases e
      obtain ⟨o, n, e, c, hd, _⟩ := pl
      exact ⟨o, e, hd⟩
    · refine ⟨⟨o, I.kIn p o hk, hc⟩, fun a e => ?_⟩
      cases e
      exact ⟨o, I.kIn _ o hk, hd⟩
    · have z : ∃ o, s.heap.get? p = some o ∧ o.ExactDict := by
        rcases hk with ⟨kvs, hk⟩ | ⟨kvs, hk⟩
        · obtain ⟨_, _, _, _, o, _, _, e, ex, _⟩ := I.hok p _ hk
          exact ⟨o, e, ex⟩
        · obtain ⟨_, _, _, _, o, _, _, e, ex, _⟩ := I.hok p _ hk
          exact ⟨o, e, ex⟩
      obtain ⟨o, e, ex⟩ := z
      refine ⟨⟨o, e, ex.1⟩, fun a e2 => ?_⟩
      cases e2
      exact ⟨o, e, ex.2.1⟩
    · obtain ⟨o, _, _, _, e, ex, _⟩ := I.hok p _ hk
      refine ⟨⟨o, e, ex.1⟩, fun a e2 => ?_⟩
      cases e2
      exact ⟨o, e, ex.2.1⟩
  | _ => exact False.elim ty
def tBM0 (K : PySem.W.Frag) (T : String) (r : V → List V → Hp → VK → Prop) (to : TE) : TE := fun σ H Q => to σ H fun x H1 => tyV K T x H1 ∧ r x [] H1 Q
def tBM (K : PySem.W.Frag) (T : String) (r : V → List V → Hp → VK → Prop) (to : TE) (t : TA) : TE := fun σ H Q => to σ H fun x H1 => tyV K T x H1 ∧ t σ H1 fun xs H2 => r x xs H2 Q
variable {o e : Expr} {es : List Expr} {to : TE} {t : TA} {name : Str} {apos cpos : Pos} {T id : String} {r : V → List V → Hp → VK → Prop}
theorem pe_bm (pa : PlainAttrs T) (slot : Slot T name id) (hty : typeOf (.builtin id) = pure (.type "method_descriptor")) (hm : MtR X id r) (ho : PE X o to) (ha : PA X (e :: es) t)
    (hbase : attributeBase o name X.env (eval o X.env) = eval o X.env := by rfl)
    (hfew : ((backTo cpos (starEach (e :: es) X.env)).all (fun x => !x.1) && (backToKw cpos (keywordEach [] X.env)).all (fun x => x.1.isSome)
      && decide ((e :: es).length + ([] : List Keyword).length + (if ([] : List Keyword).isEmpty then 0 else 1) < 30)) = true := by rfl)
    (hline : (apos.endLine == cpos.line) = true := by rfl) (hs : starEach (e :: es) X.env = (false, eval e X.env) :: starEach es X.env := by rfl) (hplain : (backTo cpos (starEach es X.env)).any (·.1) = false := by rfl) :
    PE X (.Call (.Attribute o name apos) (e :: es) [] cpos) (tBM X.K T r to t) := by
  intro pins s σ H Q I h
  refine wpAny_Call_method_late hbase hfew hline rfl (thn (ho pins s σ H _ I h) fun v s1 ⟨x, H1, I1, r1, ty, q1⟩ => ?_)
  obtain ⟨h1, h2⟩ := tyV_is I1 r1 ty
  refine ⟨T, id, pa, slot, hty, h1, h2, ?_⟩
  have hA := ha cpos pins s1 σ H1 _ I1 q1
  rw [hs] at hA ⊢
  refine Calls.callWith_builtin (by show (false || (backTo cpos (starEach es X.env)).any (·.1)) = false; rw [hplain] <;> rfl) (Calls.evalArgs_plain ?_)
  exact thn hA fun us s2 ⟨vs, H2, I2, r2, q2⟩ => hm pins s2 σ H2 x vs v us Q I2 r1 r2 q2
end
end L2
namespace L2
open PySem PySem.Spec PyProof.Rows
def MtM (X : Cx) (id : String) (r : V → List V → Hp → VK → Prop) : Prop :=
  ∀ (pins : List (Addr × Obj)) (s : Shared) (σ : St) (H : Hp) (x : V) (xs : List V) (v : Value) (us : List Value) (Q : VK), Inv X pins σ H s → RelV x v → Vals xs us → r x xs H Q →
    wpAny (model X.prog X.w) X.A (call (.builtin id) (v :: us)) (EP X pins σ Q) X.xe s
theorem Vals.one : ∀ {x : V} {us : List Value}, Vals [x] us → ∃ u, us = [u] ∧ RelV x u
  | _, _, .cons r .nil => ⟨_, rfl, r⟩
theorem Vals.zero : ∀ {us : List Value}, Vals [] us → us = []
  | _, .nil => rfl
theorem Vals.rep {xs : List V} {us : List Value} (h : Vals xs us) : ∀ k : Nat, Vals (List.replicate k xs).flatten (List.replicate k us).flatten
  | 0 => .nil
  | k + 1 => by
    rw [List.replicate_succ, List.replicate_succ, List.flatten_cons, List.flatten_cons]
    exact Vals.append h (Vals.rep h k)
theorem foldl_rep (its : List Value) : ∀ (k : Nat) (acc : List Value),
    List.foldl (fun x1 x2 => x1 ++ x2) acc.toArray (List.replicate k its.toArray) = (acc ++ (List.replicate k its).flatten).toArray
  | 0, acc => by simp
  | k + 1, acc => by
    have e : acc.toArray ++ its.toArray = (acc ++ its).toArray := by simp
    have e2 : (acc ++ its) ++ (List.replicate k its).flatten = acc ++ (List.replicate (k + 1) its).flatten := by
      rw [List.replicate_succ, List.flatten_cons, List.append_assoc]
    rw [← e2, ← foldl_rep its k (acc ++ its), ← e, List.replicate_succ, List.foldl_cons]
section
variable {X : Cx} {pins : List (Addr × Obj)} {σ : St} {H : Hp} {s : Shared} {l b : Addr} {xs ys zs : List V}
theorem Inv.lset {its its' : List Value} {n : Nat} {f : Array Value → Array Value} {t' : Nat} (I : Inv X pins σ H s) (hH : H l = some (.lst xs))
    (e : s.heap.get? l = some { cls := .type "list", data := .seq its.toArray n }) (hf : f its.toArray = its'.toArray) (hv : Vals ys its') (hz : ys.length ≤ sizeLine) :
    Inv X pins σ (upd H l (.lst ys)) { s with heap := s.heap.update l (Obj.mapSeq f), toks := t' } := by
  have q := PySem.IsL.update e f
  rw [hf] at q
  refine I.write (x := l) (e := l) (by rw [hH]; exact trivial) (.inl rfl) (fun b' u hb hu => (Heap.get?_update_other s.heap (Obj.mapSeq f) (Ne.symm hb)).trans hu) ⟨_, q⟩ ?_
  exact ⟨hz, its', _, hv, q⟩
theorem Inv.lnew {its : List Value} {t' : Nat} (I : Inv X pins σ H s) (hv : Vals ys its) (hz : ys.length ≤ sizeLine) :
    Inv X pins σ (upd H s.heap.objs.size (.lst ys)) { s with heap := s.heap.push { cls := .type "list", data := .seq its.toArray }, toks := t' } :=
  I.laid (fun _ _ q => Heap.get?_push_of_some _ q) (Nat.le_refl _) ⟨hz, its, 0, hv, Heap.get?_push_size _ rfl⟩
theorem Inv.fresh (I : Inv X pins σ H s) : H s.heap.objs.size = none := I.hok.fresh (Nat.le_refl _)
theorem Inv.lstM (I : Inv X pins σ H s) (hH : H l = some (.lst xs)) : xs.length ≤ sizeLine ∧ ∃ (its : List Value) (n : Nat), Vals xs its ∧ xs.length = its.length ∧ s.heap.get? l = some { cls := .type "list", data := .seq its.toArray n } := by
  obtain ⟨z, its, n, r, e⟩ := I.hok l _ hH
  exact ⟨z, its, n, r, r.length, e⟩
theorem notLongL {n : Nat} (h : n ≤ sizeLine) : Builtin.List.listTooLong n = false := by
  unfold Builtin.List.listTooLong
  exact decide_eq_false (by omega)
end
section
variable {X : Cx}
def rAppend : V → List V → Hp → VK → Prop := fun x vs H Q => ∃ l xs y, x = .ref l ∧ vs = [y] ∧ H l = some (.lst xs) ∧ xs.length < sizeLine ∧ Q .non (upd H l (.lst (xs ++ [y])))
theorem mt_append : MtM X "list.append" rAppend := by
  intro pins s σ H x vs v us Q I rx rv h
  obtain ⟨l, xs, y, rfl, rfl, hH, hz, q⟩ := h
  cases rx
  obtain ⟨u, rfl, ru⟩ := rv.one
  obtain ⟨z, its, n, r, hl, e⟩ := I.lstM hH
  refine call_meets F.slot_list_append ⟨_, e, rfl⟩ F.entry_list_append (F.args_list_append_2 _ _) (PySem.list_append l its.toArray n u (by rw [List.size_toArray]; omega)) ⟨e, ?_⟩
  refine ⟨.non, _, I.lset (its' := its ++ [u]) hH e (by simp) (r.append (.cons ru .nil)) ?_, rfl, q⟩
  rw [List.length_append, List.length_singleton]
  omega
def rExtend : V → List V → Hp → VK → Prop := fun x vs H Q => ∃ l b xs zs, x = .ref l ∧ vs = [.ref b] ∧ H l = some (.lst xs) ∧ H b = some (.lst zs) ∧ xs.length + zs.length ≤ sizeLine ∧ Q .non (upd H l (.lst (xs ++ zs)))
theorem mt_extend : MtM X "list.extend" rExtend := by
  intro pins s σ H x vs v us Q I rx rv h
  obtain ⟨l, b, xs, zs, rfl, rfl, hH, hB, hz, q⟩ := h
  cases rx
  obtain ⟨u, rfl, ru⟩ := rv.one
  cases ru
  obtain ⟨z, its, n, r, hl, e⟩ := I.lstM hH
  obtain ⟨z2, its2, n2, r2, hl2, e2⟩ := I.lstM hB
  have hsz : its.toArray.size + its2.toArray.size ≤ sizeLine := by rw [List.size_toArray, List.size_toArray]; omega
  have hlong : ¬ (!its.toArray.isEmpty && Builtin.List.listTooLong (its.toArray.size + its2.toArray.size)) = true := by
    rw [notLongL hsz, Bool.and_false]
    exact Bool.false_ne_true
  refine call_meets F.slot_list_extend ⟨_, e, rfl⟩ F.entry_list_extend (F.args_list_extend_2 _ _)
    (AutoSeq1.list_extend_list_list_0 l its.toArray n b its2.toArray n2 hlong (by rw [List.size_toArray]; omega) (by omega)) ⟨e, e2, ?_⟩
  refine ⟨.non, _, I.lset (its' := its ++ its2) hH e (by simp) (r.append r2) ?_, rfl, q⟩
  rw [List.length_append]
  omega
def rRep : R2 := fun x y H Q => ∃ l k xs, x = .ref l ∧ y = .int k ∧ H l = some (.lst xs) ∧ -(2 ^ 63) ≤ k ∧ k < 2 ^ 63 ∧ xs.length * k.toNat ≤ sizeLine ∧
  ∀ p, H p = none → Q (.ref p) (upd H p (.lst (List.replicate k.toNat xs).flatten))
theorem len_rep {α : Type} (xs : List α) (k : Nat) : (List.replicate k xs).flatten.length = k * xs.length := by
  induction k with
  | zero => simp
  | succ k ih => rw [List.replicate_succ, List.flatten_cons, List.length_append, ih, Nat.succ_mul, Nat.add_comm]
theorem op_rep : OpR X (binaryOp .Mult) rRep := by
  intro pins s σ H x y v u Q I rx ry h
  obtain ⟨l, k, xs, rfl, rfl, hH, h1, h2, hz, q⟩ := h
  cases rx
  obtain ⟨t, rfl⟩ := ry
  obtain ⟨z, its, n, r, hl, e⟩ := I.lstM hH
  have hlen : its.toArray.size * k.toNat ≤ sizeLine := by rw [List.size_toArray, ← hl]; exact hz
  have hcap : ¬ its.toArray.size * k.toNat > (2 ^ 63 - 1) / 8 := by
    have : (sizeLine : Nat) ≤ (2 ^ 63 - 1) / 8 := by decide
    omega
  have hfit : ¬ (!Builtin.List.listFitsIndex k) = true := by
    rw [fitsIndex_both h1 h2]
    exact Bool.false_ne_true
  have hlong : ¬ Builtin.List.listTooLong (its.toArray.size * k.toNat) = true := by
    rw [notLongL hlen]
    exact Bool.false_ne_true
  have hnew : List.foldl (fun x1 x2 => x1 ++ x2) #[] (List.replicate (if its.toArray.isEmpty = true then 0 else k.toNat) its.toArray) = (List.replicate k.toNat its).flatten.toArray := by
    have f0 : ∀ m : Nat, List.foldl (fun x1 x2 => x1 ++ x2) #[] (List.replicate m its.toArray) = (List.replicate m its).flatten.toArray := fun m => by
      have := foldl_rep its m []
      rw [List.nil_append] at this
      exact this
    rw [f0]
    cases its with
    | nil => simp
    | cons a r' => rw [if_neg (by simp)]
  refine wpAny_binaryOp_repeat_ref (T := "list") (U := "int") (by decide) ⟨_, e, rfl⟩ (fun s' => typeIs_int s' k t) noFill_list_mul F.fills_int_mul F.slot_int_rmul repeat_list F.slot_int_index.lookup
    (call_meets F.slot_int_rmul (typeIs_int s k t) F.entry_int_rmul (F.args_int_rmul_2 _ _) (int___rmul___int_list k t l its.toArray n)
      ⟨e, rfl, ⟨_, e, rfl⟩, call_meets F.slot_list_mul ⟨_, e, rfl⟩ F.entry_list_mul (F.args_list_mul_2 _ _) (AutoListH.list___mul___list_int_3 l its.toArray n k t hfit hcap hlong) ⟨e, ?_⟩⟩)
  rw [hnew]
  exact ⟨.ref _, _, I.lnew (t' := s.toks) (r.rep k.toNat) (by rw [len_rep, Nat.mul_comm]; exact hz), rfl, q _ I.fresh⟩
end
section
variable {prog : Program} {w : World} {A : Around} {E : Value → Shared → Prop} {s : Shared}
set_option maxRecDepth 100000 in
end
section
variable {X : Cx}
end
end L2
namespace Att
open PySem PySem.W PySem.Calls PyProof.Rows
theorem ints_of_wellAll {P : Params} {h : Heap} : ∀ (ns : List Int) (vs : List Value), WellAll P h vs (ns.map WData.int) → IntsAre vs ns := by
  intro ns
  induction ns with
  | nil =>
    intro vs w
    rw [List.map_nil] at w
    cases w
    exact .nil
  | cons n ns ih =>
    intro vs w
    rw [List.map_cons] at w
    cases w with
    | cons a b =>
      cases a
      exact .cons _ _ (ih _ b)
theorem script_of {l : OpenLaw} {n : Nat} (hn : l.most = some n) {P : Params} {h : Heap} {args : List WData} {vals : List Value}
    (hpre : l.row.toRowW.claim.pre args = true) (hwl : WellAll P h vals args) :
    ∃ a vs ns, vals = [Value.ref a] ∧ args = [WData.list (ns.map WData.int)] ∧ h.get? a = some { cls := .type "list", data := .seq vs.toArray } ∧ IntsAre vs ns ∧ ns.length ≤ n := by
  have hsh : WShape.hasAll [] args [.list .int] = true := (pre_splitW hpre).1
  have hc : l.pre.holds [] { args := args } = true := (pre_splitW hpre).2
  obtain ⟨d, r, rfl, h1, h2⟩ := hasAllW_cons hsh
  obtain rfl := hasAllW_nil h2
  obtain ⟨xs, rfl, h3⟩ := hasW_list h1
  obtain ⟨ns, rfl⟩ := items_int h3
  have hlen : ns.length ≤ n := by
    unfold OpenLaw.pre at hc
    have h4 : (WTm.not (.lt (.lit (.int (n : Int))) (.len (.arg 0)))).holds [] { args := [.list (ns.map .int)] } = true := by
      have h4 := (holds_andW hc).1
      rw [hn] at h4
      exact h4
    have h5 := condW_of h4 (w_not (w_lt w_lit (w_len_list (w_arg rfl))))
    rw [List.length_map] at h5
    refine Nat.le_of_not_lt fun q => ?_
    have q' : (n : Int) < ((ns.length : Nat) : Int) := by omega
    first
      | (rw [decide_eq_true q'] at h5; exact absurd h5 (by decide))
      | (simp at h5; omega)
  cases hwl with
  | cons w1 w2 =>
    cases w2
    cases w1 with
    | list ho hall => exact ⟨_, _, ns, rfl, rfl, ho, ints_of_wellAll ns _ hall, hlen⟩
theorem post_true (l : OpenLaw) (args : List WData) : l.row.toRowW.claim.post args (.bool true) args = true :=
  postW_of (r := l.row.toRowW) (X := (true == true))
    (show WShape.has [] (.bool true) .bool = true by first | rfl | decide | simp [WShape.has, WShape.arms, WShape.armsAll])
    (show (WTm.eq .res (.lit (.bool true))).value [] { args := args, res := some (.bool true), after := args } = some (.bool (true == true)) from w_eq_bool (w_res rfl) w_lit) rfl
theorem attach_call {l : OpenLaw} {n : Nat} {q : Program} {loose : List Str} {XP : (Str → Option Value) → Heap → Prop} {YP : World → Heap → Prop} {d : DefRec}
    (hn : l.most = some n) (hdf : d.params.defaults = [])
    (call : ∀ (w : World) (s₀ s₁ : Shared) (mg mb : Str → Option Value) (fa : Addr) (o : Obj) (pm cd doc : Value) (a : Addr) (vs : List Value) (ns : List Int),
      Ground q loose [] XP w s₀ mg mb s₁.heap → YP w s₁.heap →
      s₁.heap.get? fa = some o → o.data = .func (docDef d.name d.params d.body d.scope pm cd doc) → s₁.heap.CodeRec cd d.name → mg d.name = some (.ref fa) →
      s₁.heap.get? a = some { cls := .type "list", data := .seq vs.toArray } → IntsAre vs ns → ns.length ≤ n → s₁.gens = #[] →
      codeAny (model l.prog w) callerA (.call (.ref fa) ⟨[.ref a], []⟩) (fun r s' => r = .ok (.ret (.bool true)) ∧ OldK s₁.heap s'.heap ∧ s'.os = s₁.os ∧ AllBare s'.gens) s₁) :
    WalkO q loose XP YP l.row.toRowW d [] (fun f vs => PySem.call f vs) := by
  intro w s₀ s₁ mg mb G Y fa o pm cd doc dV kV ho hd hcd hD hmg hg args vals as hpre hlay hrd hwl hlo
  obtain rfl : dV = .none := Dflts.none hD hdf
  obtain rfl : kV = .none := Dflts.noKw hD
  obtain ⟨a, vs, ns, rfl, rfl, hobj, hints, hlen⟩ := script_of hn hpre hwl
  refine enter_call (codeAny_mono (call w s₀ s₁ mg mb fa o pm cd doc a vs ns G Y ho (fd_plain hd) hcd hmg hobj hints hlen hg) fun r s' hq => ?_)
  obtain ⟨rfl, h2, h3, h4⟩ := hq
  exact ⟨.inl ⟨.bool true, .bool true, [], rfl, fun _ => rfl, .bool true, post_true l _, fun _ => ⟨List.Pairwise.nil, fun _ hm => (nomatch hm)⟩⟩, h2, h3, h4⟩
section
variable {prog : Program} {w : World} {A : Around} {E : Value → Shared → Prop} {s : Shared} {K : Frag}
def noObjs (h : Heap) : Heap := { h with objs := #[] }
theorem noObjs_get (h : Heap) (b : Addr) : (noObjs h).get? b = none := by
  cases e : (noObjs h).get? b with
  | none => rfl
  | some o => exact absurd (Heap.lt_size e) (Nat.not_lt_zero _)
def ledger (h : Heap) (L d : Addr) : List (Addr × Obj) := (List.range h.objs.size).filterMap fun a => if a = L ∨ a = d then none else (h.get? a).map fun o => (a, o)
theorem mem_ledger {h : Heap} {L d a : Addr} {o : Obj} : (a, o) ∈ ledger h L d ↔ a ≠ L ∧ a ≠ d ∧ h.get? a = some o := by
  unfold ledger
  rw [List.mem_filterMap]
  constructor
  · rintro ⟨b, _, e⟩
    split at e
    · cases e
    · rename_i hb
      obtain ⟨o', ho, e'⟩ := Option.map_eq_some_iff.mp e
      cases e'
      exact ⟨fun q => hb (.inl q), fun q => hb (.inr q), ho⟩
  · rintro ⟨n1, n2, ho⟩
    refine ⟨a, List.mem_range.mpr (Heap.lt_size ho), ?_⟩
    rw [if_neg (show ¬ (a = L ∨ a = d) from fun q => q.elim n1 n2), ho] <;> rfl
theorem news_ledger {h : Heap} {L d : Addr} {od : Obj} (hne : d ≠ L) (ho : h.get? d = some od) : News (noObjs h) L h ([] ++ (d, od) :: ledger h L d) := by
  rintro ⟨a, o⟩ hp
  rcases List.mem_cons.mp hp with e | hp
  · cases e
    exact ⟨ho, hne, noObjs_get _ _⟩
  · obtain ⟨n1, n2, e⟩ := mem_ledger.mp hp
    exact ⟨e, n1, noObjs_get _ _⟩
theorem fr_all {h : Heap} {L : Addr} {m : Str → Option Value} (n : h.Ns L m) : Fr (noObjs h) L h m :=
  ⟨n, fun b o e => (by rw [noObjs_get] at e; cases e), Nat.zero_le _⟩
theorem set_field {x C dx L : Addr} {ox : Obj} {m : Str → Option Value} {es es' : List DictEntry} {n n' : Nat} {name : Str} {v : Value} {Q : Unit → Shared → Prop}
    (X : K.In s.heap) (I : PySem.W.InstAt s.heap x ox C (some (dictOf es n))) (hd : ox.dict = some dx) (hL : s.heap.Ns L m) (hne : dx ≠ L)
    (hs : findIn K (.ref C) "__setattr__" = some (some (.builtin "object.__setattr__"))) (hp : plainOver K C = true) (ht : takerIn K C name = some none) (hh : hasDictIn K C = true) (hl : (getL name es).isSome = true)
    (e : (putL name (PyData.keyHash w.params name) (.str name (s.toks + 1)) v es, putN name es n) = (es', n')) (hz : es'.length ≤ 1000)
    (h : ∀ h' : Heap, h'.Ns L m → h'.get? dx = some (dictOf es' n') → (∀ b o, b ≠ dx → b ≠ L → s.heap.get? b = some o → h'.get? b = some o) → Q () { s with heap := h', toks := s.toks + 2 }) :
    wpAny (model prog w) A (setAttr (.ref x) name v) Q E s := by
  obtain ⟨e1, e2⟩ := Prod.mk.inj e
  have hdx : s.heap.get? dx = some (dictOf es n) := by
    have := I.dict
    rw [hd] at this
    exact this
  refine set_plain X I hs (osa_dict (s := { s with toks := s.toks + 1 }) (h₀ := noObjs s.heap) (L := L) (m := m) (od := dictOf es n) (od' := dictOf es' n') (es := es') (n := n') (pre := []) (post := ledger s.heap L dx)
    (fr_all hL) (news_ledger hne hdx) X I hd hp ht hh hl (fun _ q => nomatch q) (fun ⟨_, _⟩ q => (mem_ledger.mp q).2.1) (by rw [putName_dict, e1, e2]) rfl hz fun h' F' N' => ?_)
  exact h h' F'.ns (N'.get (List.Mem.head _)) fun b o n1 n2 ho => N'.get (List.Mem.tail _ (mem_ledger.mpr ⟨n2, n1, ho⟩))
end
end Att
namespace L2
open PySem PySem.Spec PyProof.Rows
theorem vals_ints : ∀ {vs : List Value} {ns : List Int}, IntsAre vs ns → Vals (ns.map V.int) vs
  | _, _, .nil => .nil
  | _, _, .cons n t h => .cons ⟨t, rfl⟩ (vals_ints h)
def Only (H : Hp) : Prop := ∀ b, H b = none ∨ ∃ o xs, H b = some (.frz o (.lst xs))
theorem law_call {P : Program} {w : World} {K : PySem.W.Frag} {mg mb : Str → Option Value} {CX : CXT} {k : Nat} {fa a : Addr} {fd : FuncData} {x : Str} {sp : Sp} {s₁ : Shared} {vs : List Value} {ns : List Int}
    (KX : K.In s₁.heap) (hns : s₁.heap.Ns mainGlobals mg) (hb : s₁.heap.Ns builtinsNs mb) (hbb : ∀ x : Str, x ≠ "__name__" → mb x = bootBuiltins x) (hlim : s₁.heap.NoLimit) (hg : s₁.gens = #[])
    (ha : s₁.heap.get? a = some { cls := .type "list", data := .seq vs.toArray }) (hi : IntsAre vs ns) (hl : ns.length ≤ sizeLine) (hr : Room k callerA)
    (F : ∀ base : Heap, K.In base → base.Ns mainGlobals mg → FnOk P w K mg base CX k fa fd [x] sp) (hbind : ∀ (s : Shared) (u : Value), BindsTo s fd ⟨[u], []⟩ [(x, u)])
    (hsp : ∀ H : Hp, Only H → SqL K H a (ns.map V.int) → sp [.ref a] H (fun v _ => v = .bl true) fun _ _ _ => False)
    (hCX : ∀ H e s', CX [] H s₁ (fun _ _ _ => False) e s' → False) :
    codeAny (model P w) callerA (.call (.ref fa) ⟨[.ref a], []⟩) (fun r s' => r = .ok (.ret (.bool true)) ∧ OldK s₁.heap s'.heap ∧ s'.os = s₁.os ∧ AllBare s'.gens) s₁ := by
  have rv := vals_ints hi
  have lenV := hi.length
  have core : ∀ H : Hp, Only H → SqL K H a (ns.map V.int) → HOk P w H s₁.heap → (∀ b, H b ≠ none → b = a) → (H a ≠ none → K.lookup a = none) →
      codeAny (model P w) callerA (.call (.ref fa) ⟨[.ref a], []⟩) (fun r s' => r = .ok (.ret (.bool true)) ∧ OldK s₁.heap s'.heap ∧ s'.os = s₁.os ∧ AllBare s'.gens) s₁ := by
    intro H hO hS hok hA hK
    have base_of : ∀ {b : Addr} {o : Obj}, s₁.heap.get? b = some o → H b = none → (hidT s₁.heap H).get? b = some o := fun e n => hidT_get e n
    have noA : ∀ {b : Addr} {o : Obj} {es : Array DictEntry} {ep : Nat}, s₁.heap.get? b = some o → o.data = .dict es ep → H b = none := fun {b o es ep} e d => by
      cases q : H b with
      | none => rfl
      | some u =>
        have e' : b = a := hA b (by rw [q]; simp)
        subst e'
        rw [ha] at e; cases e
        have d' : Data.seq vs.toArray _ = Data.dict es ep := d
        cases d'
    have nsK : ∀ {b : Addr} {m : Str → Option Value}, s₁.heap.Ns b m → (hidT s₁.heap H).Ns b m := fun {b m} ⟨o, es, ep, e, d, r⟩ => ⟨o, es, ep, base_of e (noA e d), d, r⟩
    have hKb : K.In (hidT s₁.heap H) := fun b o e => base_of (KX b o e) (by
      cases q : H b with
      | none => rfl
      | some u =>
        have e' : b = a := hA b (by rw [q]; simp)
        subst e'
        rw [hK (by rw [q]; simp)] at e; cases e)
    have hM : Mod K mg (hidT s₁.heap H) := ⟨hKb, nsK hns, ⟨mb, nsK hb, hbb⟩, let ⟨mc, h1, h2⟩ := hlim; ⟨mc, nsK h1, h2⟩⟩
    have e0 : Env0 P w K mg (hidT s₁.heap H) callerA [] s₁ H := ⟨rfl, hM, fun b o e => of_hidT e, Nat.le_of_eq (hidT_size _ _), trivial, fun b hb => absurd (show b ∈ ([] : List Addr) from hb) (by simp), hok, .of_eq hg⟩
    refine codeAny_mono ((F _ hKb (nsK hns)).run callerA [] s₁ H ⟨[.ref a], []⟩ [.ref a] [.ref a] _ _ hr e0 (hbind s₁ (.ref a)) (.cons rfl .nil) (hsp H hO hS)) fun r s' h => ?_
    cases r with
    | error e => exact (hCX H e s' h).elim
    | ok fl =>
      cases fl with
      | next => exact False.elim h
      | brk => exact False.elim h
      | cont => exact False.elim h
      | ret u =>
        obtain ⟨v, H', os, bare, un, hok', r', q⟩ := h
        have q' : v = .bl true := q
        subst q'
        obtain rfl : u = Value.bool true := r'
        refine ⟨rfl, OldK.of_keep fun b o e => ?_, os, bare⟩
        cases q : H b with
        | none => exact un.keep b o e q (by intro z; exact absurd (show b ∈ ([] : List Addr) from z) (by simp)) (by simp)
        | some u =>
          rcases hO b with z | ⟨ob, xs, z⟩
          · rw [q] at z; cases z
          · have z2 := un.frzs b ob _ z
            obtain ⟨e1, _⟩ := hok b _ z
            obtain ⟨e2, _⟩ := hok' b _ z2
            rw [e] at e1; cases e1
            exact e2
  cases hk : K.lookup a with
  | some o =>
    have e := KX a o hk
    rw [ha] at e
    cases e
    refine core (fun _ => none) (fun _ => .inl rfl) (.inr ⟨_, vs.toArray, _, hk, rfl, rfl, rfl, by rw [List.size_toArray, lenV]; exact hl, by simpa using rv⟩) (fun b u z => by have z' : (none : Option HO) = some u := z; cases z') (fun b z => absurd rfl z) fun z => absurd rfl z
  | none =>
    refine core (fun b => if b = a then some (.frz { cls := .type "list", data := .seq vs.toArray } (.lst (ns.map V.int))) else none) (fun b => ?_) (.inl (.inr ⟨{ cls := .type "list", data := .seq vs.toArray }, if_pos rfl⟩)) (fun b u z => ?_) (fun b z => ?_) fun _ => hk
    · by_cases hb : b = a
      · exact .inr ⟨_, _, if_pos hb⟩
      · exact .inl (if_neg hb)
    · by_cases hb : b = a
      · have z' := (if_pos hb).symm.trans z
        cases z'
        subst hb
        exact ⟨ha, by rw [List.length_map]; exact hl, vs, _, rv, ha⟩
      · have z' := (if_neg hb).symm.trans z
        cases z'
    · by_cases hb : b = a
      · exact hb
      · exact absurd (if_neg hb) z
end L2
namespace L2
open PySem PySem.Spec PyProof.Rows
theorem walk_of {l : PySem.W.OpenLaw} {n k : Nat} {q : Program} {loose : List Str} {XP : (Str → Option Value) → Heap → Prop} {YP : World → Heap → Prop} {d : DefRec} {K : Params → PySem.W.Frag} {CX : World → CXT} {sp : World → Sp} {x : Str}
    (hn : l.most = some n) (hn2 : n ≤ sizeLine) (hdf : d.params.defaults = []) (hr : Room k callerA)
    (hY : ∀ (w : World) (h : Heap), YP w h → (K w.params).In h)
    (F : ∀ (w : World) (mg : Str → Option Value) (fa : Addr) (h : Heap), (K w.params).In h → h.Ns mainGlobals mg → mg d.name = some (.ref fa) →
      ∃ fd : FuncData, (∀ (s : Shared) (u : Value), BindsTo s fd ⟨[u], []⟩ [(x, u)]) ∧
        ∀ base : Heap, (K w.params).In base → base.Ns mainGlobals mg → FnOk l.prog w (K w.params) mg base (CX w) k fa fd [x] (sp w))
    (hsp : ∀ (w : World) (H : Hp) (a : Addr) (ns : List Int), ns.length ≤ n → Only H → SqL (K w.params) H a (ns.map V.int) → sp w [.ref a] H (fun v _ => v = .bl true) fun _ _ _ => False)
    (hCX : ∀ (w : World) (H : Hp) (s : Shared) (e : Value) (s' : Shared), CX w [] H s (fun _ _ _ => False) e s' → False) :
    PySem.W.WalkO q loose XP YP l.row.toRowW d [] (fun f vs => PySem.call f vs) := by
  refine Att.attach_call hn hdf fun w s₀ s₁ mg mb fa o pm cd doc a vs ns G Y ho hd hcd hmg hobj hints hlen hg => ?_
  have KX := hY w _ Y
  obtain ⟨fd, hb, hF⟩ := F w mg fa _ KX G.T.g hmg
  exact law_call KX G.T.g G.T.b G.T.builtins G.T.nolimit hg hobj hints (Nat.le_trans hlen hn2) hr hF hb (fun H hO hS => hsp w H a ns hlen hO hS) fun H e s' => hCX w H s₁ e s'
end L2
namespace L2
open PySem PySem.Spec PyProof.Rows
def inClass (s : Stmt) (j : Nat) : Stmt := match s with
  | .ClassDef _ _ _ body _ _ _ _ _ _ _ => body.getD j (.Pass ⟨0, 0, 0, 0⟩)
  | _ => .Pass ⟨0, 0, 0, 0⟩
def defArgs (s : Stmt) : Arguments := match s with
  | .FunctionDef _ a _ _ _ _ _ _ _ _ => a
  | _ => { posonlyargs := [], args := [], vararg := none, kwonlyargs := [], kw_defaults := [], kwarg := none, defaults := [] }
def defBody (s : Stmt) : List Stmt := match s with
  | .FunctionDef _ _ b _ _ _ _ _ _ _ => b
  | _ => []
def defScope (s : Stmt) : Scope := match s with
  | .FunctionDef _ _ _ _ _ _ sc _ _ _ => sc
  | _ => { kind := .function, names := [], isGenerator := false, isCoroutine := false }
abbrev CX0 : CXT := fun _ _ _ _ _ _ => False
abbrev E0 : XK := fun _ _ _ => False
theorem pass0 {X : Cx} : Passes CX0 X E0 := fun _ _ _ _ _ _ _ h => h.elim
structure Fun (K : PySem.W.Frag) (x qual : Str) (st : Stmt) (f : Addr) (fd : FuncData) : Prop where
  ex : ∃ (oc : Value) (od : Option Addr) (kV doc pm : Value) (an : Option Addr) (cdv ct : Value) (osl : Array (Option Value)),
    fd = PySem.W.fnOf x qual (defArgs st) (defBody st) (defScope st) .none kV doc pm an cdv ct ∧ K.lookup f = some ⟨oc, od, .func fd, osl⟩ ∧ PySem.W.codeIn K cdv qual = true
  kp : PySem.W.keepIn K (.ref f) = true
section
variable {P : Program} {w : World} {K : PySem.W.Frag} {mg : Str → Option Value} {base : Heap}
theorem Fun.ok {x qual : Str} {st : Stmt} {f : Addr} {fd : FuncData} {N ps : List Str} {k : Nat} {sp : Sp} (F : Fun K x qual st f fd) (S : FnScope N ps (defScope st)) (len : ∀ vs H Q E, sp vs H Q E → vs.length = ps.length)
    (hbody : ∀ (cdv : Value) (A : Around) (outer : List Env) (s : Shared) (H : Hp) (vs : List V) (Q : VK) (E : XK), Room k (A.deeper (envOfC qual (defScope st) s.heap.objs.size f cdv)) → sp vs H Q E →
      ∃ t, PSs (cxOf CX0 P w K mg base N qual (defScope st) f cdv A outer s H E).nox (defBody st) t ∧ t { nx := fun _ H' => Q .non H', rt := Q } (start N vs) H) : FnOk P w K mg base CX0 (k + 1) f fd ps sp := by
  obtain ⟨oc, od, kV, doc, pm, an, cdv, ct, osl, rfl, lk, hcd⟩ := F.ex
  refine fn_of lk hcd S len fun A outer s H vs Q E hr hsp => ?_
  obtain ⟨t, h, q⟩ := hbody cdv A outer s H vs Q E hr hsp
  exact ⟨t, h.nox, q⟩
theorem Fun.binds {x qual : Str} {st : Stmt} {f : Addr} {fd : FuncData} {ps : List Str} (F : Fun K x qual st f fd)
    (h : ∀ (kV doc pm : Value) (an : Option Addr) (cdv ct : Value) (us : List Value), us.length = ps.length → bindArgs (PySem.W.fnOf x qual (defArgs st) (defBody st) (defScope st) .none kV doc pm an cdv ct) ⟨us, []⟩ = pure (ps.zip us)) : Binds K fd ps [] := by
  obtain ⟨oc, od, kV, doc, pm, an, cdv, ct, osl, rfl, lk, hcd⟩ := F.ex
  exact .all (h kV doc pm an cdv ct)
theorem fun_mk {x qual : Str} {st : Stmt} {f : Addr} {oc : Value} {od an : Option Addr} {osl : Array (Option Value)} {kV doc pm cdv ct : Value} (l : K.lookup f = some ⟨oc, od, .func (PySem.W.fnOf x qual (defArgs st) (defBody st) (defScope st) .none kV doc pm an cdv ct), osl⟩)
    (c : PySem.W.codeIn K cdv qual = true) (k : PySem.W.keepIn K (.ref f) = true) : Fun K x qual st f (PySem.W.fnOf x qual (defArgs st) (defBody st) (defScope st) .none kV doc pm an cdv ct) := ⟨⟨oc, od, kV, doc, pm, an, cdv, ct, osl, rfl, l, c⟩, k⟩
end
theorem hu_of {A : Around} {k : Nat} (hr : Room k A) : A.units + 1 < cLine := Nat.lt_of_le_of_lt (Nat.add_le_add_left (by decide : 1 ≤ 64) _) hr.units
theorem small1000 {n : Nat} (h : n ≤ 1000) : n < sizeLine := Nat.lt_of_le_of_lt h (by decide)
section
variable {X : Cx}
theorem pv (i : Nat) {x : Str} {pos : Pos} (hN : X.N[i]? = some x := by rfl) (hv : Vis X.env.scope x := by first | exact Or.inl rfl | exact Or.inr (Or.inl rfl) | exact Or.inr (Or.inr rfl)) (hd : (x == ("__debug__" : Str)) = false := by decide)
    (hcd : (x == ("__classdict__" : Str)) = false := by decide) : PE X (.Name x pos) (tVar i) := pe_var hN hv hd hcd
end
theorem iteF {A B : Prop} (h : B) : if false = true then A else B := by
  rw [if_neg Bool.false_ne_true]
  exact h
theorem iteT {A B : Prop} (h : A) : if true = true then A else B := by
  rw [if_pos rfl]
  exact h
theorem ite2 {c A B : Prop} [Decidable c] (h1 : c → A) (h2 : ¬ c → B) : if c then A else B := by
  by_cases h : c
  · rw [if_pos h]
    exact h1 h
  · rw [if_neg h]
    exact h2 h
def Same (H H' : Hp) : Prop := ∀ b o, H b = some o → H' b = some o
theorem Same.refl (H : Hp) : Same H H := fun _ _ h => h
theorem Same.trans {H H1 H2 : Hp} (a : Same H H1) (b : Same H1 H2) : Same H H2 := fun c o h => b c o (a c o h)
theorem Same.free {H H' : Hp} (e : Same H H') {l : Addr} (h : H' l = Option.none) : H l = Option.none := by
  cases q : H l with
  | none => rfl
  | some o =>
    rw [e l o q] at h
    cases h
theorem Same.seq {K : PySem.W.Frag} {H H' : Hp} {a : Addr} {xs : List V} (e : Same H H') (h : SqL K H a xs) : SqL K H' a xs := by
  rcases h with (h | ⟨o, h⟩) | h
  · exact .inl (.inl (e _ _ h))
  · exact .inl (.inr ⟨o, e _ _ h⟩)
  · exact .inr h
end L2
set_option maxHeartbeats 4000000
namespace L2
open PySem PySem.Spec PyProof.Rows
theorem bt_abs : bootBuiltins "abs" = some (.builtin "abs") := by decide +kernel
theorem bt_len : bootBuiltins "len" = some (.builtin "len") := by decide +kernel
theorem bt_min : bootBuiltins "min" = some (.builtin "min") := by decide +kernel
theorem bt_isinstance : bootBuiltins "isinstance" = some (.builtin "isinstance") := by decide +kernel
theorem bt_int : bootBuiltins "int" = some (.type "int") := by decide +kernel
theorem bt_bool : bootBuiltins "bool" = some (.type "bool") := by decide +kernel
theorem bt_list : bootBuiltins "list" = some (.type "list") := by decide +kernel
section
variable {X : Cx} {pos : Pos}
def DivOk (j : Int) : Prop := 0 < j ∧ (j < 1073741824 ∨ j.natAbs.log2 < 9000)
theorem DivOk.small {j : Int} (h : 0 < j) (h2 : j < 1073741824) : DivOk j := ⟨h, .inl h2⟩
theorem op_fdivL : OpR X (binaryOp .FloorDiv) (rI (fun _ j => DivOk j) fun i j => .int (i / j)) := opI fun i j _ _ _ _ _ hc q => by
  have h1 : (0 : Int) < j := hc.1
  refine floordiv_int (by omega) (by rw [Int.fdiv_eq_ediv_of_nonneg i (by omega)]; exact q) (.inl ?_)
  rcases hc.2 with h2 | h2
  · exact PyProof.noPylong_small (by omega)
  · exact PyProof.noPylong_of_log2 h2
def ShlOk (i j : Int) : Prop := 0 ≤ j ∧ j ≤ 1000 ∧ i.natAbs < 2 ^ 1000
theorem op_shlL : OpR X (binaryOp .LShift) (rI ShlOk fun i j => .int (i * 2 ^ j.toNat)) := opI fun i j _ _ _ _ _ hc q => by
  obtain ⟨h1, h2, h3⟩ := hc
  refine lshift_int h1 ?_ q
  have h4 : Builtin.Int.intBits i ≤ 1000 := intBits_le_iff.mpr h3
  have h5 : (2 : Int) ^ 27 = 134217728 := by decide
  omega
def rCatS (K : PySem.W.Frag) : R2 := fun x y H Q => ∃ l b xs zs, x = .ref l ∧ y = .ref b ∧ SqL K H l xs ∧ SqL K H b zs ∧ xs.length + zs.length ≤ sizeLine ∧ ∀ p, H p = none → Q (.ref p) (upd H p (.lst (xs ++ zs)))
theorem op_catS : OpR X (binaryOp .Add) (rCatS X.K) := by
  intro pins s σ H x y v u Q I rx ry h
  obtain ⟨l, b, xs, zs, rfl, rfl, hH, hB, hz, q⟩ := h
  cases rx
  cases ry
  obtain ⟨its, r, hl, z⟩ := I.list hH
  obtain ⟨its2, r2, hl2, z2⟩ := I.list hB
  obtain ⟨⟨cls, dd, data, sl⟩, n, ho, hc, hdd, hd⟩ := hl
  obtain ⟨⟨cls2, dd2, data2, sl2⟩, n2, ho2, hc2, hdd2, hd2⟩ := hl2
  simp only at hc hd hc2 hd2
  subst hc hd hc2 hd2
  have l1 := r.length
  have l2 := r2.length
  have ea : its.toArray ++ its2.toArray = (its ++ its2).toArray := by simp
  refine concat_meets ⟨_, ho, rfl⟩ ⟨_, ho2, rfl⟩ noFill_list_add seq_list_add PySem.F.slot_list_add PySem.F.entry_list_add (PySem.F.args_list_add_2 _ _) (list_addW l b its.toArray its2.toArray n n2 dd dd2 sl sl2 (by rw [List.size_toArray, List.size_toArray]; omega)) ⟨ho, ho2, ?_⟩
  rw [ea]
  exact ⟨.ref _, _, I.lnew (t' := s.toks) (r.append r2) (by rw [List.length_append]; omega), rfl, q _ I.fresh⟩
def gLst (K : PySem.W.Frag) (n : Nat) (t : TGs) : TG := fun v σ H Q => ∃ a xs, v = .ref a ∧ SqL K H a xs ∧ xs.length = n ∧ t xs σ H Q
theorem pg_lst {es : List Expr} {k : Nat} {t : TGs} {n : Nat} (hc : X.calm = true) (h : PGs X es t)
    (hn : (assignEach es X.env).length = n := by rfl) (hst : (assignEach es X.env).findIdx? (·.1) = none := by rfl) : PG X (.Tuple es k pos) (gLst X.K n t) := by
  intro pins s σ H v u Q I r hw
  obtain ⟨a, xs, e1, hq, hl, hw⟩ := hw
  subst e1
  cases r
  obtain ⟨its, rv, ht, hz⟩ := I.list hq
  have hlist : s.heap.IsList a its.toArray := by
    obtain ⟨o, m, e, h1, _, h2⟩ := ht
    exact ⟨o, e, h1, m, h2⟩
  rw [assign_Tuple]
  refine wpAny_bind (wpAny_standAt ?_)
  unfold unpack
  have e2 : (assignEach es X.env).length = its.toArray.size := by rw [hn, ← hl, rv.length]; simp
  rw [e2, hst]
  refine wpAny_bind (wpAny_holding (PySem.W.kun_itemsOf (I.ok.hd hc) hlist fun h' hx => ?_))
  have I1 : Inv X pins σ H { s with heap := h' } := I.kept (t' := s.toks) fun b o e => hx b o (Nat.ne_of_lt (Heap.lt_size e)) e
  exact h pins _ σ H xs _ Q I1 (by simpa using rv) hw
theorem call_isinst : CallR X (.builtin "isinstance") (fun xs H Q => ∃ x n t b, xs = [x, .ty n] ∧ TyOf X.K H x t ∧ PySem.W.kitOne X.K t (.type n) = some b ∧ Q (.bl b) H) := by
  intro pins s σ H xs us Q I r h
  obtain ⟨x, n, t, b, rfl, ty, e, q⟩ := h
  obtain ⟨u, w', rfl, r1, r2⟩ := vals2 r
  cases (show w' = Value.type n from r2)
  exact isinst_ok I r1 ty e fun tk => ⟨.bl b, H, I.tok _, rfl, q⟩
end
theorem and_bit2 (x : Int) : Builtin.bitAnd x 4 = x / 4 % 2 * 4 := PySem.W.kbt_bit x 2
theorem and_bit3 (x : Int) : Builtin.bitAnd x 8 = x / 8 % 2 * 8 := PySem.W.kbt_bit x 3
theorem and_two (x : Int) : Builtin.bitAnd x 3 = x % 4 := PySem.W.kbt_mask x 2
theorem or_bit2 (x : Int) : Builtin.bitOr x 4 = x + 4 - x / 4 % 2 * 4 := by rw [bitOr_and, and_bit2]
theorem or_bit3 (x : Int) : Builtin.bitOr x 8 = x + 8 - x / 8 % 2 * 8 := by rw [bitOr_and, and_bit3]
theorem and_low16 (a d : Nat) (h : d < 16) : d &&& (a * 16) = 0 := by
  have e1 : d &&& 15 = d % 16 := Nat.and_two_pow_sub_one_eq_mod d 4
  have e2 : (a * 16) &&& 15 = (a * 16) % 16 := Nat.and_two_pow_sub_one_eq_mod (a * 16) 4
  have e3 : d % 16 = d := Nat.mod_eq_of_lt h
  have e4 : (a * 16) % 16 = 0 := by omega
  have f1 : d &&& 15 = d := e1.trans e3
  have f2 : (d &&& 15) &&& (a * 16) = d &&& ((a * 16) &&& 15) := by rw [Nat.and_assoc, Nat.and_comm 15 (a * 16)]
  rw [f1, e2, e4, Nat.and_zero] at f2
  exact f2
theorem or_low16 {k s : Int} (h0 : 0 ≤ k) (h1 : k < 16) (hs : 0 ≤ s) : Builtin.bitOr k (s * 16) = k + s * 16 := by
  have e : k.toNat &&& (s * 16).toNat = 0 := by
    have q : (s * 16).toNat = s.toNat * 16 := by omega
    rw [q]
    exact and_low16 _ _ (by omega)
  rw [bitOr_and, bitAnd_pp h0 (by omega), e]
  exact Int.sub_zero _
end L2
namespace L2
open PySem PySem.Spec PyProof.Rows
section
variable {X : Cx}
end
end L2
namespace L2
open PySem PySem.Spec PyProof.Rows
end L2
namespace L2
open PySem PySem.Spec PyProof.Rows
theorem cxOf_K (CX : CXT) (P : Program) (w : World) (K : PySem.W.Frag) (mg : Str → Option Value) (base : Heap) (N : List Str) (qual : Str) (scope : Scope) (f : Addr) (cd : Value) (A : Around) (outer : List Env) (s : Shared) (H : Hp) (E : XK) :
    (cxOf CX P w K mg base N qual scope f cd A outer s H E).K = K := rfl
end L2
namespace L2
open PySem PySem.Spec PyProof.Rows
theorem kit_same (K : PySem.W.Frag) (t : String) : PySem.W.kitOne K (.type t) (.type t) = some true := by
  unfold PySem.W.kitOne
  rw [if_pos (by simp)]
theorem kit_far (K : PySem.W.Frag) {t u : String} {b : Bool} (e1 : (Value.type t == Value.type u) = false) (e2 : PySem.W.kitMeta u = true) (e3 : (fastBuiltinMro t).map (·.contains (Value.type u)) = some b) : PySem.W.kitOne K (.type t) (.type u) = some b := by
  unfold PySem.W.kitOne
  rw [e1, if_neg Bool.false_ne_true]
  show (if PySem.W.kitMeta u = true then _ else _) = _
  rw [if_pos e2]
  exact e3
theorem kit_int_bool (K : PySem.W.Frag) : PySem.W.kitOne K (.type "int") (.type "bool") = some false := kit_far K (by decide +kernel) (by decide +kernel) (by decide +kernel)
end L2
namespace L2
open PySem PySem.Spec PyProof.Rows
theorem Same.put {H : Hp} {b : Addr} {o : HO} (h : H b = none) : Same H (upd H b o) := fun c u e => by
  rw [upd_ne (ne_of_none e h)]
  exact e
end L2
namespace L2
theorem scal_ii (i j : Int) : scal (.int i) (.int j) = true := rfl
theorem scal_bb (i j : Bool) : scal (.bl i) (.bl j) = true := rfl
theorem scal_ss (i j : PySem.Str) : scal (.str i) (.str j) = true := rfl
theorem scal_in (i : Int) : scal (.int i) .non = true := rfl
theorem scal_ni (i : Int) : scal .non (.int i) = true := rfl
end L2
namespace L2
open PySem PySem.Spec PyProof.Rows
def cxLc (X : Cx) (N : List Str) (scope : Scope) (cl : List (Str × Addr)) (C : Addr) (s : Shared) (H : Hp) (fp : List Addr) : Cx :=
  { X with N := N, s₀ := s, H₀ := H, env := compEnvC scope cl C X.env, outer := X.stack, stack := X.stack, ex := fp, fn := fun _ => false, pn := [], xe := fun _ _ => False }
def lcSlots (fr : List Nat) (σ : St) (v : Option V) : St := v :: fr.map fun j => (σ[j]?).join
structure LcOk (X : Cx) (x : Str) (ns : List Str) (fr : List Nat) (scope : Scope) (cl : List (Str × Addr)) : Prop where
  clos : closureFor scope X.env = pure cl
  nocell : ∀ y ∈ scope.names, y.2 ≠ .cell
  kind : scope.kind = .function
  own : ∀ y ∈ scope.names, y.2 = .local → scope.names.lookup y.1 = some .local
  var : scope.names.lookup x = some .local
  sub : ∀ z c, cl.lookup z = some c → X.env.cells.lookup z = some c
  has : ∀ z, ((relabel scope X.env).names.lookup z = some .cell ∨ (relabel scope X.env).names.lookup z = some .free) → ∃ c, cl.lookup z = some c
  len : ns.length = fr.length
  from_ : ∀ (k : Nat) z j, ns[k]? = some z → fr[k]? = some j → X.N[j]? = some z ∧ X.env.scope.names.lookup z = some .cell ∧ ((relabel scope X.env).names.lookup z = some .cell ∨ (relabel scope X.env).names.lookup z = some .free)
  nd : (x :: ns).Nodup
inductive LcIf (P : Expr → TT → Prop) : List Expr → TT → Prop where
  | nil : LcIf P [] fun _ H Q => Q true H
  | one {c : Expr} {t : TT} (h : P c t) : LcIf P [c] t
def lcLoop (J : It) (fr : List Nat) (tt : TT) (te : TE) (σ : St) (D : Addr) (Q : Hp → Prop) (H : Hp) : Prop :=
  ∃ W : Nat → Nat → Hp → Prop, (∃ m, W 0 m H) ∧ ∀ i m H2, W i m H2 → (J.stop i H2 ∧ Q H2) ∨ (J.go i H2 ∧ ∀ v H', J.yld i H2 v H' → tt (lcSlots fr σ (some v)) H' fun b H3 =>
    if b = true then te (lcSlots fr σ (some v)) H3 fun y H4 => ∃ ys, H4 D = some (.lst ys) ∧ ys.length < sizeLine ∧ ∃ m', m' < m ∧ W (i + 1) m' (upd H4 D (.lst (ys ++ [y]))) else ∃ m', m' < m ∧ W (i + 1) m' H3)
theorem iteT_inv {A B : Prop} (h : if true = true then A else B) : A := by
  rw [if_pos rfl] at h
  exact h
section
variable {X : Cx} {pins : List (Addr × Obj)} {σ : St} {H : Hp} {s : Shared} {x : Str} {ns : List Str} {fr : List Nat} {scope : Scope} {cl : List (Str × Addr)} {fp : List Addr}
theorem lc_ok (I : Inv X pins σ H s) (L : LcOk X x ns fr scope cl) (hf : ∀ b ∈ fp, FpOk X pins H b) (ho : ∀ b ∈ fp, b < s.heap.objs.size) : (cxLc X (x :: ns) scope cl s.heap.objs.size s H fp).Ok where
  mod := I.ok.mod
  kind := L.kind
  glob := I.ok.glob
  blt := I.ok.blt
  above := Nat.le_refl _
  inj := fun a b c h1 h2 => I.ok.inj a b c (L.sub a c h1) (L.sub b c h2)
  has := fun z h => L.has z h
  cab := fun _ _ h => nomatch h
  hd := I.ok.hd
  frames := I.ok.frames
  stk := .inl rfl
  exf := fun b hb => ⟨Nat.ne_of_lt (ho b hb), fun z c h => (hf b hb).2.2.2.2.1 z c (L.sub z c h)⟩
  bs := I.bs
  bsz := Nat.le_trans I.ok.bsz I.sz
  noex := fun b o e hb => by
    rcases (hf b hb).2.2.2.1 with h | h
    · exact I.ok.noex b o e h
    · exact absurd (Nat.lt_of_lt_of_le (Heap.lt_size e) (Nat.le_trans I.ok.bsz h)) (Nat.lt_irrefl _)
  exfs := fun b hb hs => by
    rcases List.mem_cons.mp (I.stkSub b hs) with h | h
    · exact (hf b hb).2.1 h
    · exact (hf b hb).2.2.1 h
  funs := I.stack
  frf := I.stkFree
theorem lc_slot {fr : List Nat} {σ : St} {v : Option V} {k : Nat} {u : V} (h : (lcSlots fr σ v)[k + 1]? = some (some u)) : ∃ j, fr[k]? = some j ∧ σ[j]? = some (some u) := by
  unfold lcSlots at h
  rw [List.getElem?_cons_succ, List.getElem?_map] at h
  cases e : fr[k]? with
  | none => rw [e] at h; cases h
  | some j =>
    rw [e] at h
    refine ⟨j, rfl, ?_⟩
    cases e2 : σ[j]? with
    | none => simp [e2] at h
    | some o => simp [e2] at h; rw [h]
theorem lc_start {h' : Heap} {t' : Nat} (I : Inv X pins σ H s) (L : LcOk X x ns fr scope cl) (hf : ∀ b ∈ fp, FpOk X pins H b) (ho : ∀ b ∈ fp, b < s.heap.objs.size)
    (hn : h'.Ns s.heap.objs.size fun _ => none) (hk : ∀ b o, s.heap.get? b = some o → h'.get? b = some o) :
    Inv (cxLc X (x :: ns) scope cl s.heap.objs.size s H fp) [] (lcSlots fr σ none) H { s with heap := h', toks := t' } where
  ok := lc_ok I L hf ho
  os := rfl
  bare := I.bare
  base := Un.kept hk
  loc := by
    refine ⟨_, hn, fun i z v e1 e2 e3 => ?_⟩
    cases i with
    | zero => cases e2
    | succ k =>
      have e1' : ns[k]? = some z := e1
      obtain ⟨j, ej, ev⟩ := lc_slot e2
      obtain ⟨hN, hc, hy⟩ := L.from_ k z j e1' ej
      obtain ⟨m, hm, hl⟩ := I.loc
      obtain ⟨u, r, l⟩ := hl j z v hN ev (.inr (.inl hc))
      refine ⟨u, r, .inr ⟨hy, ?_⟩⟩
      rcases l with ⟨l, _⟩ | ⟨_, c, hcl, ⟨o, ho2, hd⟩⟩
      · have : X.env.scope.names.lookup z = some .local := l
        rw [hc] at this
        cases this
      · obtain ⟨c', hc'⟩ := L.has z hy
        have e := L.sub z c' hc'
        rw [hcl] at e
        cases e
        exact ⟨c, hc', o, hk c o ho2, hd⟩
  cell := fun z c e => by
    obtain ⟨v, o, ho2, hd⟩ := I.cell z c (L.sub z c e)
    exact ⟨v, o, hk c o ho2, hd⟩
  free := I.fresh
  freeC := fun z c e => I.freeC z c (L.sub z c e)
  pin := fun p hp => nomatch hp
  hok := I.hok.kept hk
  len := by
    show (lcSlots fr σ none).length = (x :: ns).length
    unfold lcSlots
    rw [List.length_cons, List.length_map, List.length_cons, L.len]
theorem lc_block {elt iter : Expr} {px : Pos} {ifs : List Expr} {pos : Pos} {J : It} {it D : Addr} {tn : Nat → Heap → Prop} {tt : TT} {te : TE} {Qe : Hp → Prop} {R : Result → Shared → Prop} {s4 : Shared}
    (hc : X.calm = true) (L : LcOk X x ns fr scope cl) (T : Turn X.prog X.w X.K (.Name x px) J fp it tn) (hf : ∀ b ∈ fp, FpOk X pins H b) (ho : ∀ b ∈ fp, b < s.heap.objs.size) (I : Inv X pins σ H s)
    (hE : PE (cxLc X (x :: ns) scope cl s.heap.objs.size s H fp) elt te) (hT : LcIf (PT (cxLc X (x :: ns) scope cl s.heap.objs.size s H fp)) ifs tt) (hw : lcLoop J fr tt te σ D Qe H)
    (I4 : Inv (cxLc X (x :: ns) scope cl s.heap.objs.size s H fp) [] (lcSlots fr σ none) H s4) (st4 : tn 0 s4.heap)
    (hR : ∀ (s' : Shared) (H' : Hp) (v : Option V), Inv (cxLc X (x :: ns) scope cl s.heap.objs.size s H fp) [] (lcSlots fr σ v) H' s' → Qe H' → R (.ok .next) s') :
    codeAny (model X.prog X.w) X.A (.compStart (.ListComp elt [⟨.Name x px, iter, ifs, 0⟩] scope pos) 0 (.ref it) (.ref D) (compEnvC scope cl s.heap.objs.size X.env)) R s4 := by
  obtain ⟨W, ⟨m0, w0⟩, turn⟩ := hw
  have okY := lc_ok I L hf ho
  have hxl : Loc (cxLc X (x :: ns) scope cl s.heap.objs.size s H fp).env.scope x := .inl (lookup_relabel_local L.var)
  have stat : ∀ {H' : Hp}, (∀ b ∈ fp, H' b = none) → ∀ b ∈ fp, FpOk (cxLc X (x :: ns) scope cl s.heap.objs.size s H fp) [] H' b := fun hn b hb =>
    ⟨hn b hb, (okY.exf b hb).1, okY.exfs b hb, .inl hb, (okY.exf b hb).2, fun p hp => nomatch hp⟩
  have fr0 : ∀ b ∈ fp, H b = none := fun b hb => (hf b hb).1
  have loop : codeAny (model X.prog X.w) X.A (.compLoop (.ListComp elt [⟨.Name x px, iter, ifs, 0⟩] scope pos) 0 (.ref it) (.ref D) (compEnvC scope cl s.heap.objs.size X.env)) R s4 := by
    refine codeAny_loop rfl (fun n s' => ∃ i v H', Inv (cxLc X (x :: ns) scope cl s.heap.objs.size s H fp) [] (lcSlots fr σ v) H' s' ∧ tn i s'.heap ∧ (∀ b ∈ fp, H' b = none) ∧ W i n H') (fun n s3 hI => ?_) m0 ⟨0, none, H, I4, st4, fr0, w0⟩
    obtain ⟨i, v0, H3, I3, st3, fr3, w3⟩ := hI
    show wpAny _ X.A ((compTurn (.ListComp elt [⟨.Name x px, iter, ifs, 0⟩] scope pos) 0 (.ref it) (.ref D) (compEnvC scope cl s.heap.objs.size X.env)).onRaise (fun y => do noteFrame y (compEnvC scope cl s.heap.objs.size X.env); theTreesLotGoes y)) _ _ s3
    refine wpAny_noted ?_
    rw [compTurn_list]
    have low : ∀ {α : Type} {t : Sem α} {Q Q' : α → Shared → Prop} {E : Value → Shared → Prop} {s5 : Shared}, wpAny (model X.prog X.w) X.A t Q (fun _ _ => False) s5 → (∀ a s6, Q a s6 → Q' a s6) → wpAny (model X.prog X.w) X.A t Q' E s5 :=
      fun h hq => wpAny_mono h hq fun _ _ z => z.elim
    rcases turn i n H3 w3 with ⟨stop, q⟩ | ⟨go, step⟩
    · refine wpAny_bind (wpAny_standAt (wpAny_bind (low (T.done (cxLc X (x :: ns) scope cl s.heap.objs.size s H fp) rfl rfl rfl hc i [] s3 _ H3 (fun _ _ => False) I3 (stat fr3) st3 stop) fun r s5 hr => ?_)))
      obtain ⟨hr, I5⟩ := hr
      subst hr
      exact wpAny_pure (hR s5 H3 v0 I5 q)
    · refine wpAny_bind (wpAny_standAt (wpAny_bind (low (T.item (cxLc X (x :: ns) scope cl s.heap.objs.size s H fp) rfl rfl rfl hc i [] s3 _ H3 (fun _ _ => False) I3 (stat fr3) st3 go) fun r s5 hr => ?_)))
      obtain ⟨u, hr, h5⟩ := hr
      subst hr
      refine wpAny_bind (low h5 fun _ s6 h6 => ?_)
      obtain ⟨y, H6, I6, r6, y6, st6, fr6⟩ := h6
      have I6' := I6.pinned (stat fr6) (T.obj _ _ st6)
      have hg : PG (cxLc X (x :: ns) scope cl s.heap.objs.size s H fp) (.Name x px) (gName 0) := pg_name (i := 0) L.nd rfl hxl (.inr (lookup_relabel_local L.var))
      refine wpAny_bind (low (hg _ s6 _ H6 y u (fun σ' H' => σ' = lcSlots fr σ (some y) ∧ H' = H6) I6' r6 ⟨rfl, rfl⟩) fun _ s7 h7 => ?_)
      obtain ⟨σ7, H7, I7, e7, e7'⟩ := h7
      subst e7 e7'
      have back : ∀ {H8 : Hp} {s8 : Shared}, Inv (cxLc X (x :: ns) scope cl s.heap.objs.size s H fp) ([] ++ pinsAt fp s6.heap) (lcSlots fr σ (some y)) H8 s8 → (∃ m', m' < n ∧ W (i + 1) m' H8) →
          ∃ m, m < n ∧ ∃ i v H', Inv (cxLc X (x :: ns) scope cl s.heap.objs.size s H fp) [] (lcSlots fr σ v) H' s8 ∧ tn i s8.heap ∧ (∀ b ∈ fp, H' b = none) ∧ W i m H' := fun {H8 s8} I8 hm => by
        obtain ⟨m', hm, w8⟩ := hm
        refine ⟨m', hm, i + 1, some y, H8, I8.unpinned, T.keep _ _ _ st6 fun b hb o e => (I8.pin (b, o) (List.mem_append_right _ (List.mem_append_right _ (mem_pinsAt hb e)))).1, fun b hb => ?_, w8⟩
        obtain ⟨o, e, d⟩ := T.obj _ _ st6 b hb
        exact (I8.pin (b, o) (List.mem_append_right _ (List.mem_append_right _ (mem_pinsAt hb e)))).2.1
      have hstep := step y _ y6
      have emit : ∀ {H8 : Hp} {s8 : Shared}, Inv (cxLc X (x :: ns) scope cl s.heap.objs.size s H fp) ([] ++ pinsAt fp s6.heap) (lcSlots fr σ (some y)) H8 s8 →
          te (lcSlots fr σ (some y)) H8 (fun y H4 => ∃ ys, H4 D = some (.lst ys) ∧ ys.length < sizeLine ∧ ∃ m', m' < n ∧ W (i + 1) m' (upd H4 D (.lst (ys ++ [y])))) →
          wpAny (model X.prog X.w) X.A (do let _ ← call (.builtin "list.append") [.ref D, ← eval elt (compEnvC scope cl s.heap.objs.size X.env)]) (fun _ s9 => ∃ m, m < n ∧ ∃ i v H', Inv (cxLc X (x :: ns) scope cl s.heap.objs.size s H fp) [] (lcSlots fr σ v) H' s9 ∧ tn i s9.heap ∧ (∀ b ∈ fp, H' b = none) ∧ W i m H') (fun _ _ => False) s8 := fun {H8 s8} I8 h8 => by
        refine wpAny_bind (thn (hE _ s8 _ H8 _ I8 h8) fun v9 s9 h9 => ?_)
        obtain ⟨z, H9, I9, r9, ys, hD, hlen, hm⟩ := h9
        refine wpAny_bind (thn (mt_append (X := cxLc X (x :: ns) scope cl s.heap.objs.size s H fp) _ s9 _ H9 (.ref D) [z] (.ref D) [v9] (fun _ H' => ∃ m', m' < n ∧ W (i + 1) m' H') I9 rfl (.cons r9 .nil) ⟨D, ys, z, rfl, rfl, hD, hlen, hm⟩) fun v10 s10 h10 => ?_)
        obtain ⟨_, H10, I10, _, hm10⟩ := h10
        exact wpAny_pure (back I10 hm10)
      cases hT with
      | nil =>
        refine wpAny_bind (wpAny_tests_nil ?_)
        refine wpAny_bind (low (emit I7 (iteT_inv hstep)) fun _ s9 h9 => wpAny_pure ⟨rfl, h9⟩)
      | one hP =>
        refine wpAny_bind (wpAny_tests_one (low (hP _ s7 _ _ _ I7 hstep) fun b s8 h8 => ?_))
        obtain ⟨H8, I8, q8⟩ := h8
        cases b with
        | false =>
          have q9 : ∃ m', m' < n ∧ W (i + 1) m' H8 := q8
          exact wpAny_pure ⟨rfl, back I8 q9⟩
        | true =>
          exact wpAny_bind (low (emit I8 q8) fun _ s9 h9 => wpAny_pure ⟨rfl, h9⟩)
  exact codeAny_compStart_list loop (T.self X.A 0 _ _ _ st4 loop)
theorem lc_after {s' : Shared} {H' : Hp} {σ' : St} (I : Inv X pins σ H s) (hf : ∀ b ∈ fp, FpOk X pins H b) (I' : Inv (cxLc X (x :: ns) scope cl s.heap.objs.size s H fp) [] σ' H' s') : Inv X pins σ H' s' :=
  I.call' (ch := fp) I'.os I'.base I'.hok I'.bare fun b hb => ⟨(hf b hb).2.2.2.1, (hf b hb).2.1, (hf b hb).2.2.2.2.1, (hf b hb).2.2.2.2.2⟩
theorem lc_run {elt iter : Expr} {px : Pos} {ifs : List Expr} {pos : Pos} {J : It} {it : Addr} {tn : Nat → Heap → Prop} {tt : TT} {te : TE} {Qe : Addr → Hp → Prop} {R : Value → Addr → Result → Shared → Prop} {E : Value → Shared → Prop}
    (hc : X.calm = true) (L : LcOk X x ns fr scope cl) (T : Turn X.prog X.w X.K (.Name x px) J fp it tn) (hf : ∀ b ∈ fp, FpOk X pins H b) (I : Inv X pins σ H s) (st : tn 0 s.heap)
    (hE : ∀ C s H, PE (cxLc X (x :: ns) scope cl C s H fp) elt te) (hT : ∀ C s H, LcIf (PT (cxLc X (x :: ns) scope cl C s H fp)) ifs tt) (hw : ∀ D, H D = none → lcLoop J fr tt te σ D (Qe D) (upd H D (.lst [])))
    (hR : ∀ (D C : Addr) (s' : Shared) (H' : Hp), Inv X pins σ H' s' → Qe D H' → (∃ m o, s'.heap.get? C = some o ∧ (∀ v, o.data ≠ .cell v) ∧ ∀ h' : Heap, h'.get? C = some o → h'.Ns C m) → H' C = none → C ≠ X.env.locals → C ∉ X.fs → X.s₀.heap.objs.size ≤ C →
      (∀ z c, X.env.cells.lookup z = some c → c ≠ C) → (∀ p ∈ X.pn ++ pins, p.1 ≠ C) → R (.ref D) C (.ok .next) s') :
    wpAny (model X.prog X.w) X.A (newList []) (fun acc s₃ => wpAny (model X.prog X.w) X.A (newFunctionEnv scope X.env.globals cl [] X.env.qual none .none (some X.env)) (fun cenv s₄ =>
      codeAny (model X.prog X.w) X.A (.compStart (.ListComp elt [⟨.Name x px, iter, ifs, 0⟩] scope pos) 0 (.ref it) acc { cenv with scope := relabel scope X.env }) (R acc cenv.locals) s₄) E s₃) E s := by
  have ho : ∀ b ∈ fp, b < s.heap.objs.size := fun b hb => by
    obtain ⟨o, e, _⟩ := T.obj _ _ st b hb
    exact Heap.lt_size e
  have I3 : Inv X pins σ (upd H s.heap.objs.size (.lst [])) { s with heap := s.heap.push { cls := .type "list", dict := none, data := .seq ([] : List Value).toArray } } := I.lnew (t' := s.toks) (.nil) (Nat.zero_le _)
  refine wpAny_newObj_type (wpAny_newFunctionEnv L.nocell (by intro y hy; simp at hy) (fun h1 hns hsb => ?_) L.kind)
  dsimp only at hns hsb ⊢
  generalize hs3 : ({ s with heap := s.heap.push { cls := .type "list", dict := none, data := .seq ([] : List Value).toArray } } : Shared) = s3 at I3
  have eh : s.heap.push { cls := .type "list", dict := none, data := .seq ([] : List Value).toArray } = s3.heap := by rw [← hs3]
  rw [eh] at hns hsb ⊢
  have hz : s3.heap.objs.size = s.heap.objs.size + 1 := by rw [← eh, Heap.size_push]
  have hk : ∀ b o, s3.heap.get? b = some o → h1.get? b = some o := fun b o e => hsb.extBut b o (Nat.ne_of_lt (Heap.lt_size e)) (Heap.get?_push_of_some _ e)
  have hf3 : ∀ b ∈ fp, FpOk X pins (upd H s.heap.objs.size (.lst [])) b := fun b hb => ⟨by rw [upd_ne (Nat.ne_of_lt (ho b hb))]; exact (hf b hb).1, (hf b hb).2⟩
  have ho3 : ∀ b ∈ fp, b < s3.heap.objs.size := fun b hb => by rw [hz]; exact Nat.lt_succ_of_lt (ho b hb)
  have es : ∀ tk, ({ s with heap := h1, toks := tk } : Shared) = { s3 with heap := h1, toks := tk } := fun tk => by rw [← hs3]
  rw [es]
  have I4 := lc_start (t' := s.toks + ([] : List (Str × Value)).length) I3 L hf3 ho3 hns hk
  refine lc_block hc L T hf3 ho3 I3 (hE _ _ _) (hT _ _ _) (hw _ I.fresh) I4 ?_ fun s' H' v I' q => ?_
  · refine T.keep _ _ _ st fun b hb o e => hk b o ?_
    rw [← eh]
    exact Heap.get?_push_of_some _ e
  · have IX := lc_after I3 hf3 I'
    obtain ⟨m, ⟨o, es', ep, ho', hd', hr'⟩, _⟩ := I'.loc
    refine hR _ _ s' H' IX q ⟨m, o, ho', fun v z => ?_, fun h' e => ⟨o, es', ep, e, hd', hr'⟩⟩ I'.free (Nat.ne_of_gt I3.lt) (I3.nofs (Nat.le_refl _)) I3.sz (fun z c e => ?_) fun p hp => ?_
    · rw [hd'] at z
      cases z
    · obtain ⟨v, o2, e2, _⟩ := I3.cell z c e
      exact Nat.ne_of_lt (Heap.lt_size e2)
    · exact Nat.ne_of_lt (Heap.lt_size (I3.pin p hp).1)
def tLc (wi : TI) (fr : List Nat) (tt : TT) (te : TE) : TE := fun σ H Q => wi σ H fun J H1 => ∀ D, H1 D = none → lcLoop J fr tt te σ D (fun H2 => Q (.ref D) H2) (upd H1 D (.lst []))
theorem pe_lc {elt iter : Expr} {px pos : Pos} {ifs : List Expr} {wi : TI} {tt : TT} {te : TE} (hc : X.calm = true) (L : LcOk X x ns fr scope cl) (hi : PI X (.Name x px) iter wi)
    (hE : ∀ C s H fp, PE (cxLc X (x :: ns) scope cl C s H fp) elt te) (hT : ∀ C s H fp, LcIf (PT (cxLc X (x :: ns) scope cl C s H fp)) ifs tt)
    (hs : ∀ v, foldedSetIterable iter X.env v = pure v := by intro _; rfl) : PE X (.ListComp elt [⟨.Name x px, iter, ifs, 0⟩] scope pos) (tLc wi fr tt te) := by
  intro pins s σ H Q I h
  rw [eval_ListComp]
  refine wpAny_comprehension_free (use := none) rfl hs L.clos L.kind L.own (thn (hi pins s σ H _ I h) fun v s1 h1 => thn h1 fun itv s2 h2 => ?_)
  obtain ⟨it, fp, tn, J, H2, e, I2, T, st2, f2, q⟩ := h2
  subst e
  refine lc_run (R := fun acc C => compPost (model X.prog X.w) X.A X.xe none (EP X pins σ Q) acc C) hc L T f2 I2 st2 (fun C s H => hE C s H fp) (fun C s H => hT C s H fp) q ?_
  intro D C s' H' I' q' hns hn hl hfs hz hcell hpin
  obtain ⟨m, o, e, hd, hk⟩ := hns
  refine ⟨m, hk _ e, fun h' hsb => ?_⟩
  exact ⟨.ref D, H', I'.turned (t' := s'.toks) (fun b o hb e => hsb.extBut b o hb e) hn hl (.inr hz) hcell hpin, rfl, q'⟩
theorem ps_lc {elt iter : Expr} {y : Str} {j : Nat} {px py pos spos : Pos} {ifs : List Expr} {wi : TI} {tt : TT} {te : TE} (hc : X.calm = true) (hN : X.N.Nodup) (hj : X.N[j]? = some y) (hy : X.env.scope.names.lookup y = some .local) (L : LcOk X x ns fr scope cl) (hi : PI X (.Name x px) iter wi)
    (hE : ∀ C s H fp, PE (cxLc X (x :: ns) scope cl C s H fp) elt te) (hT : ∀ C s H fp, LcIf (PT (cxLc X (x :: ns) scope cl C s H fp)) ifs tt)
    (hsw : swapsWith (.ListComp elt [⟨.Name x px, iter, ifs, 0⟩] scope pos) (some (.Name y py)) spos.line X.env = pure true := by rfl)
    (hs : ∀ v, foldedSetIterable iter X.env v = pure v := by intro _; rfl) : PS X (.Assign [.Name y py] (.ListComp elt [⟨.Name x px, iter, ifs, 0⟩] scope pos) spos) (tAsg (tLc wi fr tt te) (gName j)) := by
  intro pins s σ H Dn I h
  rw [exec_Assign_Name_used _ _ _ _ hsw]
  refine wpAny_bind (wpAny_standAt (wpAny_bind ?_))
  show wpAny _ X.A (do let _ ← comprehension (.ListComp elt [⟨.Name x px, iter, ifs, 0⟩] scope pos) scope X.env _ (newList []) false (eval iter X.env) (some (assign (.Name y py) X.env))) _ _ s
  refine wpAny_bind (thn (wpAny_comprehension_free (use := some (assign (.Name y py) X.env)) (Q := fun _ s' => SP X pins Dn .next s') rfl hs L.clos L.kind L.own (thn (hi pins s σ H _ I h) fun v s1 h1 => thn h1 fun itv s2 h2 => ?_)) fun _ s' q => wpAny_pure (wpAny_pure q))
  obtain ⟨it, fp, tn, J, H2, e, I2, T, st2, f2, q⟩ := h2
  subst e
  refine lc_run (R := fun acc C => compPost (model X.prog X.w) X.A X.xe (some (assign (.Name y py) X.env)) (fun _ s' => SP X pins Dn .next s') acc C) hc L T f2 I2 st2 (fun C s H => hE C s H fp) (fun C s H => hT C s H fp) q ?_
  intro D C s' H' I' q' hns hn hl hfs hz hcell hpin
  obtain ⟨m, o, e, hd, hk⟩ := hns
  have I'' : Inv X (pins ++ [(C, o)]) σ H' s' := I'.pins_of fun p hp => by
    rcases List.mem_append.mp hp with h | h
    · exact I'.pin p (List.mem_append_right _ h)
    · have ep : p = (C, o) := by simpa using h
      subst ep
      exact ⟨e, hn, hl, hfs, hd⟩
  refine wpAny_assign_Name (store_ok I'' hN hj (.inl hy) (show RelV (.ref D) (.ref D) from rfl) (fun s2 I2 => ?_) (.inr hy))
  obtain ⟨e2, n2, _⟩ := I2.pin (C, o) (List.mem_append_right _ (List.mem_append_right _ (List.mem_singleton.mpr rfl)))
  refine ⟨m, hk _ e2, fun h' hsb => ?_⟩
  exact ⟨σ.set j (some (.ref D)), H', I2.unpinned.turned (t' := s2.toks) (fun b o hb e => hsb.extBut b o hb e) hn hl (.inr hz) hcell hpin, q'⟩
end
section
variable {X : Cx} {x : Str} {ns : List Str} {fr : List Nat} {scope : Scope} {cl : List (Str × Addr)}
theorem lk_mem {α : Type} {z : Str} {c : α} : ∀ {l : List (Str × α)}, l.lookup z = some c → (z, c) ∈ l
  | [], h => by simp at h
  | (y, d) :: l, h => by
    rw [List.lookup_cons] at h
    cases e : z == y with
    | true =>
      rw [e] at h
      have e2 : z = y := by simpa using e
      cases h
      rw [e2]
      exact List.mem_cons_self
    | false =>
      rw [e] at h
      exact List.mem_cons_of_mem _ (lk_mem h)
theorem lcok (clos : closureFor scope X.env = pure cl) (nocell : scope.names.all (fun y => y.2 != .cell) = true) (kind : scope.kind = .function)
    (own : scope.names.all (fun y => y.2 != .local || scope.names.lookup y.1 == some .local) = true) (var : scope.names.lookup x = some .local) (sub : ∀ p ∈ cl, X.env.cells.lookup p.1 = some p.2)
    (has : (relabel scope X.env).names.all (fun y => !(y.2 == .cell || y.2 == .free) || (cl.lookup y.1).isSome) = true) (len : ns.length = fr.length)
    (fr_ : ∀ p ∈ ns.zip fr, X.N[p.2]? = some p.1 ∧ X.env.scope.names.lookup p.1 = some .cell ∧ ((relabel scope X.env).names.lookup p.1 = some .cell ∨ (relabel scope X.env).names.lookup p.1 = some .free)) (nd : (x :: ns).Nodup) : LcOk X x ns fr scope cl where
  clos := clos
  nocell := fun y hy => by simpa using List.all_eq_true.mp nocell y hy
  kind := kind
  own := fun y hy h => by
    have := List.all_eq_true.mp own y hy
    rw [h] at this
    simpa using this
  var := var
  sub := fun z c h => sub _ (lk_mem h)
  has := fun z h => by
    have k : ∀ t, (relabel scope X.env).names.lookup z = some t → (t = .cell ∨ t = .free) → ∃ c, cl.lookup z = some c := fun t ht hk => by
      have := List.all_eq_true.mp has _ (lk_mem ht)
      rcases hk with rfl | rfl <;> simpa [Option.isSome_iff_exists] using this
    rcases h with h | h
    · exact k _ h (.inl rfl)
    · exact k _ h (.inr rfl)
  len := len
  from_ := fun k z j h1 h2 => fr_ (z, j) (List.mem_of_getElem? (i := k) (by rw [List.getElem?_zip_eq_some]; exact ⟨h1, h2⟩))
  nd := nd
end
end L2
namespace L2
end L2
namespace L2
open PySem PySem.Spec PyProof.Rows
theorem pe_fldC {X : Cx} {K : PySem.W.Frag} {e : Expr} {f : Str} {pos : Pos} {ta : TE} (h : X.K = K) (he : PE X e ta) (hb : attributeBase e f X.env (eval e X.env) = eval e X.env) : PE X (.Attribute e f pos) (tFld K ta f) := by
  subst h
  exact pe_fld he hb
end L2
namespace L2
open PySem PySem.Spec PyProof.Rows
open AutoSeq1 (wpAny_loadPart')
section
variable {prog : Program} {w : World} {A : Around} {E : Value → Shared → Prop} {s : Shared}
abbrev enKw (p : Int) (t : Tok) : List (Str × Value) := [("start", .int p t)]
theorem en_type (l : Value) (p : Int) (t : Tok) : checkTypeCall "enumerate" ⟨[l], enKw p t⟩ = pure () := by kernel_rfl
theorem en_newc (l : Value) (p : Int) (t : Tok) : checkBuiltinCall "enumerate.__new__" ⟨[.type "enumerate", l], enKw p t⟩ = pure () := by kernel_rfl
theorem en_init (o l : Value) (p : Int) (t : Tok) : argsOk "object.__init__" ⟨[o, l], enKw p t⟩ := by
  first | exact ⟨rfl⟩ | decide | (unfold argsOk; kernel_rfl) | trivial
theorem en_new (l : Addr) (xs : Array Value) (n : Nat) (dct : Option Addr) (sl : Array (Option Value)) (p : Int) (t : Tok) (hp : (!Builtin.SmallTypes.fitsIndex p) = false) :
    Meets (Builtin.«enumerate.__new__» ⟨[.type "enumerate", .ref l], enKw p t⟩) (fun _ R s => s.heap.get? l = some { cls := .type "list", dict := dct, data := .seq xs n, slots := sl } ∧
      R (.ok (.ret (.ref (s.heap.push { cls := .type "list_iterator", data := .fields #[.ref l, .int 0 0] }).objs.size)))
        { s with heap := (s.heap.push { cls := .type "list_iterator", data := .fields #[.ref l, .int 0 0] }).push { cls := .type "enumerate", data := .fields #[.none, .bool false, .ref s.heap.objs.size, rawInt p, .none, .none] } }) :=
  .of_wp fun prog w A R s h => by
    obtain ⟨hp0, g, d, tk, os⟩ := s
    obtain ⟨hl, h⟩ := h
    have sub := sub_enumerate
    have isl : Heap.IsList (Shared.heap ⟨hp0, g, d, tk, os⟩) l xs := ⟨_, hl, rfl, n, rfl⟩
    wp_walk using wpAny_loadPart' hl
    refine wpAny_stack_any fun st => wpAny_pure ?_
    split
    · rename_i c _ _ _ _ _
      cases (c == Value.type "enumerate") <;> (wp_walk using wpAny_loadPart' hl, wpAny_pyIter_list isl; exact ⟨_, rfl, h⟩)
    · wp_walk using wpAny_loadPart' hl, wpAny_pyIter_list isl
      exact ⟨_, rfl, h⟩
theorem en_made {T ni ii : String} {Bn Bi : Builtin} {as : List Value} {kw : List (Str × Value)} {S : PySem.Spec} {Q Q1 : Value → Shared → Prop} (ft : TypeCalled T ni ii) (c1 : checkTypeCall T ⟨as, kw⟩ = pure ())
    (c2 : checkBuiltinCall ni ⟨.type T :: as, kw⟩ = pure ()) (en : entryFor table ni = some Bn) (ei : entryFor table ii = some Bi) (g : Meets (Bn ⟨.type T :: as, kw⟩) S) (h : S A.in1 (wants Q1 E) s)
    (nx : ∀ o s1, Q1 o s1 → s1.TypeIs o T ∧ argsOk ii ⟨o :: as, kw⟩ ∧ ∃ Si, Meets (Bi ⟨o :: as, kw⟩) Si ∧ Si A.in1 (wants (fun r s2 => r = .none ∧ Q o s2) E) s1) : wpAny (model prog w) A (call (.type T) as kw) Q E s := by
  obtain ⟨c, tl, mr⟩ := ft.mro
  have made := ft.made; have sub := ft.sub; have nt := ft.notType; have cc := ft.canCreate
  refine wpAny_call (codeAny_of_tree ?_); show wpAny _ _ (callAny (.type T) _) _ _ _
  refine wpAny_pure ⟨Code.quiet_builtin _ (by decide +kernel), codeAny_builtin F.entry_type_call ?_⟩; rw [Around.under_plain (weight_type_call_type T as kw) (units_type_call_type T as kw)]
  repeat (any_goals (first | assumption | wp_step))
  refine codeAny_mono (codeAny_call_builtin ft.plain en (wpAny_of_eq c2 (g prog w A.in1 _ s h))) fun r s1 hr => ?_
  cases r with
  | error e => exact hr
  | ok fl =>
    cases fl with
    | ret o =>
      obtain ⟨hT, ok, Si, gi, hs⟩ := nx _ _ hr
      have li := ft.init.lookup; have bi := ft.init.bind o
      repeat (any_goals (first | assumption | wp_step))
      refine codeAny_mono (codeAny_call_builtin ft.init.plain ei (ft.init.check _ _ _ _ _ _ _ _ hT ok (gi prog w A.in1 _ s1 hs))) fun r2 s2 hr2 => ?_
      cases r2 with
      | error e => exact hr2
      | ok fl2 =>
        cases fl2 with
        | ret r =>
          obtain ⟨rfl, hq⟩ := hr2
          repeat (any_goals (first | assumption | wp_step))
        | _ => exact hr2.elim
    | _ => exact hr.elim
theorem en_obj {T ni : String} {o a : Value} {as : List Value} {kw : List (Str × Value)} (hl : typeLookup (.type T) "__init__" = pure (some (.builtin "object.__init__"))) (hm : Bind.madeBy (.type T) = pure (some ni)) (hne : (some ni != some "object.__new__") = true) :
    Meets (Builtin.«object.__init__» ⟨o :: a :: as, kw⟩) (fun _ R s => s.TypeIs o T ∧ R (.ok (.ret .none)) s) := by
  refine Meets.of_wp fun prog w A R s hs => ?_
  obtain ⟨hT, hq⟩ := hs
  repeat (any_goals (first | assumption | wp_step))
  exact ⟨_, rfl, hq⟩
theorem en_call {l : Addr} {xs : Array Value} {p : Int} {t : Tok} {Q : Value → Shared → Prop} (hL : s.heap.IsList l xs) (hp : (!Builtin.SmallTypes.fitsIndex p) = false)
    (h : ∀ h', IsEnum h' (s.heap.objs.size + 1) s.heap.objs.size p .none → h'.IsListIter s.heap.objs.size l 0 → h'.objs.size = s.heap.objs.size + 2 → (∀ b o, s.heap.get? b = some o → h'.get? b = some o) → Q (.ref (s.heap.objs.size + 1)) { s with heap := h' }) :
    wpAny (model prog w) A (call (.type "enumerate") [.ref l] (enKw p t)) Q E s := by
  obtain ⟨⟨c, dct, dt, sl⟩, hl, hc, n, hd⟩ := hL
  replace hc : c = .type "list" := hc
  replace hd : dt = .seq xs n := hd
  subst hc hd
  refine en_made (Q1 := fun o s1 => s1.TypeIs o "enumerate" ∧ Q o s1) F.called_enumerate (en_type _ _ _) (en_newc _ _ _) F.entry_enumerate_new F.entry_object_init (en_new l xs n dct sl p t hp) ⟨hl, ?_⟩ fun o s1 hq =>
    ⟨hq.1, en_init _ _ _ _, _, en_obj F.called_enumerate.init.lookup F.called_enumerate.made (by decide), hq.1, rfl, hq.2⟩
  have hz : (s.heap.push { cls := .type "list_iterator", data := .fields #[.ref l, .int 0 0] }).objs.size = s.heap.objs.size + 1 := Heap.size_push ..
  show _ ∧ _; rw [hz]
  have he := Heap.get?_push_size (s.heap.push { cls := .type "list_iterator", data := .fields #[.ref l, .int 0 0] }) (o := { cls := .type "enumerate", data := .fields #[.none, .bool false, .ref s.heap.objs.size, rawInt p, .none, .none] }) rfl
  rw [hz] at he
  exact ⟨⟨_, he, rfl⟩, h _ he ⟨_, Heap.get?_push_of_some _ (Heap.get?_push_size _ rfl), rfl, rfl⟩ (by rw [Heap.size_push, hz]) fun b o x => Heap.get?_push_of_some _ (Heap.get?_push_of_some _ x)⟩
theorem en_shift {it : Addr} {fp : List Addr} {n : Nat} {P : Nat → Value → Prop} {St : Nat → Heap → Prop} (p : Nat) (D : Draws prog w A it fp n P St) :
    Draws prog w A it fp (p + n) (fun j v => ∃ i, j = p + i ∧ P i v) (fun j h => ∃ i, j = p + i ∧ St i h) where
  live := fun j h ⟨i, _, st⟩ => D.live i h st
  frame := fun j h h' ⟨i, e, st⟩ k => ⟨i, e, D.frame i h h' st k⟩
  item := fun j s Q E hj ⟨i, e, st⟩ hQ => D.item i s Q E (by omega) st fun x h' tk hP st' hs => hQ x h' tk ⟨i, e, hP⟩ ⟨i + 1, by omega, st'⟩ hs
  done := fun s Q E ⟨i, e, st⟩ hE => by
    have ei : i = n := by omega
    subst ei
    exact D.done s Q E st hE
end
def Ite (K : PySem.W.Frag) (l : Addr) (p : Nat) : It :=
  ⟨fun i H => ∃ xs x, SqL K H l xs ∧ xs[i]? = some x, fun i H x H' => ∃ t v, H t = none ∧ x = .ref t ∧ (∀ xs, SqL K H l xs → xs[i]? = some v) ∧ H' = upd H t (.tup [.int ((p + i : Nat) : Int), v]), fun i H => ∃ xs, SqL K H l xs ∧ xs.length = i⟩
theorem turn_enum {P : Program} {w : World} {K : PySem.W.Frag} {es : List Expr} {k : Nat} {tp : Pos} (l e it : Addr) (p : Nat) (hei : e ≠ it) (hle : l ≠ e) (hli : l ≠ it) :
    Turn P w K (.Tuple es k tp) (Ite K l p) [e, it] e (fun i h => (∃ old, IsEnum h e it ((p + i : Nat) : Int) old) ∧ h.IsListIter it l i) where
  mem := by simp
  obj := fun i h st b hb => by
    obtain ⟨⟨old, he⟩, o, ho, hc, hd⟩ := st
    rcases List.mem_cons.mp hb with rfl | hb
    · exact ⟨_, he, fun v z => by cases z⟩
    · have eb : b = it := by simpa using hb
      subst eb
      exact ⟨o, ho, fun v z => by rw [hd] at z; cases z⟩
  keep := fun i h h' st kk => by
    obtain ⟨⟨old, he⟩, hit⟩ := st
    exact ⟨⟨old, kk e (by simp) _ he⟩, hit.at fun o z => kk it (by simp) o z⟩
  item := by
    intro X hP hw hK hc i pins s σ H E I hf st hg
    subst hP hw hK
    obtain ⟨xs, x, hq, hx⟩ := hg
    obtain ⟨its, rv, pl, hz⟩ := I.list hq
    obtain ⟨u, hu, ru⟩ := rv.get hx
    obtain ⟨⟨old, he⟩, hit⟩ := st
    have hlen := rv.length
    have hi : i < its.toArray.size := by
      have := (List.getElem?_eq_some_iff.mp hu).1
      simpa using this
    refine wpAny_pyNext_enum_itemD (en_shift p (Draws.list (prog := X.prog) (w := X.w) (A := X.A.in1) (I.ok.hd hc) it l hli its.toArray)) he ⟨i, rfl, hit, pl.isList⟩ (by omega) hei
      (by simp only [List.mem_cons, List.not_mem_nil, or_false]; rintro (z | z); exact hei z; exact hle z.symm) fun y h' tk hy ho hst hT hsz hk => ?_
    obtain ⟨i', ei, hy⟩ := hy
    have ei' : i' = i := by omega
    subst ei'
    have eu : y = u := by
      have h1 : its.toArray[i']? = some y := hy
      rw [List.getElem?_toArray, hu] at h1
      exact (Option.some.inj h1).symm
    subst eu
    refine ⟨_, rfl, wpAny_letOwnedTupleGo_enum (s := { s with heap := h', toks := tk + 1 }) ho fun h2 he2 hs2 => ?_⟩
    have hel : e < s.heap.objs.size := Heap.lt_size he
    have hn : H s.heap.objs.size = none := I.fresh
    have kp : ∀ b o, b ≠ e → b ≠ it → s.heap.get? b = some o → h2.get? b = some o := fun b o h1 h3 z => (hs2.2 b h1).trans (hk b o h1 h3 z)
    have hT2 : h2.get? s.heap.objs.size = some { cls := .type "tuple", data := .seq #[.int ((p + i' : Nat) : Int) tk, y] } := (hs2.2 _ (Nat.ne_of_gt hel)).trans hT
    have fe := hf e (by simp)
    have fi := hf it (by simp)
    have ne : ∀ b o, H b = some o → b ≠ e ∧ b ≠ it := fun b o z => ⟨fun z2 => (by subst z2; rw [fe.1] at z; cases z), fun z2 => (by subst z2; rw [fi.1] at z; cases z)⟩
    have lt : ∀ b o, H b = some o → b ≠ s.heap.objs.size := fun b o z => Nat.ne_of_lt (I.hok.lt z)
    have hok : HOk X.prog X.w (upd H s.heap.objs.size (.tup [.int ((p + i' : Nat) : Int), x])) h2 := fun b o z => by
      by_cases hb : b = s.heap.objs.size
      · subst hb
        rw [upd_same] at z
        cases z
        exact ⟨by show 2 ≤ _; decide, [.int ((p + i' : Nat) : Int) tk, y], .cons ⟨tk, rfl⟩ (.cons ru .nil), ⟨_, hT2, rfl, _, rfl⟩⟩
      · rw [upd_ne hb] at z
        refine (I.hok b o z).stay (fun c v hc q => ?_) (fun c q => by rw [upd_ne (lt c _ q)]; exact q) fun c ys q => by rw [upd_ne (lt c _ q)]; exact q
        rcases hc with rfl | hc
        · exact kp _ v (ne _ o z).1 (ne _ o z).2 q
        · exact kp c v (ne c _ hc).1 (ne c _ hc).2 q
    have old2 : ∀ b o, s.heap.get? b = some o → b ≠ s.heap.objs.size := fun b o z => Nat.ne_of_lt (Heap.lt_size z)
    have U : Un (frs X.stack) [e, it] H (upd H s.heap.objs.size (.tup [.int ((p + i' : Nat) : Int), x])) s.heap h2 := by
      have nch : ∀ b, b ∉ [e, it] → b ≠ e ∧ b ≠ it := fun b hb => ⟨fun z => hb (by simp [z]), fun z => hb (by simp [z])⟩
      refine ⟨fun b o z _ _ hb => kp b o (nch b hb).1 (nch b hb).2 z, fun b o z _ _ hb => ⟨o.slots, kp b o (nch b hb).1 (nch b hb).2 z⟩, fun b o z n hb => by rw [upd_ne (old2 b o z)]; exact n, fun b o z hb => ?_, fun b ys z => by rw [upd_ne (lt b _ z)]; exact z, fun b o u z => by rw [upd_ne (lt b _ z)]; exact z, fun b ps z => ⟨#[], by rw [upd_ne (lt b _ z), z]; simp⟩⟩
      exact ⟨o, kp b o (nch b hb).1 (nch b hb).2 z⟩
    have I2 : Inv X pins σ (upd H s.heap.objs.size (.tup [.int ((p + i' : Nat) : Int), x])) { s with heap := h2, toks := tk + 1 } := I.call (g' := s.gens) (t' := tk + 1) (d' := s.drawn) (ch := [e, it]) U hok I.bare fun b hb => by
      have f := hf b hb
      exact ⟨f.2.2.2.1, f.2.1, f.2.2.2.2.1, f.2.2.2.2.2⟩
    obtain ⟨i2, ei2, hit2, _⟩ := hst
    have ei3 : i2 = i' + 1 := by omega
    subst ei3
    refine ⟨.ref s.heap.objs.size, _, I2, rfl, ⟨s.heap.objs.size, x, hn, rfl, fun ys hy => by rw [I.list_inj hy hq]; exact hx, rfl⟩, ⟨⟨y, ?_⟩, hit2.at fun o z => (hs2.2 it hei.symm).trans z⟩, fun b hb => ?_⟩
    · have ec : (((p + i' : Nat) : Int) + 1) = ((p + (i' + 1) : Nat) : Int) := by omega
      rw [← ec]
      exact he2
    · have f := (hf b hb).1
      obtain ⟨ob, zb, _⟩ : ∃ o, s.heap.get? b = some o ∧ True := by
        rcases List.mem_cons.mp hb with rfl | hb
        · exact ⟨_, he, trivial⟩
        · have eb : b = it := by simpa using hb
          subst eb
          obtain ⟨o, ho2, _⟩ := hit
          exact ⟨o, ho2, trivial⟩
      rw [upd_ne (old2 b ob zb)]
      exact f
  done := by
    intro X hP hw hK hc i pins s σ H E I hf st hg
    subst hP hw hK
    obtain ⟨xs, hq, hx⟩ := hg
    obtain ⟨its, rv, pl, hz⟩ := I.list hq
    obtain ⟨⟨old, he⟩, hit⟩ := st
    have hlen := rv.length
    have fi := hf it (by simp)
    have ei : i = its.toArray.size := by simp; omega
    subst ei
    exact wpAny_pyNext_enum_endD (en_shift p (Draws.list (prog := X.prog) (w := X.w) (A := X.A.in1) (I.ok.hd hc) it l hli its.toArray)) he ⟨its.toArray.size, rfl, hit, pl.isList⟩
      fun h' eb => ⟨rfl, I.turned (t' := s.toks) (fun b o hb z => eb b o hb z) fi.1 fi.2.1 fi.2.2.2.1 fi.2.2.2.2.1 fi.2.2.2.2.2⟩
  self := fun _ _ _ _ _ st h => by
    obtain ⟨⟨old, he⟩, _⟩ := st
    exact wpAny_pyIter_enum he h
theorem bt_enumerate : bootBuiltins "enumerate" = some (.type "enumerate") := by decide +kernel
section
variable {M : Model} {A : Around} {E : Value → Shared → Prop} {s : Shared} {env : Env}
theorem en_with {pos : Pos} {T : String} {e : Expr} {kws : List Keyword} {Q : Value → Shared → Prop}
    (h : wpAny M A (spliced (backTo pos (starEach [e] env))) (fun vs s1 => wpAny M A (evalAll ((backToKw pos (keywordEach kws env)).map (·.2)))
      (fun kvs s2 => wpAny M A (call (.type T) vs (((backToKw pos (keywordEach kws env)).filterMap (·.1)).zip kvs)) Q E s2) E s1) E s)
    (he : starEach [e] env = [(false, eval e env)]) (hall : (backToKw pos (keywordEach kws env)).all (·.1.isSome) = true := by rfl)
    (hkw : (backToKw pos (keywordEach kws env)).any (·.1.isNone) = false := by rfl) :
    wpAny M A (callWith pos (.type T) [] (backTo pos (starEach [e] env)) (backToKw pos (keywordEach kws env))) Q E s := by
  rw [he] at h ⊢
  have hp : (backTo pos [(false, eval e env)]).any (·.1) = false := rfl
  unfold callWith
  have h2 : wpAny M A (evalArgs (.type T) true (backTo pos [(false, eval e env)]) (backToKw pos (keywordEach kws env))) (fun a s1 => wpAny M A (call (.type T) ([] ++ a.pos) a.kw) Q E s1) E s := evalArgs_kwB hall h
  refine wpAny_bind (wpAny_holding (thn h2 fun a s3 h3 => wpAny_bind (wpAny_standAt ?_)))
  simp only [hp, hkw, Bool.or_false]
  refine wpAny_bind (wpAny_pure ?_)
  exact wpAny_bind (thn h3 fun r s4 hr => wpAny_bind (wpAny_holding (wpAny_point (wpAny_pure hr))))
end
section
variable {X : Cx}
def iEnum (K : PySem.W.Frag) (tl tp : TE) : TI := fun σ H R => tl σ H fun x H1 => tp σ H1 fun y H2 => ∃ (a : Addr) (p : Nat), x = .ref a ∧ y = .int p ∧ (∃ xs, SqL K H2 a xs) ∧ p < 2 ^ 62 ∧ R (Ite K a p) H2
theorem fits_en {p : Nat} (h : p < 2 ^ 62) : (!Builtin.SmallTypes.fitsIndex (p : Int)) = false := by
  have h1 : (p : Int) < 2 ^ 62 := by exact_mod_cast h
  unfold Builtin.SmallTypes.fitsIndex
  simp
  omega
theorem pi_enum {l st : Expr} {tl tp : TE} {es : List Expr} {k : Nat} {tpos p kp pos : Pos} (hg : Gl X "enumerate") (hm : X.mg "enumerate" = none) (hl : PE X l tl) (hst : PE X st tp)
    (he : starEach [l] X.env = [(false, eval l X.env)] := by rfl) : PI X (.Tuple es k tpos) (.Call (.Name "enumerate" p) [l] [⟨some "start", st, kp⟩] pos) (iEnum X.K tl tp) := by
  intro pins s σ H R I h
  refine wpAny_Call_Name_kw (ld_blt I hg hm bt_enumerate (en_with ?_ he))
  have hA : PA X [l] (tCons tl tNil) := pa_cons hl pa_nil he
  refine thn (hA pos pins s σ H (fun vs H1 => match vs with
    | [x] => tp σ H1 fun y H2 => ∃ (a : Addr) (p : Nat), x = .ref a ∧ y = .int p ∧ (∃ xs, SqL X.K H2 a xs) ∧ p < 2 ^ 62 ∧ R (Ite X.K a p) H2
    | _ => False) I h) fun us s1 ⟨vs, H1, I1, r1, q1⟩ => ?_
  match vs, r1, q1 with
  | [x], .cons (b := u) ra .nil, q1 =>
    refine kws_cons (thn (hst pins s1 σ H1 _ I1 q1) fun v s2 ⟨y, H2, I2, r2, q2⟩ => kws_nil ?_)
    obtain ⟨a, p, e1, e2, ⟨xs, hq⟩, hp, qq⟩ := q2
    subst e1 e2
    cases ra
    obtain ⟨t, rfl⟩ := r2
    obtain ⟨its, rv, pl, hz⟩ := I2.list hq
    have hlt : a < s2.heap.objs.size := by
      obtain ⟨o, e, _⟩ := pl.isList
      exact Heap.lt_size e
    refine en_call pl.isList (fits_en hp) fun h' hen hit hsz hk => wpAny_pyIter_enum hen ?_
    refine ⟨s2.heap.objs.size + 1, [s2.heap.objs.size + 1, s2.heap.objs.size], _, _, H2, rfl, I2.kept (t' := s2.toks) hk, turn_enum a _ _ p (Nat.succ_ne_self _) (Nat.ne_of_lt (Nat.lt_succ_of_lt hlt)) (Nat.ne_of_lt hlt), ⟨⟨.none, hen⟩, hit⟩, fun b hb => ?_, qq⟩
    rcases List.mem_cons.mp hb with rfl | hb
    · exact I2.fpOk (Nat.le_succ _) (I2.hok.fresh (Nat.le_succ _))
    · have eb : b = s2.heap.objs.size := by simpa using hb
      subst eb
      exact I2.fpOk (Nat.le_refl _) (I2.hok.fresh (Nat.le_refl _))
theorem for_enum {K : PySem.W.Frag} {a : Addr} {p : Nat} {xs : List V} {g : TG} {tb : TS} {D : Ends} {σ : St} {H : Hp} (Pv : Nat → St → Hp → Prop) (h0 : Pv 0 σ H) (hl : ∀ i σ H, i ≤ xs.length → Pv i σ H → SqL K H a xs)
    (hs : ∀ i x t σ H, xs[i]? = some x → Pv i σ H → H t = none → g (.ref t) σ (upd H t (.tup [.int ((p + i : Nat) : Int), x])) fun σ2 H2 => tb { D with nx := Pv (i + 1), ct := Pv (i + 1), bk := D.nx } σ2 H2) (hd : ∀ σ H, Pv xs.length σ H → D.nx σ H) :
    ∃ W : Nat → Nat → St → Hp → Prop, (∃ m, W 0 m σ H) ∧ ∀ i m σ H, W i m σ H →
      ((Ite K a p).stop i H ∧ D.nx σ H) ∨ ((Ite K a p).go i H ∧ ∃ N : St → Hp → Prop, (∀ σ' H', N σ' H' → ∃ m', m' < m ∧ W (i + 1) m' σ' H') ∧ ∀ x H', (Ite K a p).yld i H x H' → g x σ H' fun σ2 H2 => tb { D with nx := N, ct := N, bk := D.nx } σ2 H2) := by
  refine ⟨fun i m σ H => m + i = xs.length ∧ Pv i σ H, ⟨xs.length, rfl, h0⟩, ?_⟩
  rintro i m σ H ⟨hm, pv⟩
  have q := hl i σ H (by omega) pv
  cases m with
  | zero =>
    have ei : i = xs.length := by omega
    subst ei
    exact .inl ⟨⟨xs, q, rfl⟩, hd σ H pv⟩
  | succ m =>
    have hlt : i < xs.length := by omega
    refine .inr ⟨⟨xs, xs[i], q, by simp [hlt]⟩, Pv (i + 1), fun σ' H' p' => ⟨m, by omega, by omega, p'⟩, fun x H' y => ?_⟩
    obtain ⟨t, v, hn, rfl, hv, rfl⟩ := y
    exact hs i v t σ H (hv xs q) pv hn
end
end L2
namespace L2
open PySem PySem.Spec PyProof.Rows
inductive D where
  | non | bl (b : Bool) | int (i : Int) | str (x : Str) | lst (ds : List D) | tup (ds : List D)
mutual
def deq : D → D → Bool
  | .non, .non => true
  | .bl a, .bl b => a == b
  | .bl a, .int b => (if a then 1 else 0) == b
  | .int a, .bl b => a == (if b then 1 else 0)
  | .int a, .int b => a == b
  | .str a, .str b => a == b
  | .lst a, .lst b => deqs a b
  | .tup a, .tup b => deqs a b
  | _, _ => false
def deqs : List D → List D → Bool
  | [], [] => true
  | a :: x, b :: y => deq a b && deqs x y
  | _, _ => false
end
mutual
def D.dep : D → Nat
  | .lst a => deps a + 1
  | .tup a => deps a + 1
  | _ => 0
def deps : List D → Nat
  | [] => 0
  | a :: x => max a.dep (deps x)
end
mutual
theorem deq_refl : ∀ d : D, deq d d = true
  | .non => by simp [deq]
  | .bl b => by simp [deq]
  | .int i => by simp [deq]
  | .str x => by simp [deq]
  | .lst ds => by rw [deq]; exact deqs_refl ds
  | .tup ds => by rw [deq]; exact deqs_refl ds
theorem deqs_refl : ∀ ds : List D, deqs ds ds = true
  | [] => by simp [deqs]
  | d :: ds => by rw [deqs, deq_refl d, deqs_refl ds]; rfl
end
theorem deps_le : ∀ {ds : List D} {i : Nat} {d : D}, ds[i]? = some d → d.dep ≤ deps ds
  | [], _, _, h => by simp at h
  | e :: ds, 0, d, h => by
    simp at h
    subst h
    rw [deps]
    exact Nat.le_max_left _ _
  | e :: ds, i + 1, d, h => by
    rw [deps]
    exact Nat.le_trans (deps_le (i := i) (by simpa using h)) (Nat.le_max_right _ _)
theorem deqs_len : ∀ {ds es : List D}, ds.length ≠ es.length → deqs ds es = false
  | [], [], h => absurd rfl h
  | [], _ :: _, _ => by simp [deqs]
  | _ :: _, [], _ => by simp [deqs]
  | d :: ds, e :: es, h => by rw [deqs, deqs_len (by simpa using h), Bool.and_false]
theorem deqs_all : ∀ {ds es : List D}, ds.length = es.length → deqs ds es = (List.range ds.length).all fun j => deq (ds.getD j .non) (es.getD j .non)
  | [], [], _ => by simp [deqs]
  | [], _ :: _, h => by simp at h
  | _ :: _, [], h => by simp at h
  | d :: ds, e :: es, h => by
    rw [deqs, deqs_all (by simpa using h), List.length_cons, List.range_succ_eq_map, List.all_cons, List.all_map]
    rfl
inductive IsD (K : PySem.W.Frag) (H : Hp) : V → D → Prop where
  | non : IsD K H .non .non
  | bl (b : Bool) : IsD K H (.bl b) (.bl b)
  | int (i : Int) : IsD K H (.int i) (.int i)
  | str (x : Str) : IsD K H (.str x) (.str x)
  | lst {a : Addr} {xs : List V} {ds : List D} (h : SqL K H a xs) (hl : xs.length = ds.length) (hi : ∀ (i : Nat) (x : V) (d : D), xs[i]? = some x → ds[i]? = some d → IsD K H x d) : IsD K H (.ref a) (.lst ds)
  | tup {a : Addr} {xs : List V} {ds : List D} (h : SqT K H a xs) (hl : xs.length = ds.length) (hi : ∀ (i : Nat) (x : V) (d : D), xs[i]? = some x → ds[i]? = some d → IsD K H x d) : IsD K H (.ref a) (.tup ds)
section
variable {X : Cx} {pins : List (Addr × Obj)} {s : Shared} {σ : St} {H : Hp}
theorem Inv.not_both (I : Inv X pins σ H s) {a : Addr} {xs ys : List V} (h : SqL X.K H a xs) (h' : SqT X.K H a ys) : False := by
  obtain ⟨its, _, p, _⟩ := I.list h
  obtain ⟨its2, _, q, _⟩ := I.tuple h'
  obtain ⟨o, e, c, _⟩ := p.isList
  obtain ⟨o2, e2, c2, _⟩ := q
  rw [e] at e2
  cases e2
  rw [c] at c2
  injection c2 with h3
  exact absurd h3 (by decide)
theorem ext_D {xs : List V} {ds es : List D} (hl : xs.length = ds.length) (hl2 : xs.length = es.length) (h : ∀ (i : Nat) x d e, xs[i]? = some x → ds[i]? = some d → es[i]? = some e → d = e) : ds = es := by
  refine List.ext_getElem (by omega) fun i h1 h2 => ?_
  exact h i _ _ _ (List.getElem?_eq_getElem (by omega)) (List.getElem?_eq_getElem h1) (List.getElem?_eq_getElem h2)
theorem IsD.one (I : Inv X pins σ H s) {x : V} {d : D} (h : IsD X.K H x d) : ∀ {e : D}, IsD X.K H x e → d = e := by
  induction h with
  | non => intro e h; cases h; rfl
  | bl b => intro e h; cases h; rfl
  | int b => intro e h; cases h; rfl
  | str b => intro e h; cases h; rfl
  | lst q hl hi ih =>
    intro e h
    cases h with
    | lst q2 hl2 hi2 =>
      cases I.list_inj q q2
      rw [ext_D hl hl2 fun i x d e h1 h2 h3 => ih i x d h1 h2 (hi2 i x e h1 h3)]
    | tup q2 hl2 hi2 => exact (I.not_both q q2).elim
  | tup q hl hi ih =>
    intro e h
    cases h with
    | tup q2 hl2 hi2 =>
      cases I.tuple_inj q q2
      rw [ext_D hl hl2 fun i x d e h1 h2 h3 => ih i x d h1 h2 (hi2 i x e h1 h3)]
    | lst q2 hl2 hi2 => exact (I.not_both q2 q).elim
theorem getD_of {ds : List D} {i : Nat} (h : i < ds.length) : ds[i]? = some (ds.getD i .non) := by simp [List.getD, h]
theorem items_D {xs ys : List V} {ds es : List D} {its its2 : List Value} {A : Around} (r1 : Vals xs its) (r2 : Vals ys its2) (hl : xs.length = ds.length) (hl2 : ys.length = es.length)
    (ih : ∀ (i : Nat) x d, xs[i]? = some x → ds[i]? = some d → ∀ {y : V} {e : D} {u v : Value}, IsD X.K H y e → RelV x u → RelV y v → SeqAt.EqAt A s u v (deq d e)) (hi2 : ∀ (i : Nat) y e, ys[i]? = some y → es[i]? = some e → IsD X.K H y e) :
    ∀ j (h1 : j < its.toArray.size) (h2 : j < its2.toArray.size), SeqAt.EqAt A s its.toArray[j] its2.toArray[j] (deq (ds.getD j .non) (es.getD j .non)) := by
  intro j h1 h2
  have l1 := r1.length
  have l2 := r2.length
  have j1 : j < xs.length := by simp at h1; omega
  have j2 : j < ys.length := by simp at h2; omega
  obtain ⟨u1, e1, q1⟩ := r1.get (List.getElem?_eq_getElem j1)
  obtain ⟨u2, e2, q2⟩ := r2.get (List.getElem?_eq_getElem j2)
  have i1 : its.toArray[j] = u1 := by
    obtain ⟨_, e⟩ := List.getElem?_eq_some_iff.mp e1
    simpa using e
  have i2 : its2.toArray[j] = u2 := by
    obtain ⟨_, e⟩ := List.getElem?_eq_some_iff.mp e2
    simpa using e
  rw [i1, i2]
  exact ih j _ _ (List.getElem?_eq_getElem j1) (getD_of (by omega)) (hi2 j _ _ (List.getElem?_eq_getElem j2) (getD_of (by omega))) q1 q2
theorem tup_D {ds es : List D} : (((List.range (min ds.length es.length)).all fun j => deq (ds.getD j .non) (es.getD j .non)) && (ds.length == es.length)) = deqs ds es := by
  by_cases h : ds.length = es.length
  · rw [deqs_all h, h]
    simp
  · rw [deqs_len h]
    have : (ds.length == es.length) = false := by simpa using h
    rw [this, Bool.and_false]
theorem eqAt_D (I : Inv X pins σ H s) {x : V} {d : D} (h : IsD X.K H x d) : ∀ {A : Around}, A.units + d.dep < cLine → ∀ {y : V} {e : D} {u v : Value}, IsD X.K H y e → RelV x u → RelV y v → SeqAt.EqAt A s u v (deq d e) := by
  induction h with
  | non =>
    intro A hu y e u v h2 r1 r2
    cases r1
    have hu0 : A.units < cLine := Nat.lt_of_le_of_lt (Nat.le_add_right _ _) hu
    cases h2 with
    | non =>
      cases r2
      first | exact SeqAt.EqAt.same _ | (rw [deq] <;> first | exact SeqAt.EqAt.same _ | nofun)
    | bl b2 =>
      cases r2
      first | exact SeqAt.EqAt.none_bool b2 | (rw [deq] <;> first | exact SeqAt.EqAt.none_bool b2 | nofun)
    | int b2 =>
      obtain ⟨t2, rfl⟩ := r2
      first | exact SeqAt.EqAt.none_int b2 t2 | (rw [deq] <;> first | exact SeqAt.EqAt.none_int b2 t2 | nofun)
    | str b2 =>
      obtain ⟨t2, rfl⟩ := r2
      first | exact SeqAt.EqAt.none_str b2 t2 | (rw [deq] <;> first | exact SeqAt.EqAt.none_str b2 t2 | nofun)
    | @lst a2 xs2 ds2 q2 l2 i2 =>
      cases r2
      obtain ⟨its2, v2, p2, z2⟩ := I.list q2
      first | exact SeqAt.EqAt.none_list p2.isList hu0 | (rw [deq] <;> first | exact SeqAt.EqAt.none_list p2.isList hu0 | nofun)
    | @tup a2 xs2 ds2 q2 l2 i2 =>
      cases r2
      obtain ⟨its2, v2, p2, z2⟩ := I.tuple q2
      first | exact SeqAt.EqAt.none_tuple p2 hu0 | (rw [deq] <;> first | exact SeqAt.EqAt.none_tuple p2 hu0 | nofun)
  | bl b1 =>
    intro A hu y e u v h2 r1 r2
    cases r1
    have hu0 : A.units < cLine := Nat.lt_of_le_of_lt (Nat.le_add_right _ _) hu
    cases h2 with
    | non =>
      cases r2
      first | exact SeqAt.EqAt.bool_none b1 | (rw [deq] <;> first | exact SeqAt.EqAt.bool_none b1 | nofun)
    | bl b2 =>
      cases r2
      first | exact SeqAt.EqAt.bool_bool b1 b2 | (rw [deq] <;> first | exact SeqAt.EqAt.bool_bool b1 b2 | nofun)
    | int b2 =>
      obtain ⟨t2, rfl⟩ := r2
      first | exact SeqAt.EqAt.bool_int b1 b2 t2 | (rw [deq] <;> first | exact SeqAt.EqAt.bool_int b1 b2 t2 | nofun)
    | str b2 =>
      obtain ⟨t2, rfl⟩ := r2
      first | exact SeqAt.EqAt.bool_str b1 b2 t2 | (rw [deq] <;> first | exact SeqAt.EqAt.bool_str b1 b2 t2 | nofun)
    | @lst a2 xs2 ds2 q2 l2 i2 =>
      cases r2
      obtain ⟨its2, v2, p2, z2⟩ := I.list q2
      first | exact SeqAt.EqAt.bool_list b1 p2.isList hu0 | (rw [deq] <;> first | exact SeqAt.EqAt.bool_list b1 p2.isList hu0 | nofun)
    | @tup a2 xs2 ds2 q2 l2 i2 =>
      cases r2
      obtain ⟨its2, v2, p2, z2⟩ := I.tuple q2
      first | exact SeqAt.EqAt.bool_tuple b1 p2 hu0 | (rw [deq] <;> first | exact SeqAt.EqAt.bool_tuple b1 p2 hu0 | nofun)
  | int b1 =>
    intro A hu y e u v h2 r1 r2
    obtain ⟨t1, rfl⟩ := r1
    have hu0 : A.units < cLine := Nat.lt_of_le_of_lt (Nat.le_add_right _ _) hu
    cases h2 with
    | non =>
      cases r2
      first | exact SeqAt.EqAt.int_none b1 t1 | (rw [deq] <;> first | exact SeqAt.EqAt.int_none b1 t1 | nofun)
    | bl b2 =>
      cases r2
      first | exact SeqAt.EqAt.int_bool b1 t1 b2 | (rw [deq] <;> first | exact SeqAt.EqAt.int_bool b1 t1 b2 | nofun)
    | int b2 =>
      obtain ⟨t2, rfl⟩ := r2
      first | exact SeqAt.EqAt.int_int b1 t1 b2 t2 | (rw [deq] <;> first | exact SeqAt.EqAt.int_int b1 t1 b2 t2 | nofun)
    | str b2 =>
      obtain ⟨t2, rfl⟩ := r2
      first | exact SeqAt.EqAt.int_str b1 t1 b2 t2 | (rw [deq] <;> first | exact SeqAt.EqAt.int_str b1 t1 b2 t2 | nofun)
    | @lst a2 xs2 ds2 q2 l2 i2 =>
      cases r2
      obtain ⟨its2, v2, p2, z2⟩ := I.list q2
      first | exact SeqAt.EqAt.int_list b1 t1 p2.isList hu0 | (rw [deq] <;> first | exact SeqAt.EqAt.int_list b1 t1 p2.isList hu0 | nofun)
    | @tup a2 xs2 ds2 q2 l2 i2 =>
      cases r2
      obtain ⟨its2, v2, p2, z2⟩ := I.tuple q2
      first | exact SeqAt.EqAt.int_tuple b1 t1 p2 hu0 | (rw [deq] <;> first | exact SeqAt.EqAt.int_tuple b1 t1 p2 hu0 | nofun)
  | str b1 =>
    intro A hu y e u v h2 r1 r2
    obtain ⟨t1, rfl⟩ := r1
    have hu0 : A.units < cLine := Nat.lt_of_le_of_lt (Nat.le_add_right _ _) hu
    cases h2 with
    | non =>
      cases r2
      first | exact SeqAt.EqAt.str_none b1 t1 | (rw [deq] <;> first | exact SeqAt.EqAt.str_none b1 t1 | nofun)
    | bl b2 =>
      cases r2
      first | exact SeqAt.EqAt.str_bool b1 t1 b2 | (rw [deq] <;> first | exact SeqAt.EqAt.str_bool b1 t1 b2 | nofun)
    | int b2 =>
      obtain ⟨t2, rfl⟩ := r2
      first | exact SeqAt.EqAt.str_int b1 t1 b2 t2 | (rw [deq] <;> first | exact SeqAt.EqAt.str_int b1 t1 b2 t2 | nofun)
    | str b2 =>
      obtain ⟨t2, rfl⟩ := r2
      first | exact SeqAt.EqAt.str_str b1 t1 b2 t2 | (rw [deq] <;> first | exact SeqAt.EqAt.str_str b1 t1 b2 t2 | nofun)
    | @lst a2 xs2 ds2 q2 l2 i2 =>
      cases r2
      obtain ⟨its2, v2, p2, z2⟩ := I.list q2
      first | exact SeqAt.EqAt.str_list b1 t1 p2.isList hu0 | (rw [deq] <;> first | exact SeqAt.EqAt.str_list b1 t1 p2.isList hu0 | nofun)
    | @tup a2 xs2 ds2 q2 l2 i2 =>
      cases r2
      obtain ⟨its2, v2, p2, z2⟩ := I.tuple q2
      first | exact SeqAt.EqAt.str_tuple b1 t1 p2 hu0 | (rw [deq] <;> first | exact SeqAt.EqAt.str_tuple b1 t1 p2 hu0 | nofun)
  | @lst a1 xs1 ds1 q1 l1 i1 ih =>
    intro A hu y e u v h2 r1 r2
    cases r1
    have hu0 : A.units < cLine := Nat.lt_of_le_of_lt (Nat.le_add_right _ _) hu
    obtain ⟨its1, v1, p1, z1⟩ := I.list q1
    have n1 : its1.toArray.size = ds1.length := by rw [List.size_toArray, ← v1.length, l1]
    have hu1 : ∀ (i : Nat) (d : D), ds1[i]? = some d → A.in1.units + d.dep < cLine := fun i d h => by
      have e1 := deps_le h
      have e2 : A.units + (deps ds1 + 1) < cLine := by simpa only [D.dep] using hu
      show A.units + 1 + d.dep < cLine
      omega
    cases h2 with
    | non =>
      cases r2
      first | exact SeqAt.EqAt.list_none p1.isList hu0 | (rw [deq] <;> first | exact SeqAt.EqAt.list_none p1.isList hu0 | nofun)
    | bl b2 =>
      cases r2
      first | exact SeqAt.EqAt.list_bool b2 p1.isList hu0 | (rw [deq] <;> first | exact SeqAt.EqAt.list_bool b2 p1.isList hu0 | nofun)
    | int b2 =>
      obtain ⟨t2, rfl⟩ := r2
      first | exact SeqAt.EqAt.list_int b2 t2 p1.isList hu0 | (rw [deq] <;> first | exact SeqAt.EqAt.list_int b2 t2 p1.isList hu0 | nofun)
    | str b2 =>
      obtain ⟨t2, rfl⟩ := r2
      first | exact SeqAt.EqAt.list_str b2 t2 p1.isList hu0 | (rw [deq] <;> first | exact SeqAt.EqAt.list_str b2 t2 p1.isList hu0 | nofun)
    | @lst a2 xs2 ds2 q2 l2 i2 =>
      cases r2
      obtain ⟨its2, v2, p2, z2⟩ := I.list q2
      have n2 : its2.toArray.size = ds2.length := by rw [List.size_toArray, ← v2.length, l2]
      have it := items_D (X := X) (A := A.in1) v1 v2 l1 l2 (fun i x d ha hb => ih i x d ha hb (hu1 i d hb)) i2
      by_cases hne : a1 = a2
      · subst hne
        cases (IsD.lst q1 l1 i1).one I (IsD.lst q2 l2 i2)
        rw [deq_refl]
        exact SeqAt.EqAt.same _
      refine SeqAt.EqAt.of_refs hne ?_
      rw [deq]
      by_cases hlen : its1.toArray.size = its2.toArray.size
      · rw [deqs_all (by omega), ← n1]
        exact SeqAt.RcAt.lists p1.isList p2.isList hlen hu0 it
      · rw [deqs_len (by omega)]
        exact SeqAt.RcAt.lists_lengths p1.isList p2.isList (by simpa using hlen) hu0
    | @tup a2 xs2 ds2 q2 l2 i2 =>
      cases r2
      obtain ⟨its2, v2, p2, z2⟩ := I.tuple q2
      first | exact SeqAt.EqAt.list_tuple p1.isList p2 hu0 | (rw [deq] <;> first | exact SeqAt.EqAt.list_tuple p1.isList p2 hu0 | nofun)
  | @tup a1 xs1 ds1 q1 l1 i1 ih =>
    intro A hu y e u v h2 r1 r2
    cases r1
    have hu0 : A.units < cLine := Nat.lt_of_le_of_lt (Nat.le_add_right _ _) hu
    obtain ⟨its1, v1, p1, z1⟩ := I.tuple q1
    have n1 : its1.toArray.size = ds1.length := by rw [List.size_toArray, ← v1.length, l1]
    have hu1 : ∀ (i : Nat) (d : D), ds1[i]? = some d → A.in1.units + d.dep < cLine := fun i d h => by
      have e1 := deps_le h
      have e2 : A.units + (deps ds1 + 1) < cLine := by simpa only [D.dep] using hu
      show A.units + 1 + d.dep < cLine
      omega
    cases h2 with
    | non =>
      cases r2
      first | exact SeqAt.EqAt.tuple_none p1 hu0 | (rw [deq] <;> first | exact SeqAt.EqAt.tuple_none p1 hu0 | nofun)
    | bl b2 =>
      cases r2
      first | exact SeqAt.EqAt.tuple_bool b2 p1 hu0 | (rw [deq] <;> first | exact SeqAt.EqAt.tuple_bool b2 p1 hu0 | nofun)
    | int b2 =>
      obtain ⟨t2, rfl⟩ := r2
      first | exact SeqAt.EqAt.tuple_int b2 t2 p1 hu0 | (rw [deq] <;> first | exact SeqAt.EqAt.tuple_int b2 t2 p1 hu0 | nofun)
    | str b2 =>
      obtain ⟨t2, rfl⟩ := r2
      first | exact SeqAt.EqAt.tuple_str b2 t2 p1 hu0 | (rw [deq] <;> first | exact SeqAt.EqAt.tuple_str b2 t2 p1 hu0 | nofun)
    | @lst a2 xs2 ds2 q2 l2 i2 =>
      cases r2
      obtain ⟨its2, v2, p2, z2⟩ := I.list q2
      first | exact SeqAt.EqAt.tuple_list p1 p2.isList hu0 | (rw [deq] <;> first | exact SeqAt.EqAt.tuple_list p1 p2.isList hu0 | nofun)
    | @tup a2 xs2 ds2 q2 l2 i2 =>
      cases r2
      obtain ⟨its2, v2, p2, z2⟩ := I.tuple q2
      have n2 : its2.toArray.size = ds2.length := by rw [List.size_toArray, ← v2.length, l2]
      have it := items_D (X := X) (A := A.in1) v1 v2 l1 l2 (fun i x d ha hb => ih i x d ha hb (hu1 i d hb)) i2
      by_cases hne : a1 = a2
      · subst hne
        cases (IsD.tup q1 l1 i1).one I (IsD.tup q2 l2 i2)
        rw [deq_refl]
        exact SeqAt.EqAt.same _
      refine SeqAt.EqAt.of_refs hne ?_
      rw [deq]
      rw [← tup_D, ← n1, ← n2]
      exact SeqAt.RcAt.tuples p1 p2 hu0 it
theorem rcAt_D (I : Inv X pins σ H s) {A : Around} {x y : V} {d e : D} {u v : Value} (h : IsD X.K H x d) (h2 : IsD X.K H y e) (hu : A.units + d.dep < cLine) (r1 : RelV x u) (r2 : RelV y v) : SeqAt.RcAt A s u v (deq d e) := by
  cases h with
  | non =>
    cases r1
    have hu0 : A.units < cLine := Nat.lt_of_le_of_lt (Nat.le_add_right _ _) hu
    cases h2 with
    | non =>
      cases r2
      first | exact SeqAt.RcAt.none_none | (rw [deq] <;> first | exact SeqAt.RcAt.none_none | nofun)
    | bl b2 =>
      cases r2
      first | exact SeqAt.RcAt.none_bool b2 | (rw [deq] <;> first | exact SeqAt.RcAt.none_bool b2 | nofun)
    | int b2 =>
      obtain ⟨t2, rfl⟩ := r2
      first | exact SeqAt.RcAt.none_int b2 t2 | (rw [deq] <;> first | exact SeqAt.RcAt.none_int b2 t2 | nofun)
    | str b2 =>
      obtain ⟨t2, rfl⟩ := r2
      first | exact SeqAt.RcAt.none_str b2 t2 | (rw [deq] <;> first | exact SeqAt.RcAt.none_str b2 t2 | nofun)
    | @lst a2 xs2 ds2 q2 l2 i2 =>
      cases r2
      obtain ⟨its2, v2, p2, z2⟩ := I.list q2
      first | exact SeqAt.RcAt.none_list p2.isList hu0 | (rw [deq] <;> first | exact SeqAt.RcAt.none_list p2.isList hu0 | nofun)
    | @tup a2 xs2 ds2 q2 l2 i2 =>
      cases r2
      obtain ⟨its2, v2, p2, z2⟩ := I.tuple q2
      first | exact SeqAt.RcAt.none_tuple p2 hu0 | (rw [deq] <;> first | exact SeqAt.RcAt.none_tuple p2 hu0 | nofun)
  | bl b1 =>
    cases r1
    have hu0 : A.units < cLine := Nat.lt_of_le_of_lt (Nat.le_add_right _ _) hu
    cases h2 with
    | non =>
      cases r2
      first | exact SeqAt.RcAt.bool_none b1 | (rw [deq] <;> first | exact SeqAt.RcAt.bool_none b1 | nofun)
    | bl b2 =>
      cases r2
      first | exact SeqAt.RcAt.bool_bool b1 b2 | (rw [deq] <;> first | exact SeqAt.RcAt.bool_bool b1 b2 | nofun)
    | int b2 =>
      obtain ⟨t2, rfl⟩ := r2
      first | exact SeqAt.RcAt.bool_int b1 b2 t2 | (rw [deq] <;> first | exact SeqAt.RcAt.bool_int b1 b2 t2 | nofun)
    | str b2 =>
      obtain ⟨t2, rfl⟩ := r2
      first | exact SeqAt.RcAt.bool_str b1 b2 t2 | (rw [deq] <;> first | exact SeqAt.RcAt.bool_str b1 b2 t2 | nofun)
    | @lst a2 xs2 ds2 q2 l2 i2 =>
      cases r2
      obtain ⟨its2, v2, p2, z2⟩ := I.list q2
      first | exact SeqAt.RcAt.bool_list b1 p2.isList hu0 | (rw [deq] <;> first | exact SeqAt.RcAt.bool_list b1 p2.isList hu0 | nofun)
    | @tup a2 xs2 ds2 q2 l2 i2 =>
      cases r2
      obtain ⟨its2, v2, p2, z2⟩ := I.tuple q2
      first | exact SeqAt.RcAt.bool_tuple b1 p2 hu0 | (rw [deq] <;> first | exact SeqAt.RcAt.bool_tuple b1 p2 hu0 | nofun)
  | int b1 =>
    obtain ⟨t1, rfl⟩ := r1
    have hu0 : A.units < cLine := Nat.lt_of_le_of_lt (Nat.le_add_right _ _) hu
    cases h2 with
    | non =>
      cases r2
      first | exact SeqAt.RcAt.int_none b1 t1 | (rw [deq] <;> first | exact SeqAt.RcAt.int_none b1 t1 | nofun)
    | bl b2 =>
      cases r2
      first | exact SeqAt.RcAt.int_bool b1 t1 b2 | (rw [deq] <;> first | exact SeqAt.RcAt.int_bool b1 t1 b2 | nofun)
    | int b2 =>
      obtain ⟨t2, rfl⟩ := r2
      first | exact SeqAt.RcAt.int_int b1 t1 b2 t2 | (rw [deq] <;> first | exact SeqAt.RcAt.int_int b1 t1 b2 t2 | nofun)
    | str b2 =>
      obtain ⟨t2, rfl⟩ := r2
      first | exact SeqAt.RcAt.int_str b1 t1 b2 t2 | (rw [deq] <;> first | exact SeqAt.RcAt.int_str b1 t1 b2 t2 | nofun)
    | @lst a2 xs2 ds2 q2 l2 i2 =>
      cases r2
      obtain ⟨its2, v2, p2, z2⟩ := I.list q2
      first | exact SeqAt.RcAt.int_list b1 t1 p2.isList hu0 | (rw [deq] <;> first | exact SeqAt.RcAt.int_list b1 t1 p2.isList hu0 | nofun)
    | @tup a2 xs2 ds2 q2 l2 i2 =>
      cases r2
      obtain ⟨its2, v2, p2, z2⟩ := I.tuple q2
      first | exact SeqAt.RcAt.int_tuple b1 t1 p2 hu0 | (rw [deq] <;> first | exact SeqAt.RcAt.int_tuple b1 t1 p2 hu0 | nofun)
  | str b1 =>
    obtain ⟨t1, rfl⟩ := r1
    have hu0 : A.units < cLine := Nat.lt_of_le_of_lt (Nat.le_add_right _ _) hu
    cases h2 with
    | non =>
      cases r2
      first | exact SeqAt.RcAt.str_none b1 t1 | (rw [deq] <;> first | exact SeqAt.RcAt.str_none b1 t1 | nofun)
    | bl b2 =>
      cases r2
      first | exact SeqAt.RcAt.str_bool b1 t1 b2 | (rw [deq] <;> first | exact SeqAt.RcAt.str_bool b1 t1 b2 | nofun)
    | int b2 =>
      obtain ⟨t2, rfl⟩ := r2
      first | exact SeqAt.RcAt.str_int b1 t1 b2 t2 | (rw [deq] <;> first | exact SeqAt.RcAt.str_int b1 t1 b2 t2 | nofun)
    | str b2 =>
      obtain ⟨t2, rfl⟩ := r2
      first | exact SeqAt.RcAt.str_str b1 t1 b2 t2 | (rw [deq] <;> first | exact SeqAt.RcAt.str_str b1 t1 b2 t2 | nofun)
    | @lst a2 xs2 ds2 q2 l2 i2 =>
      cases r2
      obtain ⟨its2, v2, p2, z2⟩ := I.list q2
      first | exact SeqAt.RcAt.str_list b1 t1 p2.isList hu0 | (rw [deq] <;> first | exact SeqAt.RcAt.str_list b1 t1 p2.isList hu0 | nofun)
    | @tup a2 xs2 ds2 q2 l2 i2 =>
      cases r2
      obtain ⟨its2, v2, p2, z2⟩ := I.tuple q2
      first | exact SeqAt.RcAt.str_tuple b1 t1 p2 hu0 | (rw [deq] <;> first | exact SeqAt.RcAt.str_tuple b1 t1 p2 hu0 | nofun)
  | @lst a1 xs1 ds1 q1 l1 i1 =>
    cases r1
    have hu0 : A.units < cLine := Nat.lt_of_le_of_lt (Nat.le_add_right _ _) hu
    obtain ⟨its1, v1, p1, z1⟩ := I.list q1
    have n1 : its1.toArray.size = ds1.length := by rw [List.size_toArray, ← v1.length, l1]
    have hu1 : ∀ (i : Nat) (d : D), ds1[i]? = some d → A.in1.units + d.dep < cLine := fun i d h => by
      have e1 := deps_le h
      have e2 : A.units + (deps ds1 + 1) < cLine := by simpa only [D.dep] using hu
      show A.units + 1 + d.dep < cLine
      omega
    cases h2 with
    | non =>
      cases r2
      first | exact SeqAt.RcAt.list_none p1.isList hu0 | (rw [deq] <;> first | exact SeqAt.RcAt.list_none p1.isList hu0 | nofun)
    | bl b2 =>
      cases r2
      first | exact SeqAt.RcAt.list_bool b2 p1.isList hu0 | (rw [deq] <;> first | exact SeqAt.RcAt.list_bool b2 p1.isList hu0 | nofun)
    | int b2 =>
      obtain ⟨t2, rfl⟩ := r2
      first | exact SeqAt.RcAt.list_int b2 t2 p1.isList hu0 | (rw [deq] <;> first | exact SeqAt.RcAt.list_int b2 t2 p1.isList hu0 | nofun)
    | str b2 =>
      obtain ⟨t2, rfl⟩ := r2
      first | exact SeqAt.RcAt.list_str b2 t2 p1.isList hu0 | (rw [deq] <;> first | exact SeqAt.RcAt.list_str b2 t2 p1.isList hu0 | nofun)
    | @lst a2 xs2 ds2 q2 l2 i2 =>
      cases r2
      obtain ⟨its2, v2, p2, z2⟩ := I.list q2
      have n2 : its2.toArray.size = ds2.length := by rw [List.size_toArray, ← v2.length, l2]
      have it := items_D (X := X) (A := A.in1) v1 v2 l1 l2 (fun i x d ha hb => eqAt_D I (i1 i x d ha hb) (hu1 i d hb)) i2
      rw [deq]
      by_cases hlen : its1.toArray.size = its2.toArray.size
      · rw [deqs_all (by omega), ← n1]
        exact SeqAt.RcAt.lists p1.isList p2.isList hlen hu0 it
      · rw [deqs_len (by omega)]
        exact SeqAt.RcAt.lists_lengths p1.isList p2.isList (by simpa using hlen) hu0
    | @tup a2 xs2 ds2 q2 l2 i2 =>
      cases r2
      obtain ⟨its2, v2, p2, z2⟩ := I.tuple q2
      first | exact SeqAt.RcAt.list_tuple p1.isList p2 hu0 | (rw [deq] <;> first | exact SeqAt.RcAt.list_tuple p1.isList p2 hu0 | nofun)
  | @tup a1 xs1 ds1 q1 l1 i1 =>
    cases r1
    have hu0 : A.units < cLine := Nat.lt_of_le_of_lt (Nat.le_add_right _ _) hu
    obtain ⟨its1, v1, p1, z1⟩ := I.tuple q1
    have n1 : its1.toArray.size = ds1.length := by rw [List.size_toArray, ← v1.length, l1]
    have hu1 : ∀ (i : Nat) (d : D), ds1[i]? = some d → A.in1.units + d.dep < cLine := fun i d h => by
      have e1 := deps_le h
      have e2 : A.units + (deps ds1 + 1) < cLine := by simpa only [D.dep] using hu
      show A.units + 1 + d.dep < cLine
      omega
    cases h2 with
    | non =>
      cases r2
      first | exact SeqAt.RcAt.tuple_none p1 hu0 | (rw [deq] <;> first | exact SeqAt.RcAt.tuple_none p1 hu0 | nofun)
    | bl b2 =>
      cases r2
      first | exact SeqAt.RcAt.tuple_bool b2 p1 hu0 | (rw [deq] <;> first | exact SeqAt.RcAt.tuple_bool b2 p1 hu0 | nofun)
    | int b2 =>
      obtain ⟨t2, rfl⟩ := r2
      first | exact SeqAt.RcAt.tuple_int b2 t2 p1 hu0 | (rw [deq] <;> first | exact SeqAt.RcAt.tuple_int b2 t2 p1 hu0 | nofun)
    | str b2 =>
      obtain ⟨t2, rfl⟩ := r2
      first | exact SeqAt.RcAt.tuple_str b2 t2 p1 hu0 | (rw [deq] <;> first | exact SeqAt.RcAt.tuple_str b2 t2 p1 hu0 | nofun)
    | @lst a2 xs2 ds2 q2 l2 i2 =>
      cases r2
      obtain ⟨its2, v2, p2, z2⟩ := I.list q2
      first | exact SeqAt.RcAt.tuple_list p1 p2.isList hu0 | (rw [deq] <;> first | exact SeqAt.RcAt.tuple_list p1 p2.isList hu0 | nofun)
    | @tup a2 xs2 ds2 q2 l2 i2 =>
      cases r2
      obtain ⟨its2, v2, p2, z2⟩ := I.tuple q2
      have n2 : its2.toArray.size = ds2.length := by rw [List.size_toArray, ← v2.length, l2]
      have it := items_D (X := X) (A := A.in1) v1 v2 l1 l2 (fun i x d ha hb => eqAt_D I (i1 i x d ha hb) (hu1 i d hb)) i2
      rw [deq]
      rw [← tup_D, ← n1, ← n2]
      exact SeqAt.RcAt.tuples p1 p2 hu0 it
theorem rcNeAt_D (I : Inv X pins σ H s) {A : Around} {x y : V} {d e : D} {u v : Value} (h : IsD X.K H x d) (h2 : IsD X.K H y e) (hu : A.units + d.dep < cLine) (r1 : RelV x u) (r2 : RelV y v) : SeqAt.RcNeAt A s u v (!deq d e) := by
  cases h with
  | non =>
    cases r1
    have hu0 : A.units < cLine := Nat.lt_of_le_of_lt (Nat.le_add_right _ _) hu
    cases h2 with
    | non =>
      cases r2
      first | exact SeqAt.RcNeAt.none_none | (rw [deq] <;> first | exact SeqAt.RcNeAt.none_none | nofun)
    | bl b2 =>
      cases r2
      first | exact SeqAt.RcNeAt.none_bool b2 | (rw [deq] <;> first | exact SeqAt.RcNeAt.none_bool b2 | nofun)
    | int b2 =>
      obtain ⟨t2, rfl⟩ := r2
      first | exact SeqAt.RcNeAt.none_int b2 t2 | (rw [deq] <;> first | exact SeqAt.RcNeAt.none_int b2 t2 | nofun)
    | str b2 =>
      obtain ⟨t2, rfl⟩ := r2
      first | exact SeqAt.RcNeAt.none_str b2 t2 | (rw [deq] <;> first | exact SeqAt.RcNeAt.none_str b2 t2 | nofun)
    | @lst a2 xs2 ds2 q2 l2 i2 =>
      cases r2
      obtain ⟨its2, v2, p2, z2⟩ := I.list q2
      first | exact SeqAt.RcNeAt.none_list p2.isList hu0 | (rw [deq] <;> first | exact SeqAt.RcNeAt.none_list p2.isList hu0 | nofun)
    | @tup a2 xs2 ds2 q2 l2 i2 =>
      cases r2
      obtain ⟨its2, v2, p2, z2⟩ := I.tuple q2
      first | exact SeqAt.RcNeAt.none_tuple p2 hu0 | (rw [deq] <;> first | exact SeqAt.RcNeAt.none_tuple p2 hu0 | nofun)
  | bl b1 =>
    cases r1
    have hu0 : A.units < cLine := Nat.lt_of_le_of_lt (Nat.le_add_right _ _) hu
    cases h2 with
    | non =>
      cases r2
      first | exact SeqAt.RcNeAt.bool_none b1 | (rw [deq] <;> first | exact SeqAt.RcNeAt.bool_none b1 | nofun)
    | bl b2 =>
      cases r2
      first | exact SeqAt.RcNeAt.bool_bool b1 b2 | (rw [deq] <;> first | exact SeqAt.RcNeAt.bool_bool b1 b2 | nofun)
    | int b2 =>
      obtain ⟨t2, rfl⟩ := r2
      first | exact SeqAt.RcNeAt.bool_int b1 b2 t2 | (rw [deq] <;> first | exact SeqAt.RcNeAt.bool_int b1 b2 t2 | nofun)
    | str b2 =>
      obtain ⟨t2, rfl⟩ := r2
      first | exact SeqAt.RcNeAt.bool_str b1 b2 t2 | (rw [deq] <;> first | exact SeqAt.RcNeAt.bool_str b1 b2 t2 | nofun)
    | @lst a2 xs2 ds2 q2 l2 i2 =>
      cases r2
      obtain ⟨its2, v2, p2, z2⟩ := I.list q2
      first | exact SeqAt.RcNeAt.bool_list b1 p2.isList hu0 | (rw [deq] <;> first | exact SeqAt.RcNeAt.bool_list b1 p2.isList hu0 | nofun)
    | @tup a2 xs2 ds2 q2 l2 i2 =>
      cases r2
      obtain ⟨its2, v2, p2, z2⟩ := I.tuple q2
      first | exact SeqAt.RcNeAt.bool_tuple b1 p2 hu0 | (rw [deq] <;> first | exact SeqAt.RcNeAt.bool_tuple b1 p2 hu0 | nofun)
  | int b1 =>
    obtain ⟨t1, rfl⟩ := r1
    have hu0 : A.units < cLine := Nat.lt_of_le_of_lt (Nat.le_add_right _ _) hu
    cases h2 with
    | non =>
      cases r2
      first | exact SeqAt.RcNeAt.int_none b1 t1 | (rw [deq] <;> first | exact SeqAt.RcNeAt.int_none b1 t1 | nofun)
    | bl b2 =>
      cases r2
      first | exact SeqAt.RcNeAt.int_bool b1 t1 b2 | (rw [deq] <;> first | exact SeqAt.RcNeAt.int_bool b1 t1 b2 | nofun)
    | int b2 =>
      obtain ⟨t2, rfl⟩ := r2
      first | exact SeqAt.RcNeAt.int_int b1 t1 b2 t2 | (rw [deq] <;> first | exact SeqAt.RcNeAt.int_int b1 t1 b2 t2 | nofun)
    | str b2 =>
      obtain ⟨t2, rfl⟩ := r2
      first | exact SeqAt.RcNeAt.int_str b1 t1 b2 t2 | (rw [deq] <;> first | exact SeqAt.RcNeAt.int_str b1 t1 b2 t2 | nofun)
    | @lst a2 xs2 ds2 q2 l2 i2 =>
      cases r2
      obtain ⟨its2, v2, p2, z2⟩ := I.list q2
      first | exact SeqAt.RcNeAt.int_list b1 t1 p2.isList hu0 | (rw [deq] <;> first | exact SeqAt.RcNeAt.int_list b1 t1 p2.isList hu0 | nofun)
    | @tup a2 xs2 ds2 q2 l2 i2 =>
      cases r2
      obtain ⟨its2, v2, p2, z2⟩ := I.tuple q2
      first | exact SeqAt.RcNeAt.int_tuple b1 t1 p2 hu0 | (rw [deq] <;> first | exact SeqAt.RcNeAt.int_tuple b1 t1 p2 hu0 | nofun)
  | str b1 =>
    obtain ⟨t1, rfl⟩ := r1
    have hu0 : A.units < cLine := Nat.lt_of_le_of_lt (Nat.le_add_right _ _) hu
    cases h2 with
    | non =>
      cases r2
      first | exact SeqAt.RcNeAt.str_none b1 t1 | (rw [deq] <;> first | exact SeqAt.RcNeAt.str_none b1 t1 | nofun)
    | bl b2 =>
      cases r2
      first | exact SeqAt.RcNeAt.str_bool b1 t1 b2 | (rw [deq] <;> first | exact SeqAt.RcNeAt.str_bool b1 t1 b2 | nofun)
    | int b2 =>
      obtain ⟨t2, rfl⟩ := r2
      first | exact SeqAt.RcNeAt.str_int b1 t1 b2 t2 | (rw [deq] <;> first | exact SeqAt.RcNeAt.str_int b1 t1 b2 t2 | nofun)
    | str b2 =>
      obtain ⟨t2, rfl⟩ := r2
      first | exact SeqAt.RcNeAt.str_str b1 t1 b2 t2 | (rw [deq] <;> first | exact SeqAt.RcNeAt.str_str b1 t1 b2 t2 | nofun)
    | @lst a2 xs2 ds2 q2 l2 i2 =>
      cases r2
      obtain ⟨its2, v2, p2, z2⟩ := I.list q2
      first | exact SeqAt.RcNeAt.str_list b1 t1 p2.isList hu0 | (rw [deq] <;> first | exact SeqAt.RcNeAt.str_list b1 t1 p2.isList hu0 | nofun)
    | @tup a2 xs2 ds2 q2 l2 i2 =>
      cases r2
      obtain ⟨its2, v2, p2, z2⟩ := I.tuple q2
      first | exact SeqAt.RcNeAt.str_tuple b1 t1 p2 hu0 | (rw [deq] <;> first | exact SeqAt.RcNeAt.str_tuple b1 t1 p2 hu0 | nofun)
  | @lst a1 xs1 ds1 q1 l1 i1 =>
    cases r1
    have hu0 : A.units < cLine := Nat.lt_of_le_of_lt (Nat.le_add_right _ _) hu
    obtain ⟨its1, v1, p1, z1⟩ := I.list q1
    have n1 : its1.toArray.size = ds1.length := by rw [List.size_toArray, ← v1.length, l1]
    have hu1 : ∀ (i : Nat) (d : D), ds1[i]? = some d → A.in1.units + d.dep < cLine := fun i d h => by
      have e1 := deps_le h
      have e2 : A.units + (deps ds1 + 1) < cLine := by simpa only [D.dep] using hu
      show A.units + 1 + d.dep < cLine
      omega
    cases h2 with
    | non =>
      cases r2
      first | exact SeqAt.RcNeAt.list_none p1.isList hu0 | (rw [deq] <;> first | exact SeqAt.RcNeAt.list_none p1.isList hu0 | nofun)
    | bl b2 =>
      cases r2
      first | exact SeqAt.RcNeAt.list_bool b2 p1.isList hu0 | (rw [deq] <;> first | exact SeqAt.RcNeAt.list_bool b2 p1.isList hu0 | nofun)
    | int b2 =>
      obtain ⟨t2, rfl⟩ := r2
      first | exact SeqAt.RcNeAt.list_int b2 t2 p1.isList hu0 | (rw [deq] <;> first | exact SeqAt.RcNeAt.list_int b2 t2 p1.isList hu0 | nofun)
    | str b2 =>
      obtain ⟨t2, rfl⟩ := r2
      first | exact SeqAt.RcNeAt.list_str b2 t2 p1.isList hu0 | (rw [deq] <;> first | exact SeqAt.RcNeAt.list_str b2 t2 p1.isList hu0 | nofun)
    | @lst a2 xs2 ds2 q2 l2 i2 =>
      cases r2
      obtain ⟨its2, v2, p2, z2⟩ := I.list q2
      have n2 : its2.toArray.size = ds2.length := by rw [List.size_toArray, ← v2.length, l2]
      have it := items_D (X := X) (A := A.in1) v1 v2 l1 l2 (fun i x d ha hb => eqAt_D I (i1 i x d ha hb) (hu1 i d hb)) i2
      rw [deq]
      by_cases hlen : its1.toArray.size = its2.toArray.size
      · rw [deqs_all (by omega), ← n1]
        exact SeqAt.RcNeAt.lists p1.isList p2.isList hlen hu0 it
      · rw [deqs_len (by omega)]
        exact SeqAt.RcNeAt.lists_lengths p1.isList p2.isList (by simpa using hlen) hu0
    | @tup a2 xs2 ds2 q2 l2 i2 =>
      cases r2
      obtain ⟨its2, v2, p2, z2⟩ := I.tuple q2
      first | exact SeqAt.RcNeAt.list_tuple p1.isList p2 hu0 | (rw [deq] <;> first | exact SeqAt.RcNeAt.list_tuple p1.isList p2 hu0 | nofun)
  | @tup a1 xs1 ds1 q1 l1 i1 =>
    cases r1
    have hu0 : A.units < cLine := Nat.lt_of_le_of_lt (Nat.le_add_right _ _) hu
    obtain ⟨its1, v1, p1, z1⟩ := I.tuple q1
    have n1 : its1.toArray.size = ds1.length := by rw [List.size_toArray, ← v1.length, l1]
    have hu1 : ∀ (i : Nat) (d : D), ds1[i]? = some d → A.in1.units + d.dep < cLine := fun i d h => by
      have e1 := deps_le h
      have e2 : A.units + (deps ds1 + 1) < cLine := by simpa only [D.dep] using hu
      show A.units + 1 + d.dep < cLine
      omega
    cases h2 with
    | non =>
      cases r2
      first | exact SeqAt.RcNeAt.tuple_none p1 hu0 | (rw [deq] <;> first | exact SeqAt.RcNeAt.tuple_none p1 hu0 | nofun)
    | bl b2 =>
      cases r2
      first | exact SeqAt.RcNeAt.tuple_bool b2 p1 hu0 | (rw [deq] <;> first | exact SeqAt.RcNeAt.tuple_bool b2 p1 hu0 | nofun)
    | int b2 =>
      obtain ⟨t2, rfl⟩ := r2
      first | exact SeqAt.RcNeAt.tuple_int b2 t2 p1 hu0 | (rw [deq] <;> first | exact SeqAt.RcNeAt.tuple_int b2 t2 p1 hu0 | nofun)
    | str b2 =>
      obtain ⟨t2, rfl⟩ := r2
      first | exact SeqAt.RcNeAt.tuple_str b2 t2 p1 hu0 | (rw [deq] <;> first | exact SeqAt.RcNeAt.tuple_str b2 t2 p1 hu0 | nofun)
    | @lst a2 xs2 ds2 q2 l2 i2 =>
      cases r2
      obtain ⟨its2, v2, p2, z2⟩ := I.list q2
      first | exact SeqAt.RcNeAt.tuple_list p1 p2.isList hu0 | (rw [deq] <;> first | exact SeqAt.RcNeAt.tuple_list p1 p2.isList hu0 | nofun)
    | @tup a2 xs2 ds2 q2 l2 i2 =>
      cases r2
      obtain ⟨its2, v2, p2, z2⟩ := I.tuple q2
      have n2 : its2.toArray.size = ds2.length := by rw [List.size_toArray, ← v2.length, l2]
      have it := items_D (X := X) (A := A.in1) v1 v2 l1 l2 (fun i x d ha hb => eqAt_D I (i1 i x d ha hb) (hu1 i d hb)) i2
      rw [deq]
      rw [← tup_D, ← n1, ← n2]
      exact SeqAt.RcNeAt.tuples p1 p2 hu0 it
def rEqD (K : PySem.W.Frag) (neg : Bool) : R2 := fun x y H Q => ∃ d e, IsD K H x d ∧ IsD K H y e ∧ d.dep ≤ 60 ∧ Q (.bl (if neg = true then !deq d e else deq d e)) H
theorem op_eqD (hu : X.A.units + 64 < cLine) : OpR X (compareOp .Eq) (rEqD X.K false) := by
  intro pins s σ H x y v u Q I rx ry h
  obtain ⟨d, e, h1, h2, hd, q⟩ := h
  exact rcAt_D I h1 h2 (by omega) rx ry _ _ _ _ (fin_bl I q rfl)
theorem op_neD (hu : X.A.units + 64 < cLine) : OpR X (compareOp .NotEq) (rEqD X.K true) := by
  intro pins s σ H x y v u Q I rx ry h
  obtain ⟨d, e, h1, h2, hd, q⟩ := h
  exact rcNeAt_D I h1 h2 (by omega) rx ry _ _ _ _ (fin_bl I q rfl)
def fD : V → D
  | .non => .non
  | .bl b => .bl b
  | .int i => .int i
  | .str x => .str x
  | _ => .non
theorem IsD.flat {K : PySem.W.Frag} {x : V} (h : flatV x = true) : IsD K H x (fD x) := by
  cases x with
  | non => exact .non
  | bl b => exact .bl b
  | int i => exact .int i
  | str z => exact .str z
  | _ => exact absurd (show false = true from h) Bool.false_ne_true
theorem IsD.flatL {K : PySem.W.Frag} {a : Addr} {xs : List V} (h : SqL K H a xs) (hf : ∀ x ∈ xs, flatV x = true) : IsD K H (.ref a) (.lst (xs.map fD)) := by
  refine .lst h (by simp) fun i x d h1 h2 => ?_
  rw [List.getElem?_map, h1] at h2
  cases h2
  exact .flat (hf x (List.mem_of_getElem? h1))
theorem IsD.flatT {K : PySem.W.Frag} {a : Addr} {xs : List V} (h : SqT K H a xs) (hf : ∀ x ∈ xs, flatV x = true) : IsD K H (.ref a) (.tup (xs.map fD)) := by
  refine .tup h (by simp) fun i x d h1 h2 => ?_
  rw [List.getElem?_map, h1] at h2
  cases h2
  exact .flat (hf x (List.mem_of_getElem? h1))
theorem dep_flat (x : V) : (fD x).dep = 0 := by cases x <;> rfl
theorem deps_flat (xs : List V) : deps (xs.map fD) = 0 := by
  induction xs with
  | nil => rfl
  | cons x xs ih => rw [List.map_cons, deps, dep_flat, ih]; rfl
end
end L2
namespace L2
open PySem PySem.Spec PyProof.Rows
structure Ends.Le (D D' : Ends) : Prop where
  nx : ∀ σ H, D.nx σ H → D'.nx σ H
  rt : ∀ v H, D.rt v H → D'.rt v H
  bk : ∀ σ H, D.bk σ H → D'.bk σ H
  ct : ∀ σ H, D.ct σ H → D'.ct σ H
theorem Ends.Le.refl (D : Ends) : D.Le D := ⟨fun _ _ h => h, fun _ _ h => h, fun _ _ h => h, fun _ _ h => h⟩
theorem Ends.Le.trans {D E F : Ends} (a : D.Le E) (b : E.Le F) : D.Le F := ⟨fun σ H h => b.nx σ H (a.nx σ H h), fun σ H h => b.rt σ H (a.rt σ H h), fun σ H h => b.bk σ H (a.bk σ H h), fun σ H h => b.ct σ H (a.ct σ H h)⟩
def bodyT (X : Cx) (sts : List Stmt) : TS := fun D σ H => ∃ t D', PSs X sts t ∧ t D' σ H ∧ D'.Le D
theorem pss_bodyT {X : Cx} {sts : List Stmt} : PSs X sts (bodyT X sts) := fun pins s σ H D I h => by
  obtain ⟨t, D', h1, h2, le⟩ := h
  refine thn (h1 pins s σ H D' I h2) fun f s' h => ?_
  cases f with
  | next => obtain ⟨a, b, c, d⟩ := h; exact ⟨a, b, c, le.nx _ _ d⟩
  | brk => obtain ⟨a, b, c, d⟩ := h; exact ⟨a, b, c, le.bk _ _ d⟩
  | cont => obtain ⟨a, b, c, d⟩ := h; exact ⟨a, b, c, le.ct _ _ d⟩
  | ret u => obtain ⟨v, a, b, c, r, d⟩ := h; exact ⟨v, a, b, c, r, le.rt _ _ d⟩
theorem bodyT.of {X : Cx} {sts : List Stmt} {D : Ends} {σ : St} {H : Hp} {t : TS} (h : PSs X sts t) (q : t D σ H) : bodyT X sts D σ H := ⟨t, D, h, q, .refl D⟩
theorem bodyT.mono {X : Cx} {sts : List Stmt} {D D' : Ends} {σ : St} {H : Hp} (h : bodyT X sts D σ H) (le : D.Le D') : bodyT X sts D' σ H := by
  obtain ⟨t, E, h1, h2, l⟩ := h
  exact ⟨t, E, h1, h2, l.trans le⟩
def testT (X : Cx) (e : Expr) : TT := fun σ H Q => ∃ t Q', PT X e t ∧ t σ H Q' ∧ ∀ b H1, Q' b H1 → Q b H1
theorem testT.of {X : Cx} {e : Expr} {σ : St} {H : Hp} {Q : Bool → Hp → Prop} {t : TT} (h : PT X e t) (q : t σ H Q) : testT X e σ H Q := ⟨t, Q, h, q, fun _ _ h => h⟩
def forW (J : It) (g : TG) (tb : TS) (D : Ends) (σ : St) (H : Hp) : Prop := ∃ W : Nat → Nat → St → Hp → Prop, (∃ m, W 0 m σ H) ∧ ∀ i m σ H, W i m σ H →
  (J.stop i H ∧ D.nx σ H) ∨ (J.go i H ∧ ∃ N : St → Hp → Prop, (∀ σ' H', N σ' H' → ∃ m', m' < m ∧ W (i + 1) m' σ' H') ∧ ∀ x H', J.yld i H x H' → g x σ H' fun σ2 H2 => tb { D with nx := N, ct := N, bk := D.nx } σ2 H2)
def tForW (wi : TI) (g : TG) (tb : TS) : TS := fun D σ H => wi σ H fun J H1 => forW J g tb D σ H1
theorem ps_forW {X : Cx} {tg iter : Expr} {body : List Stmt} {wi : TI} {g : TG} {tb : TS} {pos : Pos} (hp : PassesOwn (model X.prog X.w) X.A X.env X.xe) (hc : X.calm = true) (hi : PI X tg iter wi) (hg : PG X tg g) (hb : PSs X body tb)
    (hs : ∀ x, foldedSetIterable iter X.env x = pure x := by intro _; rfl) : PS X (.For tg iter body [] pos) (tForW wi g tb) := ps_for hp hc hi hg hb hs
section
variable {K : PySem.W.Frag} {a : Addr} {p : Nat} {xs : List V} {lo : Int} {n : Nat} {g : TG} {tb : TS} {D : Ends} {σ : St} {H : Hp}
theorem fw_list (xs : List V) (Pv : Nat → St → Hp → Prop) (h0 : Pv 0 σ H) (hl : ∀ i σ H, i ≤ xs.length → Pv i σ H → SqL K H a xs)
    (hs : ∀ i x σ H, xs[i]? = some x → Pv i σ H → g x σ H fun σ2 H2 => tb { D with nx := Pv (i + 1), ct := Pv (i + 1), bk := D.nx } σ2 H2) (hd : ∀ σ H, Pv xs.length σ H → D.nx σ H) : forW (Itl K a) g tb D σ H := for_list Pv h0 hl hs hd
theorem fw_range (Pv : Nat → St → Hp → Prop) (h0 : Pv 0 σ H) (hs : ∀ i σ H, i < n → Pv i σ H → g (.int (lo + i)) σ H fun σ2 H2 => tb { D with nx := Pv (i + 1), ct := Pv (i + 1), bk := D.nx } σ2 H2) (hd : ∀ σ H, Pv n σ H → D.nx σ H) : forW (Itr lo n) g tb D σ H := for_range Pv h0 hs hd
theorem fw_enum (xs : List V) (Pv : Nat → St → Hp → Prop) (h0 : Pv 0 σ H) (hl : ∀ i σ H, i ≤ xs.length → Pv i σ H → SqL K H a xs)
    (hs : ∀ i x t σ H, xs[i]? = some x → Pv i σ H → H t = none → g (.ref t) σ (upd H t (.tup [.int ((p + i : Nat) : Int), x])) fun σ2 H2 => tb { D with nx := Pv (i + 1), ct := Pv (i + 1), bk := D.nx } σ2 H2) (hd : ∀ σ H, Pv xs.length σ H → D.nx σ H) : forW (Ite K a p) g tb D σ H := for_enum Pv h0 hl hs hd
end
def whileW (c : TT) (tb : TS) (D : Ends) (σ : St) (H : Hp) : Prop := tWhile c tb D σ H
def tWhileW (c : TT) (tb : TS) : TS := fun D σ H => whileW c tb D σ H
def stT (X : Cx) (st : Stmt) : TS := fun D σ H => ∃ t D', PS X st t ∧ t D' σ H ∧ D'.Le D
theorem ps_stT {X : Cx} {st : Stmt} : PS X st (stT X st) := fun pins s σ H D I h => by
  obtain ⟨t, D', h1, h2, le⟩ := h
  refine thn (h1 pins s σ H D' I h2) fun f s' h => ?_
  cases f with
  | next => obtain ⟨a, b, c, d⟩ := h; exact ⟨a, b, c, le.nx _ _ d⟩
  | brk => obtain ⟨a, b, c, d⟩ := h; exact ⟨a, b, c, le.bk _ _ d⟩
  | cont => obtain ⟨a, b, c, d⟩ := h; exact ⟨a, b, c, le.ct _ _ d⟩
  | ret u => obtain ⟨v, a, b, c, r, d⟩ := h; exact ⟨v, a, b, c, r, le.rt _ _ d⟩
theorem stT.of {X : Cx} {st : Stmt} {D : Ends} {σ : St} {H : Hp} {t : TS} (h : PS X st t) (q : t D σ H) : stT X st D σ H := ⟨t, D, h, q, .refl D⟩
theorem joinW {X : Cx} {st : Stmt} {D : Ends} {σ : St} {H : Hp} (M : St → Hp → Prop) (h : stT X st { D with nx := M } σ H) (q : ∀ σ H, M σ H → D.nx σ H) : stT X st D σ H := by
  obtain ⟨t, D', h1, h2, le⟩ := h
  exact ⟨t, D', h1, h2, fun σ H z => q σ H (le.nx σ H z), le.rt, le.bk, le.ct⟩
end L2
namespace L2
open PySem PySem.Spec PyProof.Rows
structure ClsFn (K : PySem.W.Frag) (C : Addr) (m : Str) (f : Addr) : Prop where
  sp : PySem.W.specialIn K (.ref C) "__getattribute__" = some (some (.builtin "type.__getattribute__"))
  rd : PySem.W.readsIn K C (.type "type") = true
  fd : PySem.W.findCls K (.ref C) (.type "type") m = some (.val (.ref f))
  kp : PySem.W.keepIn K (.ref f) = true
structure Tyc (K : PySem.W.Frag) (C : Addr) : Prop where
  ha : PySem.W.findIn K (.ref C) "__class__" = some (some (.builtin "object.__class__"))
  hn : PySem.W.specialIn K (.builtin "object.__class__") "__get__" = some (some (.builtin "getset_descriptor.__get__"))
  htk : PySem.W.takesIn K (.builtin "object.__class__") = some true
  hm : PySem.W.mroIn K C (.type "object") = some true
theorem Tyc.ty {K : PySem.W.Frag} {C a dx : Addr} {H : Hp} {fs : List (Str × V)} (t : Tyc K C) (c : Cls K C) (e : H a = some (.ins C dx fs)) : TyOf K H (.ref a) (.ref C) := .ins e c t.ha t.hn t.htk t.hm
def tMethV (L : List (Addr × Sp)) (m : Str) (dvs : List V) (E : XK) (ta : TE) (t : TA) : TE := fun σ H Q => ta σ H fun x H1 => ∃ a C dx fs, x = .ref a ∧ H1 a = some (.ins C dx fs) ∧ fs.lookup m = none ∧ ∃ sp, (C, sp) ∈ L ∧
  t σ H1 fun vs H2 => sp (x :: (vs ++ dvs)) H2 Q E
def VM (X : Cx) (CX : CXT) (m : Str) (ds : List Value) (q : Addr × Sp) : Prop := ∃ (f : Addr) (fd : FuncData) (ps : List Str) (k : Nat), Cls X.K q.1 ∧ Meth X.K q.1 m f ∧ FnOk X.prog X.w X.K X.mg X.base CX k f fd ps q.2 ∧ Room k X.A ∧ Binds X.K fd ps ds
section
variable {X : Cx} {CX : CXT} {k : Nat} {f C : Addr} {fd : FuncData} {ps : List Str} {sp : Sp} {dvs : List V} {ds : List Value} {E : XK} {x m : Str} {p pos apos : Pos} {e o : Expr} {es : List Expr} {ta : TE} {t : TA} {L : List (Addr × Sp)}
theorem pe_clsm {pl : Sem Bool} (he : PE X o (tC (.ref C))) (hm : ClsFn X.K C m f) (F : FnOk X.prog X.w X.K X.mg X.base CX k f fd ps sp) (hr : Room k X.A) (hb : Binds X.K fd ps ds) (hd : Vals dvs ds) (hx : Passes CX X E) (ha : PA X (e :: es) t)
    (hst : starEach (e :: es) X.env = (false, eval e X.env) :: starEach es X.env := by rfl) (hpl : (backTo pos (starEach es X.env)).any (·.1) = false := by rfl)
    (ht : eval (.Call (.Attribute o m apos) (e :: es) [] pos) X.env = (do
      let ov ← eval o X.env
      standAt apos.atName
      let (f, first) ← holding [ov] (getMethod ov m pl)
      callWith pos f first (backTo pos (starEach (e :: es) X.env)) (backToKw pos (keywordEach [] X.env))) := by rfl) :
    PE X (.Call (.Attribute o m apos) (e :: es) [] pos) (tCall sp dvs E t) := by
  intro pins s σ H Q I h
  refine PySem.W.methodCall_KW (pl := pl) (thn (he pins s σ H (fun v H1 => v = .ref C ∧ H1 = H) I ⟨rfl, rfl⟩) fun u s1 ⟨x, H1, I1, rx, ex, eH⟩ => ?_) ht
  subst ex
  subst eH
  obtain rfl : u = Value.ref C := rx
  refine PySem.W.method_cls I1.kIn hm.sp (PySem.W.cls_value I1.kIn hm.rd hm.fd rfl ?_)
  refine PySem.W.callWith_K (first := []) (h₀ := X.base) I.ok.mod.kin hm.kp (thn (ha pos pins _ σ _ _ (I1.tok _) h) fun us s2 ⟨vs, H2, I2, r, q2⟩ => ⟨I2.kIn, ?_⟩) hst hpl
  exact run_fn F hr hb hd hx I2 r q2
theorem pe_methV0 {pl : Sem Bool} (he : PE X o ta) (hL : ∀ q ∈ L, VM X CX m ds q) (hd : Vals dvs ds) (hx : Passes CX X E)
    (ht : eval (.Call (.Attribute o m apos) [] [] pos) X.env = (do
      let ov ← eval o X.env
      standAt apos.atName
      let (f, first) ← holding [ov] (getMethod ov m pl)
      callWith pos f first (backTo pos (starEach [] X.env)) (backToKw pos (keywordEach [] X.env))) := by rfl) :
    PE X (.Call (.Attribute o m apos) [] [] pos) (tMethV L m dvs E ta tNil) := by
  intro pins s σ H Q I h
  refine PySem.W.methodCall_KW (pl := pl) (thn (he pins s σ H _ I h) fun u s1 ⟨x, H1, I1, rx, a, C, dx, fs, ex, ea, l, sp, hC, q⟩ => ?_) ht
  subst ex
  obtain rfl : u = Value.ref a := rx
  obtain ⟨f, fd, ps, k, c, hm, F, hr, hb⟩ := hL _ hC
  refine getmeth_ok I1 ea c hm l ?_
  exact PySem.W.callWith_K0 (first := [.ref a]) I1.kIn hm.kp (run_fn (us := [.ref a]) (vs := [.ref a]) F hr hb hd hx I1 (.cons rfl .nil) q)
theorem call_isinstC : CallR X (.builtin "isinstance") (fun xs H Q => ∃ x C t b, xs = [x, .ref C] ∧ TyOf X.K H x t ∧ PySem.W.kitOne X.K t (.ref C) = some b ∧ Q (.bl b) H) := by
  intro pins s σ H xs us Q I r h
  obtain ⟨x, n, t, b, rfl, ty, e, q⟩ := h
  obtain ⟨u, w', rfl, r1, r2⟩ := vals2 r
  cases (show w' = Value.ref n from r2)
  exact isinst_ok I r1 ty e fun tk => ⟨.bl b, H, I.tok _, rfl, q⟩
end
theorem Same.seqT {K : PySem.W.Frag} {H H' : Hp} (k : Same H H') {a : Addr} {xs : List V} (h : SqT K H a xs) : SqT K H' a xs := by
  rcases h with (h | ⟨o, h⟩) | h
  · exact .inl (.inl (k _ _ h))
  · exact .inl (.inr ⟨o, k _ _ h⟩)
  · exact .inr h
theorem gN {i : Nat} {v : V} {σ : St} {H : Hp} {Q : St → Hp → Prop} (h : Q (σ.set i (some v)) H) : gName i v σ H Q := h
section
variable {K : PySem.W.Frag} {a D : Addr} {fr : List Nat} {tt : TT} {te : TE} {σ : St} {Q : Hp → Prop} {H : Hp}
def lcS (D : Addr) (Pv : Nat → List V → Hp → Prop) (n m i : Nat) : VK := fun y H4 => ∃ ys, H4 D = some (.lst ys) ∧ ys.length < sizeLine ∧ ∃ m', m' < m ∧ (m' + (i + 1) = n ∧ ∃ zs, Pv (i + 1) zs (upd H4 D (.lst (ys ++ [y]))))
def lcK (Pv : Nat → List V → Hp → Prop) (n m i : Nat) (H3 : Hp) : Prop := ∃ m', m' < m ∧ (m' + (i + 1) = n ∧ ∃ zs, Pv (i + 1) zs H3)
theorem lcS.mk {Pv : Nat → List V → Hp → Prop} {n m i : Nat} {y : V} {H4 : Hp} {ys : List V} (hm : m + 1 + i = n) (h : H4 D = some (.lst ys)) (hz : ys.length ≤ 1000) (p : Pv (i + 1) (ys ++ [y]) (upd H4 D (.lst (ys ++ [y])))) : lcS D Pv n (m + 1) i y H4 :=
  ⟨ys, h, small1000 hz, m, by omega, by omega, _, p⟩
theorem lcK.mk {Pv : Nat → List V → Hp → Prop} {n m i : Nat} {H3 : Hp} {ys : List V} (hm : m + 1 + i = n) (p : Pv (i + 1) ys H3) : lcK Pv n (m + 1) i H3 := ⟨m, by omega, by omega, _, p⟩
theorem lcr {lo : Int} {n : Nat} (Pv : Nat → List V → Hp → Prop) (h0 : Pv 0 [] H)
    (hs : ∀ i m ys H, m + 1 + i = n → i < n → Pv i ys H → tt (lcSlots fr σ (some (.int (lo + i)))) H fun b H3 => if b = true then te (lcSlots fr σ (some (.int (lo + i)))) H3 (lcS D Pv n (m + 1) i) else lcK Pv n (m + 1) i H3)
    (hq : ∀ ys H, Pv n ys H → Q H) : lcLoop (Itr lo n) fr tt te σ D Q H := by
  refine ⟨fun i m H2 => m + i = n ∧ ∃ ys, Pv i ys H2, ⟨n, rfl, [], h0⟩, ?_⟩
  rintro i m H2 ⟨hm, ys, hp⟩
  cases m with
  | zero =>
    have e : i = n := by omega
    subst e
    exact .inl ⟨Nat.le_refl _, hq ys H2 hp⟩
  | succ m =>
    have hi : i < n := by omega
    refine .inr ⟨hi, fun v H' y => ?_⟩
    obtain ⟨rfl, rfl⟩ := y
    exact hs i m ys H' hm hi hp
end
end L2
namespace L2
open PySem PySem.Spec PyProof.Rows
inductive TyS (K : PySem.W.Frag) (H : Hp) : V → Value → Prop where
  | ty {x : V} {t : Value} (h : TyOf K H x t) : TyS K H x t
  | lst {a : Addr} {xs : List V} (h : SqL K H a xs) : TyS K H (.ref a) (.type "list")
  | tup {a : Addr} {xs : List V} (h : SqT K H a xs) : TyS K H (.ref a) (.type "tuple")
theorem call_isinstS {X : Cx} : CallR X (.builtin "isinstance") (fun xs H Q => ∃ x n t b, xs = [x, .ty n] ∧ TyS X.K H x t ∧ PySem.W.kitOne X.K t (.type n) = some b ∧ Q (.bl b) H) := by
  intro pins s σ H xs us Q I r h
  obtain ⟨x, n, t, b, rfl, ty, e, q⟩ := h
  obtain ⟨u, w', rfl, r1, r2⟩ := vals2 r
  cases (show w' = Value.type n from r2)
  cases ty with
  | ty h => exact isinst_ok I r1 h e fun tk => ⟨.bl b, H, I.tok _, rfl, q⟩
  | @lst a ys h =>
    cases (show u = Value.ref a from r1)
    obtain ⟨its, _, ⟨o, n, h1, h2, _⟩, _⟩ := I.list h
    exact PySem.W.kia_one PySem.W.kitx_list I.kIn ⟨o, h1, h2⟩ e (fun z => nomatch z) fun tk => ⟨.bl b, H, I.tok _, rfl, q⟩
  | @tup a ys h =>
    cases (show u = Value.ref a from r1)
    obtain ⟨its, _, ⟨o, h1, h2, _⟩, _⟩ := I.tuple h
    exact PySem.W.kia_one PySem.W.kitx_tuple I.kIn ⟨o, h1, h2⟩ e (fun z => nomatch z) fun tk => ⟨.bl b, H, I.tok _, rfl, q⟩
end L2
namespace L2
open PySem PySem.Spec PyProof.Rows
section
variable {κ : Type} [DecidableEq κ]
def valV (kvs : List (κ × V)) (k : κ) : Option V := (kvs.find? fun kv => decide (kv.1 = k)).map (·.2)
def putK (kvs : List (κ × V)) (k : κ) (v : V) : List (κ × V) :=
  if (kvs.any fun kv => decide (kv.1 = k)) = true then kvs.map (fun kv => if kv.1 = k then (kv.1, v) else kv) else kvs ++ [(k, v)]
def dropK (kvs : List (κ × V)) (k : κ) : List (κ × V) := kvs.filter fun kv => decide (kv.1 ≠ k)
theorem valV_pos {p : κ × V} {r : List (κ × V)} {k : κ} (e : p.1 = k) : valV (p :: r) k = some p.2 := by simp [valV, List.find?_cons, e]
theorem valV_neg {p : κ × V} {r : List (κ × V)} {k : κ} (e : ¬ p.1 = k) : valV (p :: r) k = valV r k := by simp [valV, List.find?_cons, e]
theorem valV_any (k : κ) : ∀ kvs : List (κ × V), (kvs.any fun kv => decide (kv.1 = k)) = (valV kvs k).isSome
  | [] => rfl
  | p :: r => by
    rw [List.any_cons]
    by_cases e : p.1 = k
    · simp only [valV_pos e, decide_eq_true e, Bool.true_or, Option.isSome_some]
    · rw [valV_neg e, decide_eq_false e, Bool.false_or]; exact valV_any k r
theorem valV_map (k j : κ) (y : V) : ∀ kvs : List (κ × V), valV (kvs.map fun kv => if kv.1 = k then (kv.1, y) else kv) j = (valV kvs j).map fun x => if j = k then y else x
  | [] => rfl
  | p :: r => by
    have ih := valV_map k j y r
    rw [List.map_cons]
    by_cases h : p.1 = k
    · rw [if_pos h]
      by_cases e : p.1 = j
      · rw [valV_pos (p := (p.1, y)) e, valV_pos e, Option.map_some, if_pos (e.symm.trans h)]
      · rw [valV_neg (p := (p.1, y)) e, valV_neg e, ih]
    · rw [if_neg h]
      by_cases e : p.1 = j
      · rw [valV_pos (p := p) e, valV_pos e, Option.map_some, if_neg (fun z => h (e.trans z))]
      · rw [valV_neg (p := p) e, valV_neg e, ih]
theorem valV_snoc (k j : κ) (y : V) : ∀ kvs : List (κ × V), valV kvs k = none → valV (kvs ++ [(k, y)]) j = if j = k then some y else valV kvs j
  | [], _ => by
    by_cases e : k = j
    · rw [if_pos e.symm]; exact valV_pos (p := (k, y)) e
    · rw [if_neg (fun z => e z.symm)]; exact valV_neg (p := (k, y)) e
  | p :: r, hn => by
    rw [List.cons_append]
    have hk : ¬ p.1 = k := fun z => by rw [valV_pos z] at hn; cases hn
    rw [valV_neg hk] at hn
    have ih := valV_snoc k j y r hn
    by_cases e : p.1 = j
    · rw [valV_pos e, valV_pos e, if_neg (fun z => hk (e.trans z))]
    · rw [valV_neg e, valV_neg e, ih]
theorem valV_put (kvs : List (κ × V)) (k j : κ) (y : V) : valV (putK kvs k y) j = if j = k then some y else valV kvs j := by
  unfold putK
  by_cases a : (kvs.any fun kv => decide (kv.1 = k)) = true
  · rw [if_pos a, valV_map]
    rw [valV_any] at a
    by_cases e : j = k
    · obtain ⟨x, hx⟩ := Option.isSome_iff_exists.mp a
      rw [if_pos e, e, hx, Option.map_some, if_pos rfl]
    · rw [if_neg e]
      cases valV kvs j with
      | none => rfl
      | some x => rw [Option.map_some, if_neg e]
  · rw [if_neg a]
    refine valV_snoc k j y kvs ?_
    rw [valV_any] at a
    cases q : valV kvs k with
    | none => rfl
    | some x => rw [q] at a; exact (a rfl).elim
theorem length_putK (kvs : List (κ × V)) (k : κ) (v : V) : (putK kvs k v).length ≤ kvs.length + 1 := by
  unfold putK
  split
  · rw [List.length_map]; omega
  · rw [List.length_append, List.length_cons, List.length_nil]; omega
theorem putK_new {kvs : List (κ × V)} {k : κ} (v : V) (h : valV kvs k = none) : putK kvs k v = kvs ++ [(k, v)] := by
  unfold putK
  rw [valV_any, h]
  exact if_neg (by decide)
theorem RelO.isSome_eq {o : Option V} {u : Option Value} (r : RelO o u) : o.isSome = u.isSome := by
  cases o with
  | none => cases u with
    | none => rfl
    | some _ => exact (show False from r).elim
  | some _ => cases u with
    | none => exact (show False from r).elim
    | some _ => rfl
theorem RelO.getD {o : Option V} {u : Option Value} {d : V} {d' : Value} (r : RelO o u) (rd : RelV d d') : RelV (o.getD d) (u.getD d') := by
  cases o with
  | none => cases u with
    | none => exact rd
    | some _ => exact (show False from r).elim
  | some _ => cases u with
    | none => exact (show False from r).elim
    | some _ => exact r
theorem KV.val {kvs : List (κ × V)} {vs : List (κ × Value)} (r : KV kvs vs) (k : κ) : RelO (valV kvs k) (valueAt vs k) := by
  unfold KV at r
  induction r with
  | nil => exact True.intro
  | @cons p q ps qs h t ih =>
    obtain ⟨h1, h2⟩ := h
    by_cases e : p.1 = k
    · have e' : q.1 = k := h1.symm.trans e
      have b : valueAt (q :: qs) k = some q.2 := by simp [valueAt, List.find?_cons, e']
      rw [valV_pos e, b]; exact h2
    · have e' : ¬ q.1 = k := fun z => e (h1.trans z)
      have b : valueAt (q :: qs) k = valueAt qs k := by simp [valueAt, List.find?_cons, e']
      rw [valV_neg e, b]; exact ih
theorem KV.any {kvs : List (κ × V)} {vs : List (κ × Value)} (r : KV kvs vs) (k : κ) : (kvs.any fun kv => decide (kv.1 = k)) = vs.any fun kv => decide (kv.1 = k) := by
  unfold KV at r
  induction r with
  | nil => rfl
  | cons h t ih => rw [List.any_cons, List.any_cons, ih, h.1]
theorem KV.repl {kvs : List (κ × V)} {vs : List (κ × Value)} (r : KV kvs vs) (k : κ) {y : V} {u : Value} (ry : RelV y u) :
    KV (kvs.map fun kv => if kv.1 = k then (kv.1, y) else kv) (vs.map fun kv => if kv.1 = k then (kv.1, u) else kv) := by
  unfold KV at r ⊢
  induction r with
  | nil => exact .nil
  | @cons p q ps qs h t ih =>
    rw [List.map_cons, List.map_cons]
    refine .cons ?_ ih
    obtain ⟨h1, h2⟩ := h
    by_cases e : p.1 = k
    · rw [if_pos e, if_pos (h1.symm.trans e)]; exact ⟨h1, ry⟩
    · rw [if_neg e, if_neg (fun z => e (h1.trans z))]; exact ⟨h1, h2⟩
theorem KV.put {kvs : List (κ × V)} {vs : List (κ × Value)} (r : KV kvs vs) (k : κ) {y : V} {u : Value} (ry : RelV y u) : KV (putK kvs k y) (stored vs k u) := by
  unfold putK stored
  rw [r.any k]
  by_cases e : (vs.any fun kv => decide (kv.1 = k)) = true
  · rw [if_pos e, if_pos e]; exact r.repl k ry
  · rw [if_neg e, if_neg e]; exact Paired.snoc r ⟨rfl, ry⟩
theorem KV.drop {kvs : List (κ × V)} {vs : List (κ × Value)} (r : KV kvs vs) (k : κ) : KV (dropK kvs k) (without vs k) := by
  unfold KV at r ⊢
  unfold dropK without
  induction r with
  | nil => exact .nil
  | @cons p q ps qs h t ih =>
    obtain ⟨h1, h2⟩ := h
    rw [List.filter_cons, List.filter_cons]
    by_cases e : p.1 = k
    · have a : ¬ decide (p.1 ≠ k) = true := by simp [e]
      have b : ¬ decide (q.1 ≠ k) = true := by simp [h1.symm.trans e]
      rw [if_neg a, if_neg b]; exact ih
    · have e' : ¬ q.1 = k := fun z => e (h1.trans z)
      have a : decide (p.1 ≠ k) = true := by simp [e]
      have b : decide (q.1 ≠ k) = true := by simp [e']
      rw [if_pos a, if_pos b]; exact .cons ⟨h1, h2⟩ ih
theorem KV.length {kvs : List (κ × V)} {vs : List (κ × Value)} (r : KV kvs vs) : kvs.length = vs.length := Paired.length r
theorem dropK_le (kvs : List (κ × V)) (k : κ) : (dropK kvs k).length ≤ kvs.length := List.length_filter_le _ _
end
theorem kV_is {P : Program} {w : World} {k : Key} {u : Value} (r : RelV (kV k) u) : (mixKind P w).is k u = true := by
  cases k with
  | inl i => obtain ⟨t, e⟩ := (show ∃ t, u = Value.int i t from r); subst e; exact mixKind_int P w i t
  | inr x => obtain ⟨t, e⟩ := (show ∃ t, u = Value.str x t from r); subst e; exact mixKind_str P w x t
theorem items_are {P : Program} {w : World} : ∀ {ks : List Key} {us : List Value}, Vals (ks.map kV) us → ItemsAre (mixKind P w) ks us
  | [], _, r => by rw [List.map_nil] at r; cases r; exact .nil
  | k :: ks, _, r => by
    rw [List.map_cons] at r
    cases r with
    | cons h t => exact .cons (kV_is h) (items_are t)
abbrev KT (H : Hp) : List (List Key × V) → List (List Key × Addr × Value) → Prop := Paired fun p q => p.1 = q.1 ∧ H q.2.1 = some (.tup (p.1.map kV)) ∧ RelV p.2 q.2.2
theorem KT.val {H : Hp} {kvs : List (List Key × V)} {xs : List (List Key × Addr × Value)} (r : KT H kvs xs) (k : List Key) : RelO (valV kvs k) ((atKey xs k).map (·.2)) := by
  induction r with
  | nil => exact True.intro
  | @cons p q ps qs h t ih =>
    obtain ⟨h1, _, h2⟩ := h
    by_cases e : p.1 = k
    · have e' : q.1 = k := h1.symm.trans e
      have b : atKey (q :: qs) k = some q.2 := by simp [atKey, List.find?_cons, e']
      rw [valV_pos e, b]; exact h2
    · have e' : ¬ q.1 = k := fun z => e (h1.trans z)
      have b : atKey (q :: qs) k = atKey qs k := by simp [atKey, List.find?_cons, e']
      rw [valV_neg e, b]; exact ih
theorem KT.repl {H : Hp} {kvs : List (List Key × V)} {xs : List (List Key × Addr × Value)} (r : KT H kvs xs) (k : List Key) {y : V} {u : Value} (ry : RelV y u) :
    KT H (kvs.map fun kv => if kv.1 = k then (kv.1, y) else kv) (xs.map (putAt k u)) := by
  induction r with
  | nil => exact .nil
  | @cons p q ps qs h t ih =>
    rw [List.map_cons, List.map_cons]
    refine .cons ?_ ih
    obtain ⟨h1, h2, h3⟩ := h
    unfold putAt
    by_cases e : p.1 = k
    · rw [if_pos e, if_pos (h1.symm.trans e)]; exact ⟨h1, h2, ry⟩
    · rw [if_neg e, if_neg (fun z => e (h1.trans z))]; exact ⟨h1, h2, h3⟩
theorem KT.put {H : Hp} {kvs : List (List Key × V)} {xs : List (List Key × Addr × Value)} (r : KT H kvs xs) (k : List Key) {b : Addr} {y : V} {u : Value} (hb : H b = some (.tup (k.map kV))) (ry : RelV y u) :
    KT H (putK kvs k y) (storedH xs k b u) := by
  have e : (kvs.any fun kv => decide (kv.1 = k)) = (atKey xs k).isSome := by
    rw [valV_any, (r.val k).isSome_eq, Option.isSome_map]
  unfold putK storedH
  rw [e]
  by_cases q : (atKey xs k).isSome = true
  · rw [if_pos q, if_pos q]; exact r.repl k ry
  · rw [if_neg q, if_neg q]; exact Paired.snoc r ⟨rfl, hb, ry⟩
theorem KT.keeps {H H' : Hp} {kvs : List (List Key × V)} {xs : List (List Key × Addr × Value)} (r : KT H kvs xs) (ht : ∀ b ys, H b = some (.tup ys) → H' b = some (.tup ys)) : KT H' kvs xs :=
  Paired.mapP r fun _ _ z => ⟨z.1, ht _ _ z.2.1, z.2.2⟩
section
variable {P : Program} {w : World} {H : Hp} {h : Heap} {a : Addr}
theorem rd_of {u : HO} (ok : HOk P w H h) (e : Rd H a u) : ObjOk P w H h a u := e.ok ok
theorem dk_rd {kvs : List (Key × V)} (ok : HOk P w H h) (e : Rd H a (.dK kvs)) : kvs.length ≤ sizeLine ∧ (a == sysModules) = false ∧ ∃ vs, KV kvs vs ∧ h.DictOf (mixKind P w) a vs :=
  show ObjOk P w H h a (.dK kvs) from rd_of ok e
theorem dk_of {kvs : List (Key × V)} (ok : HOk P w H h) (e : H a = some (.dK kvs)) : kvs.length ≤ sizeLine ∧ (a == sysModules) = false ∧ ∃ vs, KV kvs vs ∧ h.DictOf (mixKind P w) a vs := dk_rd ok (.inl e)
theorem key_of {ks : List Key} (ok : HOk P w H h) (e : H a = some (.tup (ks.map kV))) : (tupleKind (mixKind P w)).is h ks a := by
  obtain ⟨_, its, r, o, h1, h2, n, h3⟩ := (show ObjOk P w H h a (.tup (ks.map kV)) from ok a _ e)
  exact ⟨o, its.toArray, n, h1, h2, h3, by simpa using items_are r⟩
theorem dt_rd {kvs : List (List Key × V)} (ok : HOk P w H h) (e : Rd H a (.dT kvs)) : kvs.length ≤ sizeLine ∧ (a == sysModules) = false ∧
    ∃ xs, KT H kvs xs ∧ h.DictOfH (tupleKind (mixKind P w)) a xs := by
  obtain ⟨z, y, xs, r, o, es, ep, h1, h2, h3, h4, h5⟩ := (show ObjOk P w H h a (.dT kvs) from rd_of ok e)
  refine ⟨z, y, xs, r, o, es, ep, h1, h2, h3, h4, fun x hx => ?_, h5⟩
  have all : ∀ {l : List (List Key × V)} {m : List (List Key × Addr × Value)}, KT H l m → ∀ x ∈ m, (tupleKind (mixKind P w)).is h x.1 x.2.1 := by
    intro l m q
    induction q with
    | nil => intro x hx; exact nomatch hx
    | @cons p q ps qs hq t ih =>
      intro x hx
      rcases List.mem_cons.mp hx with e | hx
      · subst e
        exact key_of ok (by rw [← hq.1]; exact hq.2.1)
      · exact ih x hx
  exact all r x hx
theorem dt_of {kvs : List (List Key × V)} (ok : HOk P w H h) (e : H a = some (.dT kvs)) : kvs.length ≤ sizeLine ∧ (a == sysModules) = false ∧
    ∃ xs, KT H kvs xs ∧ h.DictOfH (tupleKind (mixKind P w)) a xs := dt_rd ok (.inl e)
end
def DGet (H : Hp) (a : Addr) (y : V) (r : Option V) : Prop :=
  (∃ kvs k, Rd H a (.dK kvs) ∧ y = kV k ∧ r = valV kvs k) ∨ ∃ kvs k b, Rd H a (.dT kvs) ∧ y = .ref b ∧ H b = some (.tup (k.map kV)) ∧ r = valV kvs k
def DPut (H : Hp) (a : Addr) (y v : V) (H' : Hp) : Prop :=
  (∃ kvs k, H a = some (.dK kvs) ∧ y = kV k ∧ kvs.length < sizeLine ∧ H' = upd H a (.dK (putK kvs k v))) ∨
  ∃ kvs k b, H a = some (.dT kvs) ∧ y = .ref b ∧ H b = some (.tup (k.map kV)) ∧ kvs.length < sizeLine ∧ H' = upd H a (.dT (putK kvs k v))
theorem DGet.k {H : Hp} {a : Addr} {kvs : List (Key × V)} {k : Key} (e : H a = some (.dK kvs)) : DGet H a (kV k) (valV kvs k) := .inl ⟨kvs, k, .inl e, rfl, rfl⟩
theorem DGet.t {H : Hp} {a b : Addr} {kvs : List (List Key × V)} {k : List Key} (e : H a = some (.dT kvs)) (eb : H b = some (.tup (k.map kV))) : DGet H a (.ref b) (valV kvs k) := .inr ⟨kvs, k, b, .inl e, rfl, eb, rfl⟩
theorem DPut.k {H : Hp} {a : Addr} {kvs : List (Key × V)} {k : Key} {v : V} (e : H a = some (.dK kvs)) (hl : kvs.length < sizeLine) : DPut H a (kV k) v (upd H a (.dK (putK kvs k v))) := .inl ⟨kvs, k, e, rfl, hl, rfl⟩
theorem DPut.t {H : Hp} {a b : Addr} {kvs : List (List Key × V)} {k : List Key} {v : V} (e : H a = some (.dT kvs)) (eb : H b = some (.tup (k.map kV))) (hl : kvs.length < sizeLine) :
    DPut H a (.ref b) v (upd H a (.dT (putK kvs k v))) := .inr ⟨kvs, k, b, e, rfl, eb, hl, rfl⟩
section
variable {X : Cx} {pins : List (Addr × Obj)} {σ : St} {H : Hp} {s : Shared} {a : Addr} {y v : V} {u r : Value} {o : Option V} {A : Around} {E : Value → Shared → Prop}
theorem Inv.big (I : Inv X pins σ H s) : sysModules < s.heap.objs.size := by
  have h : mainGlobals < s.heap.objs.size := (I.mod.glob.keeps I.bk).lt
  exact Nat.lt_trans (by decide) h
theorem d_getItem {Q : Value → Shared → Prop} (hu : A.units + 1 < cLine) (I : Inv X pins σ H s) (g : DGet H a y (some v)) (ry : RelV y u) (h : ∀ w' s', Inv X pins σ H s' → RelV v w' → Q w' s') :
    wpAny (model X.prog X.w) A (getItem (.ref a) u) Q E s := by
  rcases g with ⟨kvs, k, e, ey, l⟩ | ⟨kvs, k, b, e, ey, eb, l⟩
  · subst ey
    obtain ⟨z, hd, vs, rel, dd⟩ := dk_rd I.hok e
    obtain ⟨w', hw, rw'⟩ := RelO.some_of (v := v) (o := valueAt vs k) (by rw [l]; exact rel.val k)
    exact wpAny_getItem_of (kV_is ry) dd.mapOf hw (h w' _ (I.tok _) rw')
  · subst ey
    cases (show u = Value.ref b from ry)
    obtain ⟨z, hd, xs, rel, dd⟩ := dt_rd I.hok e
    obtain ⟨w', hw, rw'⟩ := RelO.some_of (v := v) (o := (atKey xs k).map (·.2)) (by rw [l]; exact rel.val k)
    obtain ⟨p, hp, hp2⟩ := Option.map_eq_some_iff.mp hw
    refine wpAny_getItem_heap (tupleKind_room_in1 hu) (key_of I.hok eb) dd hp ?_
    rw [hp2]
    exact h w' _ (I.tok _) rw'
theorem d_in {Q : Value → Shared → Prop} (hu : A.units + 1 < cLine) (I : Inv X pins σ H s) (g : DGet H a y o) (ry : RelV y u) (h : ∀ s', Inv X pins σ H s' → Q (.bool o.isSome) s') :
    wpAny (model X.prog X.w) A (compareOp .In u (.ref a)) Q E s := by
  rcases g with ⟨kvs, k, e, ey, l⟩ | ⟨kvs, k, b, e, ey, eb, l⟩
  · subst ey
    obtain ⟨z, hd, vs, rel, dd⟩ := dk_rd I.hok e
    refine wpAny_in_of (kV_is ry) hd dd.mapOf ?_
    rw [← (rel.val k).isSome_eq, ← l]
    exact h _ (I.tok _)
  · subst ey
    cases (show u = Value.ref b from ry)
    obtain ⟨z, hd, xs, rel, dd⟩ := dt_rd I.hok e
    refine wpAny_in_heap (tupleKind_room_in1 hu) (key_of I.hok eb) hd dd ?_
    have q := (rel.val k).isSome_eq
    rw [Option.isSome_map] at q
    rw [← q, ← l]
    exact h _ (I.tok _)
theorem d_notIn {Q : Value → Shared → Prop} (hu : A.units + 1 < cLine) (I : Inv X pins σ H s) (g : DGet H a y o) (ry : RelV y u) (h : ∀ s', Inv X pins σ H s' → Q (.bool (!o.isSome)) s') :
    wpAny (model X.prog X.w) A (compareOp .NotIn u (.ref a)) Q E s := by
  rcases g with ⟨kvs, k, e, ey, l⟩ | ⟨kvs, k, b, e, ey, eb, l⟩
  · subst ey
    obtain ⟨z, hd, vs, rel, dd⟩ := dk_rd I.hok e
    refine wpAny_notIn_of (kV_is ry) hd dd.mapOf ?_
    rw [← (rel.val k).isSome_eq, ← l]
    exact h _ (I.tok _)
  · subst ey
    cases (show u = Value.ref b from ry)
    obtain ⟨z, hd, xs, rel, dd⟩ := dt_rd I.hok e
    refine wpAny_notIn_heap (tupleKind_room_in1 hu) (key_of I.hok eb) hd dd ?_
    have q := (rel.val k).isSome_eq
    rw [Option.isSome_map] at q
    rw [← q, ← l]
    exact h _ (I.tok _)
theorem d_write {h' : Heap} {t' : Nat} {ob : HO} (I : Inv X pins σ H s) (mu : Mut (H a)) (hs : Heap.SameBut a s.heap h') (he : ∃ q, h'.get? a = some q) (new : ObjOk X.prog X.w (upd H a ob) h' a ob) :
    Inv X pins σ (upd H a ob) { s with heap := h', toks := t' } :=
  I.write (x := a) (e := a) mu (.inl rfl) (fun b q hb z => (hs.2 b hb).trans z) he new
theorem dk_new {P : Program} {w : World} {H' : Hp} {h' : Heap} {kvs : List (Key × V)} {vs : List (Key × Value)} (z : kvs.length ≤ sizeLine) (hd : (a == sysModules) = false) (rel : KV kvs vs) (dd : h'.DictOf (mixKind P w) a vs) :
    ObjOk P w H' h' a (.dK kvs) := ⟨z, hd, vs, rel, dd⟩
theorem d_setItem {H' : Hp} {Q : Unit → Shared → Prop} (hu : A.units + 1 < cLine) (I : Inv X pins σ H s) (g : DPut H a y v H') (ry : RelV y u) (rv : RelV v r) (h : ∀ s', Inv X pins σ H' s' → Q () s') :
    wpAny (model X.prog X.w) A (setItem (.ref a) u r) Q E s := by
  rcases g with ⟨kvs, k, e, ey, l, eH⟩ | ⟨kvs, k, b, e, ey, eb, l, eH⟩
  · subst ey eH
    obtain ⟨z, hd, vs, rel, dd⟩ := dk_of I.hok e
    have hz : vs.length ≤ sizeLine := by rw [← rel.length]; exact z
    have hl : (putK kvs k v).length ≤ sizeLine := by have := length_putK kvs k v; omega
    refine wpAny_setItem_pairs (hsz := hz) (kV_is ry) dd fun h' dd' hs => h _ ?_
    have he : ∃ q, h'.get? a = some q := let ⟨q, _, _, hq, _⟩ := dd'; ⟨q, hq⟩
    exact d_write I (by rw [e]; exact True.intro) hs he (dk_new hl hd (rel.put k rv) dd')
  · subst ey eH
    cases (show u = Value.ref b from ry)
    obtain ⟨z, hd, xs, rel, dd⟩ := dt_of I.hok e
    have hz : xs.length ≤ sizeLine := by rw [← Paired.length rel]; exact z
    have hl : (putK kvs k v).length ≤ sizeLine := by have := length_putK kvs k v; omega
    refine wpAny_setItem_heap (hsz := hz) (tupleKind_room_in1 hu) (key_of I.hok eb) dd fun h' dd' hs => h _ ?_
    obtain ⟨q, es, ep, hq, h2, h3, h4, _, h5⟩ := dd'
    refine d_write I (by rw [e]; exact True.intro) hs ⟨q, hq⟩ ⟨hl, hd, _, (rel.put k eb rv).keeps fun c ys ec => ?_, q, es, ep, hq, h2, h3, h4, h5⟩
    rw [upd_ne (ne_of ec e (fun z => nomatch z))]
    exact ec
end
section
variable {X : Cx} {pins : List (Addr × Obj)} {σ : St} {H : Hp} {s : Shared} {a : Addr} {kvs : List (Key × V)} {k : Key} {u : Value} {A : Around} {E : Value → Shared → Prop}
theorem d_pop {v : V} {more : List Value} {Q : Value → Shared → Prop} (I : Inv X pins σ H s) (e : H a = some (.dK kvs)) (ry : RelV (kV k) u) (l : valV kvs k = some v) (hm : more = [] ∨ ∃ x, more = [x])
    (h : ∀ w' s', Inv X pins σ (upd H a (.dK (dropK kvs k))) s' → RelV v w' → Q w' s') : wpAny (model X.prog X.w) A (call (.builtin "dict.pop") (.ref a :: u :: more)) Q E s := by
  obtain ⟨z, hd, vs, rel, dd⟩ := dk_of I.hok e
  obtain ⟨w', hw, rw'⟩ := RelO.some_of (v := v) (o := valueAt vs k) (by rw [← l]; exact rel.val k)
  have hp : (keyPart u).isSome = true := by
    cases k with
    | inl i => obtain ⟨t, q⟩ := (show ∃ t, u = Value.int i t from ry); subst q; rfl
    | inr x => obtain ⟨t, q⟩ := (show ∃ t, u = Value.str x t from ry); subst q; rfl
  have ha : argsOk "dict.pop" ⟨.ref a :: u :: more, []⟩ := by
    rcases hm with q | ⟨x, q⟩
    · subst q; exact PySem.F.args_dict_pop_2 _ _
    · subst q; exact PySem.F.args_dict_pop_3 _ _ _
  refine call_meetsIn PySem.F.slot_dict_pop dd.typeIs PySem.F.entry_dict_pop ha (meets_dict_pop_there (mixKind X.prog X.w) a (kV_is ry) more hm hp)
    ⟨vs, w', dd, by rw [← rel.length]; exact z, hw, fun h' dd' hs => h w' _ ?_ rw'⟩
  have he : ∃ q, h'.get? a = some q := let ⟨q, _, _, hq, _⟩ := dd'; ⟨q, hq⟩
  exact d_write I (by rw [e]; exact True.intro) hs he (dk_new (Nat.le_trans (dropK_le kvs k) z) hd (rel.drop k) dd')
theorem d_len {Q : Value → Shared → Prop} (I : Inv X pins σ H s) (e : Rd H a (.dK kvs)) (h : ∀ t s', Inv X pins σ H s' → Q (.int kvs.length t) s') : wpAny (model X.prog X.w) A (call (.builtin "len") [.ref a]) Q E s := by
  obtain ⟨z, hd, vs, rel, dd⟩ := dk_rd I.hok e
  refine call_len_dict hd dd (by rw [← rel.length]; rw [sizeLine_eq] at z; omega) ?_
  rw [← rel.length]
  exact h _ _ (I.tok _)
end
def NoSl (i : Expr) : Prop := ∀ ov iv, subscripted i false ov iv = operate [ov, iv] (getItem ov iv)
theorem subD_of {prog : Program} {w : World} {A : Around} {E : Value → Shared → Prop} {s : Shared} {env : Env} {value slice : Expr} {pos : Pos} {T id : String} {Q : Value → Shared → Prop}
    (hl : typeLookup (.type T) "__getitem__" = pure (some (.builtin id))) (hs : NoSl slice)
    (h : wpAny (model prog w) A (eval value env) (fun o s₁ => wpAny (model prog w) A (eval slice env) (fun i s₂ => s₂.TypeIs o T ∧ wpAny (model prog w) A (getItem o i) Q E s₂) E s₁) E s) :
    wpAny (model prog w) A (eval (.Subscript value slice pos) env) Q E s := by
  refine Subscript_ (wpAny_mono h (fun o s₁ h₁ => wpAny_mono h₁ (fun i s₂ h₂ => ?_) fun _ _ x => x) fun _ _ x => x)
  obtain ⟨hT, h₂⟩ := h₂
  unfold subscriptTail
  refine wpAny_bind ?_
  rw [getitemInPython_of_ne hT.not_modules]
  refine wpAny_bind (wpAny_specialOf hT hl ?_)
  have fin : wpAny (model prog w) A (subscripted slice false o i) (fun r s₃ => wpAny (model prog w) A (letTemporaryGo value o r >>= fun _ => pure r) Q E s₃) E s₂ := by
    rw [hs o i]
    exact wpAny_operating (wpAny_mono h₂ (fun r s₃ h₃ => wpAny_bind (wpAny_letTemporaryGo (wpAny_pure h₃))) fun _ _ x => x)
  first
    | exact wpAny_pure (wpAny_bind fin)
    | exact wpAny_bind (wpAny_pure (wpAny_bind fin))
    | exact wpAny_bind fin
theorem dict_typeIs {X : Cx} {pins : List (Addr × Obj)} {σ : St} {H : Hp} {s : Shared} {a : Addr} {y : V} {o : Option V} (I : Inv X pins σ H s) (g : DGet H a y o) : s.TypeIs (.ref a) "dict" := by
  rcases g with ⟨kvs, k, e, _, _⟩ | ⟨kvs, k, b, e, _, _, _⟩
  · obtain ⟨_, _, vs, _, dd⟩ := dk_rd I.hok e
    exact dd.typeIs
  · obtain ⟨_, _, xs, _, dd⟩ := dt_rd I.hok e
    exact dd.typeIs
def tDGet (td ty : TE) : TE := fun σ H Q => td σ H fun x H1 => ty σ H1 fun y H2 => ∃ a v, x = .ref a ∧ DGet H2 a y (some v) ∧ Q v H2
def tDIn (ty td : TE) : TE := fun σ H Q => ty σ H fun y H1 => td σ H1 fun x H2 => ∃ a o, x = .ref a ∧ DGet H2 a y o ∧ Q (.bl o.isSome) H2
def tDNotIn (ty td : TE) : TE := fun σ H Q => ty σ H fun y H1 => td σ H1 fun x H2 => ∃ a o, x = .ref a ∧ DGet H2 a y o ∧ Q (.bl (!o.isSome)) H2
def sDPut (td ty tv : TE) : TS := fun D σ H => tv σ H fun v H1 => td σ H1 fun x H2 => ty σ H2 fun y H3 => ∃ a H4, x = .ref a ∧ DPut H3 a y v H4 ∧ D.nx σ H4
section
variable {X : Cx} {o i e value : Expr} {pos pos' tpos : Pos} {td ty tv : TE}
theorem pe_dget (hu : X.A.units + 1 < cLine) (ho : PE X o td) (hi : PE X i ty) (hs : NoSl i) : PE X (.Subscript o i pos) (tDGet td ty) := by
  intro pins s σ H Q I h
  refine subD_of PySem.F.slot_dict_getitem.lookup hs (thn (ho pins s σ H _ I h) fun u s1 ⟨x, H1, I1, rx, q1⟩ => thn (hi pins s1 σ H1 _ I1 q1) fun iv s2 ⟨y, H2, I2, ry, a, v, ex, g, q2⟩ => ?_)
  subst ex
  obtain rfl : u = Value.ref a := rx
  exact ⟨dict_typeIs I2 g, d_getItem hu I2 g ry fun w' s3 I3 rw' => ⟨v, H2, I3, rw', q2⟩⟩
theorem pc_din (hu : X.A.units + 1 < cLine) (hi : PE X i ty) (ho : PE X o td) : PC X .In i o (tDIn ty td) := by
  intro pins s σ H Q I h
  refine thn (hi pins s σ H _ I h) fun iv s1 ⟨y, H1, I1, ry, q1⟩ => thn (ho pins s1 σ H1 _ I1 q1) fun u s2 ⟨x, H2, I2, rx, a, ov, ex, g, q2⟩ => ?_
  subst ex
  obtain rfl : u = Value.ref a := rx
  exact d_in hu I2 g ry fun s3 I3 => ⟨.bl ov.isSome, H2, I3, rfl, q2⟩
theorem pc_dnotin (hu : X.A.units + 1 < cLine) (hi : PE X i ty) (ho : PE X o td) : PC X .NotIn i o (tDNotIn ty td) := by
  intro pins s σ H Q I h
  refine thn (hi pins s σ H _ I h) fun iv s1 ⟨y, H1, I1, ry, q1⟩ => thn (ho pins s1 σ H1 _ I1 q1) fun u s2 ⟨x, H2, I2, rx, a, ov, ex, g, q2⟩ => ?_
  subst ex
  obtain rfl : u = Value.ref a := rx
  exact d_notIn hu I2 g ry fun s3 I3 => ⟨.bl (!ov.isSome), H2, I3, rfl, q2⟩
theorem ps_dput (hu : X.A.units + 1 < cLine) (ho : PE X o td) (hi : PE X i ty) (hv : PE X value tv) (hs : swapsWith value (some (.Subscript o i pos')) pos.line X.env = pure false) :
    PS X (.Assign [.Subscript o i pos'] value pos) (sDPut td ty tv) := by
  intro pins s σ H D I h
  refine wpAny_Assign_Subscript (thn (hv pins s σ H _ I h) fun r s1 ⟨v, H1, I1, rv, q1⟩ => thn (ho pins s1 σ H1 _ I1 q1) fun u s2 ⟨x, H2, I2, rx, q2⟩ => thn (hi pins s2 σ H2 _ I2 q2) fun iv s3 ⟨y, H3, I3, ry, a, H4, ex, g, q3⟩ => ?_) hs
  subst ex
  obtain rfl : u = Value.ref a := rx
  exact d_setItem hu I3 g ry rv fun s4 I4 => ⟨σ, H4, I4, q3⟩
end
theorem dk_empty {P : Program} {w : World} {H : Hp} (h : Heap) (hb : sysModules < h.objs.size) : ObjOk P w H (h.push { cls := .type "dict", data := .dict #[] }) h.objs.size (.dK []) :=
  ⟨Nat.zero_le _, beq_eq_false_iff_ne.mpr (Ne.symm (Nat.ne_of_lt hb)), [], .nil, Heap.DictOf.new h⟩
def tDNewK : TE := fun _ H Q => ∀ p, H p = none → Q (.ref p) (upd H p (.dK []))
section
variable {X : Cx} {pos : Pos}
theorem pe_dnewK : PE X (.Dict [] [] pos) tDNewK := fun pins s σ H Q I h =>
  wpAny_Dict_empty ⟨.ref s.heap.objs.size, _, I.laid (a := s.heap.objs.size) (o := .dK []) (t' := s.toks) (fun _ _ q => Heap.get?_push_of_some _ q) (Nat.le_refl _) (dk_empty s.heap I.big), rfl, h _ (I.hok.fresh (Nat.le_refl _))⟩
end
def tPairs : List (TE × TE) → St → Hp → (List (V × V) → Hp → Prop) → Prop
  | [], _, H, Q => Q [] H
  | (tk, tv) :: r, σ, H, Q => tk σ H fun x H1 => tv σ H1 fun y H2 => tPairs r σ H2 fun ps H3 => Q ((x, y) :: ps) H3
def mergeK (kvs more : List (Key × V)) : List (Key × V) := more.foldl (fun acc kv => putK acc kv.1 kv.2) kvs
def tDisp (trs : List (TE × TE)) : TE := fun σ H Q => ∀ p, H p = none → tPairs trs σ (upd H p (.dK [])) fun ps H2 => H2 p = some (.dK []) ∧ ∃ kvs : List (Key × V), ps = kvs.map (fun kv => (kV kv.1, kv.2)) ∧ kvs.length ≤ 15 ∧ Q (.ref p) (upd H2 p (.dK (mergeK [] kvs)))
structure M1 (X : Cx) (o : Expr) (m : Str) (apos : Pos) (e : Expr) (cpos : Pos) : Prop where
  base : attributeBase o m X.env (eval o X.env) = eval o X.env
  few : ((backTo cpos (starEach [e] X.env)).all (fun x => !x.1) && (backToKw cpos (keywordEach [] X.env)).all (fun x => x.1.isSome)
    && decide (([e] : List Expr).length + ([] : List Keyword).length + (if ([] : List Keyword).isEmpty then 0 else 1) < 30)) = true
  line : (apos.endLine == cpos.line) = true
  trees : backTo cpos (starEach [e] X.env) = [(false, eval e X.env)]
structure M2 (X : Cx) (o : Expr) (m : Str) (apos : Pos) (e f : Expr) (cpos : Pos) : Prop where
  base : attributeBase o m X.env (eval o X.env) = eval o X.env
  few : ((backTo cpos (starEach [e, f] X.env)).all (fun x => !x.1) && (backToKw cpos (keywordEach [] X.env)).all (fun x => x.1.isSome)
    && decide (([e, f] : List Expr).length + ([] : List Keyword).length + (if ([] : List Keyword).isEmpty then 0 else 1) < 30)) = true
  line : (apos.endLine == cpos.line) = true
  trees : backTo cpos (starEach [e, f] X.env) = [(false, eval e X.env), (false, eval f X.env)]
def IsDic (H : Hp) (a : Addr) : Prop := (∃ kvs, Rd H a (.dK kvs)) ∨ ∃ kvs, Rd H a (.dT kvs)
theorem isD_at {X : Cx} {pins : List (Addr × Obj)} {σ : St} {H : Hp} {s : Shared} {a : Addr} (I : Inv X pins σ H s) (d : IsDic H a) :
    s.TypeIs (.ref a) "dict" ∧ (∀ b, Value.ref a = .ref b → ∃ ob, s.heap.get? b = some ob ∧ ob.dict = none) ∧ (a == sysModules) = false := by
  rcases d with ⟨kvs, e⟩ | ⟨kvs, e⟩
  · obtain ⟨_, hd, vs, _, dd⟩ := dk_rd I.hok e
    refine ⟨dd.typeIs, fun b q => ?_, hd⟩
    cases q
    obtain ⟨ob, _, _, h1, h2, _⟩ := dd
    exact ⟨ob, h1, h2.2.1⟩
  · obtain ⟨_, hd, xs, _, dd⟩ := dt_rd I.hok e
    refine ⟨dd.typeIs, fun b q => ?_, hd⟩
    cases q
    obtain ⟨ob, _, _, h1, h2, _⟩ := dd
    exact ⟨ob, h1, h2.2.1⟩
section
variable {X : Cx} {pins : List (Addr × Obj)} {σ : St} {H : Hp} {s : Shared} {a : Addr} {y d : V} {u r : Value} {o : Option V} {A : Around} {E : Value → Shared → Prop}
end
def tDGet1 (td ty : TE) : TE := fun σ H Q => td σ H fun x H1 => ∃ a, x = .ref a ∧ IsDic H1 a ∧ ty σ H1 fun y H2 => ∃ o, DGet H2 a y o ∧ Q (o.getD .non) H2
def tDGet2 (td ty tx : TE) : TE := fun σ H Q => td σ H fun x H1 => ∃ a, x = .ref a ∧ IsDic H1 a ∧ ty σ H1 fun y H2 => tx σ H2 fun z H3 => ∃ o, DGet H3 a y o ∧ Q (o.getD z) H3
def tDPop1 (td ty : TE) : TE := fun σ H Q => td σ H fun x H1 => ∃ a, x = .ref a ∧ IsDic H1 a ∧ ty σ H1 fun y H2 => ∃ kvs k v, H2 a = some (.dK kvs) ∧ y = kV k ∧ valV kvs k = some v ∧ Q v (upd H2 a (.dK (dropK kvs k)))
def tDPop2 (td ty tx : TE) : TE := fun σ H Q => td σ H fun x H1 => ∃ a, x = .ref a ∧ IsDic H1 a ∧ ty σ H1 fun y H2 => tx σ H2 fun z H3 => ∃ kvs k, H3 a = some (.dK kvs) ∧ y = kV k ∧
  (∀ v, valV kvs k = some v → Q v (upd H3 a (.dK (dropK kvs k)))) ∧ (valV kvs k = none → Q z H3)
section
variable {X : Cx} {o e f : Expr} {apos cpos : Pos} {td ty tx : TE}
theorem pe_dpop1 (ho : PE X o td) (he : PE X e ty) (m : M1 X o "pop" apos e cpos) : PE X (.Call (.Attribute o "pop" apos) [e] [] cpos) (tDPop1 td ty) := by
  intro pins s σ H Q I h
  refine wpAny_Call_method m.base m.few m.line PySem.F.plainAttrs_dict PySem.F.slot_dict_pop PySem.F.type_dict_pop (thn (ho pins s σ H _ I h) fun u s1 ⟨x, H1, I1, rx, a, ex, d, q1⟩ => ?_)
  subst ex
  obtain rfl : u = Value.ref a := rx
  obtain ⟨t1, t2, _⟩ := isD_at I1 d
  refine ⟨t1, t2, ?_⟩
  rw [m.trees]
  refine Calls.callWith_builtin rfl (Calls.evalArgs_plain (Calls.spliced_cons (thn (he pins s1 σ H1 _ I1 q1) fun iv s2 ⟨y, H2, I2, ry, kvs, k, v, ea, ey, l, q2⟩ => Calls.spliced_nil ?_)))
  subst ey
  exact d_pop I2 ea ry l (.inl rfl) fun w' s3 I3 rw' => ⟨v, _, I3, rw', q2⟩
end
section
variable {X : Cx} {pins : List (Addr × Obj)} {σ : St} {H : Hp} {s : Shared} {a : Addr} {kvs : List (Key × V)} {A : Around} {E : Value → Shared → Prop}
end
section
variable {X : Cx} {pins : List (Addr × Obj)} {σ : St} {H : Hp} {s : Shared} {a : Addr} {y : V} {u : Value} {A : Around} {E : Value → Shared → Prop}
end
end L2
namespace L2
open PySem PySem.Spec PyProof.Rows
section
variable {X : Cx}
theorem call_lenD : CallR X (.builtin "len") (fun xs H Q => ∃ a kvs, xs = [V.ref a] ∧ H a = some (.dK kvs) ∧ Q (.int kvs.length) H) := by
  intro pins s σ H xs us Q I r h
  obtain ⟨a, kvs, rfl, ha, q⟩ := h
  obtain ⟨u, rfl, ru⟩ := vals1 r
  cases ru
  exact d_len I (.inl ha) fun t s' I' => ⟨.int kvs.length, H, I', ⟨t, rfl⟩, q⟩
end
section
variable {κ : Type} [DecidableEq κ]
theorem valV_not {kvs : List (κ × V)} {k : κ} (h : valV kvs k = none) : ¬ k ∈ kvs.map (·.1) := by
  intro m
  obtain ⟨p, hp, e⟩ := List.mem_map.mp m
  have q : (kvs.any fun kv => decide (kv.1 = k)) = true := List.any_eq_true.mpr ⟨p, hp, decide_eq_true e⟩
  rw [valV_any, h] at q
  exact absurd q (by simp)
theorem valV_in {kvs : List (κ × V)} {k : κ} {v : V} (h : valV kvs k = some v) : k ∈ kvs.map (·.1) := by
  have q : (kvs.any fun kv => decide (kv.1 = k)) = true := by
    rw [valV_any, h]
    all_goals rfl
  obtain ⟨p, hp, e⟩ := List.any_eq_true.mp q
  exact List.mem_map.mpr ⟨p, hp, of_decide_eq_true e⟩
theorem nd_snoc : ∀ {l : List κ} {k : κ}, l.Nodup → ¬ k ∈ l → (l ++ [k]).Nodup
  | [], k, _, _ => by simp
  | a :: r, k, h, hk => by
    obtain ⟨h1, h2⟩ := List.nodup_cons.mp h
    show (a :: (r ++ [k])).Nodup
    refine List.nodup_cons.mpr ⟨fun m => ?_, nd_snoc h2 fun m => hk (List.mem_cons.mpr (Or.inr m))⟩
    rcases List.mem_append.mp m with q | q
    · exact h1 q
    · exact hk (List.mem_cons.mpr (Or.inl (List.mem_singleton.mp q).symm))
theorem dropK_neg {p : κ × V} {r : List (κ × V)} {k : κ} (e : ¬ p.1 = k) : dropK (p :: r) k = p :: dropK r k := by
  unfold dropK
  rw [List.filter_cons, if_pos (by simp [e])]
theorem dropK_no : ∀ {kvs : List (κ × V)} {k : κ}, ¬ k ∈ kvs.map (·.1) → dropK kvs k = kvs
  | [], _, _ => rfl
  | p :: r, k, h => by
    have h' : ¬ k ∈ r.map (·.1) := fun m => by
      obtain ⟨q, hq, e⟩ := List.mem_map.mp m
      exact h (List.mem_map.mpr ⟨q, List.mem_cons.mpr (Or.inr hq), e⟩)
    rw [dropK_neg fun e => h (List.mem_map.mpr ⟨p, List.mem_cons.mpr (Or.inl rfl), e⟩), dropK_no h']
end
end L2
namespace L2
open PySem PySem.Spec PyProof.Rows
theorem bt_sorted : bootBuiltins "sorted" = some (.builtin "sorted") := by decide +kernel
theorem vals_get : ∀ {xs : List V} {us : List Value}, xs.length = us.length → (∀ (i : Nat) x u, xs[i]? = some x → us[i]? = some u → RelV x u) → Vals xs us
  | [], [], _, _ => .nil
  | [], _ :: _, h, _ => by simp at h
  | _ :: _, [], h, _ => by simp at h
  | x :: xs, u :: us, h, k => .cons (k 0 x u rfl rfl) (vals_get (by simpa using h) fun i y v a b => k (i + 1) y v (by simpa using a) (by simpa using b))
theorem key_rel {k : Key} {v : Value} (h : keyIs k v = true) : RelV (kV k) v := by
  rcases keyIs_shape h with ⟨i, t, rfl, rfl⟩ | ⟨x, t, rfl, rfl⟩ <;> exact ⟨t, rfl⟩
theorem KV.get : ∀ {kvs : List (Key × V)} {vs : List (Key × Value)} {i : Nat} {p : Key × V} {q : Key × Value}, KV kvs vs → kvs[i]? = some p → vs[i]? = some q → p.1 = q.1
  | _, _, _, _, _, .nil, h, _ => by simp at h
  | _, _, 0, _, _, .cons r _, h, h' => by
    simp at h h'
    subst h h'
    exact r.1
  | _, _, i + 1, _, _, .cons _ t, h, h' => KV.get (i := i) t (by simpa using h) (by simpa using h')
def keysV (kvs : List (Key × V)) : List V := kvs.map fun kv => kV kv.1
theorem keys_vals {P : Program} {w : World} {kvs : List (Key × V)} {vs : List (Key × Value)} {us : List Value} (rel : KV kvs vs) (hl : us.length = vs.length) (h : ∀ (j : Nat) v, us[j]? = some v → ∃ k x, vs[j]? = some (k, x) ∧ (mixKind P w).is k v = true) : Vals (keysV kvs) us := by
  refine vals_get (by rw [keysV, List.length_map, rel.length, hl]) fun i x u hx hu => ?_
  obtain ⟨k, z, h1, h2⟩ := h i u hu
  rw [keysV, List.getElem?_map] at hx
  cases e : kvs[i]? with
  | none => rw [e] at hx; cases hx
  | some p =>
    rw [e] at hx
    cases hx
    have := rel.get e h1
    dsimp only at this ⊢
    rw [this]
    exact key_rel h2
section
variable {X : Cx}
theorem call_listD (hc : X.calm = true) : CallR X (.type "list") (fun xs H Q => ∃ p kvs, xs = [.ref p] ∧ Rd H p (.dK kvs) ∧ ∀ l, H l = none → Q (.ref l) (upd H l (.lst (keysV kvs)))) := by
  intro pins s σ H xs us Q I r h
  obtain ⟨p, kvs, rfl, hq, q⟩ := h
  obtain ⟨u, rfl, rx⟩ := vals1 r
  cases rx
  obtain ⟨z, hd, vs, rel, dd⟩ := dk_rd I.hok hq
  obtain ⟨ep, dat⟩ := dd.dictAt
  refine PySem.W.kdl_call (PySem.W.kdl_dict hd) (I.ok.hd hc) dat (by rw [← rel.length]; exact z) fun h' tk acc' c' kp e it => ?_
  have hv : Vals (keysV kvs) acc'.toList := keys_vals (P := X.prog) (w := X.w) rel (by rw [Array.length_toList]; exact it.1) fun j v hj => it.2 j v (by rw [← Array.getElem?_toList]; exact hj)
  exact ⟨.ref s.heap.objs.size, _, I.laid (t' := tk) kp (Nat.le_refl _) (show ObjOk X.prog X.w _ h' _ (.lst (keysV kvs)) from ⟨by rw [keysV, List.length_map]; exact z, acc'.toList, c', hv, by simpa using e⟩), rfl, q _ (I.hok.fresh (Nat.le_refl _))⟩
end
section
variable {X : Cx} {pins : List (Addr × Obj)} {σ : St} {H : Hp} {s : Shared} {a : Addr} {kvs : List (Key × V)} {o : Obj}
theorem Inv.freeze (I : Inv X pins σ H s) (e : H a = some (.dK kvs)) : ∃ o, s.heap.get? a = some o ∧ Inv X pins σ (upd H a (.frz o (.dK kvs))) s := by
  obtain ⟨z, hd, vs, rel, dd⟩ := dk_of I.hok e
  obtain ⟨o, es, ep, ho, hr⟩ := id dd
  have this : Inv X pins σ (upd H a (.frz o (.dK kvs))) { s with heap := s.heap, toks := s.toks } := I.write (x := a) (e := a) (by rw [e]; exact True.intro) (.inl rfl) (fun b q _ h => h) ⟨o, ho⟩ (show ObjOk X.prog X.w _ s.heap a (.frz o (.dK kvs)) from ⟨ho, z, hd, vs, rel, dd⟩)
  exact ⟨o, ho, this⟩
theorem Inv.thaw (I : Inv X pins σ H s) (e : H a = some (.frz o (.dK kvs))) (h0 : ∀ o u, X.H₀ a ≠ some (.frz o u)) : Inv X pins σ (upd H a (.dK kvs)) s where
  ok := I.ok
  os := I.os
  bare := I.bare
  base := {
    keep := I.base.keep
    slot := I.base.slot
    free := fun b q h1 h2 h3 => by
      have := I.base.free b q h1 h2 h3
      rw [upd_ne (ne_of_none e this).symm]
      exact this
    there := I.base.there
    tups := fun b xs h => by
      have := I.base.tups b xs h
      rw [upd_ne (ne_of this e (fun z => nomatch z))]
      exact this
    frzs := fun b q u h => by
      have n : b ≠ a := fun z => by
        subst z
        exact h0 _ _ h
      rw [upd_ne n]
      exact I.base.frzs b q u h
    tbls := fun b ps h => by
      obtain ⟨more, h2⟩ := I.base.tbls b ps h
      refine ⟨more, ?_⟩
      rw [upd_ne (ne_of h2 e (fun z => nomatch z))]
      exact h2 }
  loc := I.loc
  cell := I.cell
  free := by rw [upd_ne (ne_of_none e I.free).symm]; exact I.free
  freeC := fun x c h => by rw [upd_ne (ne_of_none e (I.freeC x c h)).symm]; exact I.freeC x c h
  pin := fun p hp => by
    obtain ⟨h1, h2, h3⟩ := I.pin p hp
    exact ⟨h1, by rw [upd_ne (ne_of_none e h2).symm]; exact h2, h3⟩
  hok := fun b q h => by
    by_cases hb : b = a
    · subst hb
      rw [upd_same] at h
      cases h
      obtain ⟨_, h2⟩ := I.hok b _ e
      exact h2
    · rw [upd_ne hb] at h
      refine (I.hok b q h).stay (fun _ _ _ r => r) (fun c r => ?_) fun c xs r => ?_
      · rw [upd_ne (ne_of r e (fun z => nomatch z))]
        exact r
      · rw [upd_ne (ne_of r e (fun z => nomatch z))]
        exact r
  len := I.len
def Thaw (H₀ : Hp) (a : Addr) (kvs : List (Key × V)) (H H' : Hp) : Prop := (∀ o u, H₀ a ≠ some (.frz o u)) ∧ (∃ o, H a = some (.frz o (.dK kvs))) ∧ H' = upd H a (.dK kvs)
theorem Inv.thaw' (I : Inv X pins σ H s) {H' : Hp} (t : Thaw X.H₀ a kvs H H') : Inv X pins σ H' s := by
  obtain ⟨h0, ⟨o, e⟩, rfl⟩ := t
  exact I.thaw e h0
end
def Itd (a : Addr) (o : Obj) (kvs : List (Key × V)) : It :=
  ⟨fun i H => i < kvs.length ∧ H a = some (.frz o (.dK kvs)), fun i H x H' => H' = H ∧ ∃ kv, kvs[i]? = some kv ∧ x = kV kv.1, fun i H => kvs.length ≤ i ∧ H a = some (.frz o (.dK kvs))⟩
theorem turn_dict {P : Program} {w : World} {K : PySem.W.Frag} {tg : Expr} {a it : Addr} {o : Obj} {kvs : List (Key × V)} {vs : List (Key × Value)} {ep : Nat} (hd : (a == sysModules) = false) (rel : KV kvs vs)
    (dat : ∀ h : Heap, h.get? a = some o → h.DictAt (mixKind P w) a vs ep) : Turn P w K tg (Itd a o kvs) [it] it (fun i h => h.IsKeyIter it a i vs.length ep) where
  mem := by simp
  obj := fun i h st b hb => by
    have e : b = it := by simpa using hb
    subst e
    obtain ⟨o, e, c, d⟩ := st
    exact ⟨o, e, fun v z => by rw [d] at z; cases z⟩
  keep := fun i h h' st k => st.at fun o e => k it (by simp) o e
  item := by
    intro X hP hw hK hc i pins s σ H E I hf st hg
    subst hP hw hK
    obtain ⟨hi, ha⟩ := hg
    obtain ⟨ho, _⟩ := I.hok a _ ha
    have hv : i < vs.length := by rw [← rel.length]; exact hi
    obtain ⟨f0, f1, f2, f3, f4, f5⟩ := hf it (by simp)
    refine wpAny_pyNext_dict_item st (dat _ ho) (k := vs[i].1) (v := vs[i].2) (List.getElem?_eq_getElem hv) fun key h' hk st' sb => ?_
    have I1 : Inv X pins σ H { s with heap := h' } := I.turned (t' := s.toks) (fun b o hb e => (sb.2 b hb).trans e) f0 f1 f3 f4 f5
    have ek := rel.get (List.getElem?_eq_getElem hi) (List.getElem?_eq_getElem hv)
    refine ⟨key, rfl, letGo_keyiter st' ⟨kV kvs[i].1, H, I1, ?_, ⟨rfl, kvs[i], List.getElem?_eq_getElem hi, rfl⟩, st', fun b hb => (hf b hb).1⟩⟩
    rw [ek]
    exact key_rel hk
  done := by
    intro X hP hw hK hc i pins s σ H E I hf st hg
    subst hP hw hK
    obtain ⟨hi, ha⟩ := hg
    obtain ⟨ho, _⟩ := I.hok a _ ha
    obtain ⟨f0, f1, f2, f3, f4, f5⟩ := hf it (by simp)
    have hl := rel.length
    exact wpAny_pyNext_dict_end (I.ok.hd hc) st (dat _ ho) (List.getElem?_eq_none (by omega)) fun h' eb => ⟨rfl, I.turned (t' := s.toks) (fun b o hb e => eb b o hb e) f0 f1 f3 f4 f5⟩
  self := fun _ _ _ _ _ st h => wpAny_pyIter_keyiter st h
def iDict (tl : TE) : TI := fun σ H R => tl σ H fun x H1 => ∃ a kvs, x = .ref a ∧ H1 a = some (.dK kvs) ∧ ∀ o, R (Itd a o kvs) (upd H1 a (.frz o (.dK kvs)))
theorem pi_dict {X : Cx} {tg l : Expr} {tl : TE} (hl : PE X l tl) : PI X tg l (iDict tl) := by
  intro pins s σ H R I h
  refine thn (hl pins s σ H _ I h) fun v s1 ⟨x, H1, I1, r1, q1⟩ => ?_
  obtain ⟨a, kvs, e, ha, q⟩ := q1
  subst e
  cases r1
  obtain ⟨z, hd, vs, rel, dd⟩ := dk_of I1.hok ha
  obtain ⟨o, ho, I2⟩ := I1.freeze ha
  obtain ⟨ep, dat⟩ := dd.dictAt
  have dat2 : ∀ h : Heap, h.get? a = some o → h.DictAt (mixKind X.prog X.w) a vs ep := fun h e => by
    obtain ⟨o', es, h1, h2⟩ := dat
    rw [ho] at h1
    cases h1
    exact ⟨o, es, e, h2⟩
  refine wpAny_pyIter_dict hd dat ?_
  refine ⟨s1.heap.objs.size, [s1.heap.objs.size], _, _, _, rfl, I2.kept (t' := s1.toks) fun b o e => Heap.get?_push_of_some _ e, turn_dict hd rel dat2, ⟨_, Heap.get?_push_size _ rfl, rfl, rfl⟩, fun b hb => ?_, q o⟩
  have e : b = s1.heap.objs.size := by simpa using hb
  subst e
  exact I2.fpOk (Nat.le_refl _) (I2.hok.fresh (Nat.le_refl _))
def thawE (H₀ : Hp) (D : Ends) : Ends := { nx := fun σ H => D.nx σ H ∨ ∃ a kvs H', Thaw H₀ a kvs H H' ∧ D.nx σ H', rt := fun v H => D.rt v H ∨ ∃ a kvs H', Thaw H₀ a kvs H H' ∧ D.rt v H', bk := D.bk, ct := D.ct }
def tThaw (H₀ : Hp) (t : TS) : TS := fun D σ H => t (thawE H₀ D) σ H
theorem ps_thaw {X : Cx} {st : Stmt} {t : TS} (h : PS X st t) : PS X st (tThaw X.H₀ t) := fun pins s σ H D I q => by
  refine thn (h pins s σ H _ I q) fun f s' h => ?_
  cases f with
  | next =>
    obtain ⟨σ', H', i, d⟩ := h
    rcases d with d | ⟨a, kvs, H2, th, d⟩
    · exact ⟨σ', H', i, d⟩
    · exact ⟨σ', H2, i.thaw' th, d⟩
  | brk => exact h
  | cont => exact h
  | ret u =>
    obtain ⟨v, σ', H', i, r, d⟩ := h
    rcases d with d | ⟨a, kvs, H2, th, d⟩
    · exact ⟨v, σ', H', i, r, d⟩
    · exact ⟨v, σ', H2, i.thaw' th, r, d⟩
theorem fw_dict {a : Addr} {o : Obj} {kvs : List (Key × V)} {g : TG} {tb : TS} {D : Ends} {σ : St} {H : Hp} (Pv : Nat → St → Hp → Prop) (h0 : Pv 0 σ H) (hl : ∀ i σ H, i ≤ kvs.length → Pv i σ H → H a = some (.frz o (.dK kvs)))
    (hs : ∀ i kv σ H, kvs[i]? = some kv → Pv i σ H → g (kV kv.1) σ H fun σ2 H2 => tb { D with nx := Pv (i + 1), ct := Pv (i + 1), bk := D.nx } σ2 H2) (hd : ∀ σ H, Pv kvs.length σ H → D.nx σ H) : forW (Itd a o kvs) g tb D σ H := by
  refine ⟨fun i m σ H => m = kvs.length - i ∧ i ≤ kvs.length ∧ Pv i σ H, ⟨kvs.length, by simp, Nat.zero_le _, h0⟩, ?_⟩
  rintro i m σ H ⟨rfl, hi, p⟩
  have q := hl i σ H hi p
  by_cases hlt : i < kvs.length
  · refine .inr ⟨⟨hlt, q⟩, Pv (i + 1), fun σ' H' p' => ⟨kvs.length - (i + 1), by omega, rfl, hlt, p'⟩, fun x H' y => ?_⟩
    obtain ⟨rfl, kv, e, rfl⟩ := y
    exact hs i kv σ _ e p
  · have e : i = kvs.length := by omega
    subst e
    exact .inl ⟨⟨Nat.le_refl _, q⟩, hd σ H p⟩
end L2
namespace L2
open PySem PySem.Spec PyProof.Rows
section
variable {prog : Program} {w : World} {A : Around} {E : Value → Shared → Prop} {s : Shared}
theorem collect_dict {d : Addr} {kvs : List (Key × Value)} {ep : Nat} {Q : List Value → Shared → Prop} (hh : A.handled = none) (lo : (d == sysModules) = false) (dat : s.heap.DictAt (mixKind prog w) d kvs ep) (hn : kvs.length ≤ sizeLine)
    (h : ∀ h' tk (vs : List Value), (∀ b o, s.heap.get? b = some o → h'.get? b = some o) → s.heap.objs.size < h'.objs.size → vs.length = kvs.length → (∀ (j : Nat) v, vs[j]? = some v → ∃ k x, kvs[j]? = some (k, x) ∧ (mixKind prog w).is k v = true) → Q vs { s with heap := h', toks := tk }) :
    wpAny (model prog w) A (collect (.ref d)) Q E s := by
  unfold collect
  refine wpAny_bind (wpAny_runValue (codeAny_builtin entry_proto_collect' ?_))
  show wpAny _ _ (do again (.builtin "list.__iadd__" ⟨[← newList [], .ref d], []⟩)) _ _ s
  refine wpAny_bind (wpAny_newList (wpAny_pure ⟨Code.quiet_builtin _ (by decide +kernel), codeAny_builtin entry_list_iadd' ?_⟩))
  show wpAny _ _ (Builtin.List.listExtendWith (.ref s.heap.objs.size) (.ref d) (.ref s.heap.objs.size)) _ _ { s with heap := s.heap.push (seqObj "list" #[] 0) }
  rw [Around.under_plainId (by decide +kernel)]
  have hlt := dat.lt_size
  refine PySem.W.kdl_extend (s := { s with heap := s.heap.push (seqObj "list" #[] 0) }) (R := fun r s' => match r with
    | .ok (.ret v) => wpAny (model prog w) A (match v with
      | .ref a => do
        let o ← load a
        match o.data with
        | .seq xs _ => pure xs.toList
        | _ => unsupported "internal:collect"
      | _ => unsupported "internal:collect") Q E s'
    | .ok _ => False
    | .error e => E e s') (PySem.W.kdl_dict (kvs := kvs) (ep := ep) lo) hh (dat.push _) s.heap.objs.size (Nat.ne_of_gt hlt) (Nat.ne_of_gt hlt) (.ref s.heap.objs.size) 0 (Heap.get?_push_size _ rfl) (fun h' tk acc c kp hS it => ?_) hn
  show wpAny (model prog w) A (do
      let o ← load s.heap.objs.size
      match o.data with
      | .seq xs _ => pure xs.toList
      | _ => unsupported "internal:collect") Q E { s with heap := h', toks := tk }
  refine wpAny_bind (wpAny_load hS ?_)
  exact wpAny_pure (h h' tk acc.toList (fun b o e => kp b o (Nat.ne_of_lt (Heap.lt_size e)) (Heap.get?_push_of_some _ e)) (Heap.lt_size hS) (by rw [Array.length_toList]; exact it.1) fun j v e => it.2 j v (by rw [← Array.getElem?_toList]; exact e))
end
section
variable {X : Cx}
theorem call_sortedD (hc : X.calm = true) : CallR X (.builtin "sorted") (fun xs H Q => ∃ (p : Addr) (kvs : List (Key × V)) (ns : List Int), xs = [.ref p] ∧ Rd H p (.dK kvs) ∧ keysV kvs = ns.map V.int ∧ ns.length < 64 ∧ ∀ (l : Addr) (ns' : List Int), H l = none → ns'.Perm ns → ns'.Pairwise (· ≤ ·) → Q (.ref l) (upd H l (.lst (ns'.map V.int)))) := by
  intro pins s σ H xs us Q I r h
  obtain ⟨p, kvs, ns, rfl, hq, hk, h64, q⟩ := h
  obtain ⟨u, rfl, rx⟩ := vals1 r
  cases rx
  obtain ⟨z, hd, vs, rel, dd⟩ := dk_rd I.hok hq
  obtain ⟨ep, dat⟩ := dd.dictAt
  have hl := rel.length
  have hl2 : kvs.length = ns.length := by
    have := congrArg List.length hk
    simpa [keysV] using this
  refine Calls.call_function_entry kind_sorted plain_sorted entry_sorted (args_sorted1 _) ?_
  unfold Builtin.«sorted»
  refine wpAny_bind (m := checkCount "sorted" 1 1 _) (wpAny_pure ?_)
  refine wpAny_bind (collect_dict (I.ok.hd hc) hd dat (by rw [← hl]; exact z) fun h' tk ws kp hsz hlen hws => ?_)
  refine wpAny_bind (wpAny_newList ?_)
  have hv : Vals (ns.map V.int) ws := by
    rw [← hk]
    exact keys_vals (P := X.prog) (w := X.w) rel hlen hws
  have hI : IntsAre ws ns := intsAre_of hv
  have hoL : (h'.push (seqObj "list" ws.toArray 0)).get? h'.objs.size = some (seqObj "list" ws.toArray 0) := Heap.get?_push_size _ rfl
  refine wpAny_bind (wpAny_holding (wpAny_call_entry slot_list_sort ⟨_, hoL, rfl⟩ entry_list_sort (list_sort_tree hoL hI (by omega) fun out ns' a1 a2 a3 => ⟨_, rfl, ?_⟩) (args_list_sort _)))
  obtain ⟨e, he⟩ := sortedHeap_at (out := out) hoL
  have hp := a2.length_eq
  refine wpAny_pure ⟨_, rfl, ?_⟩
  refine ⟨.ref h'.objs.size, _, I.laid (t' := tk) (fun b o hb => ?_) (Nat.le_of_lt hsz) (show ObjOk X.prog X.w _ _ _ (.lst (ns'.map V.int)) from ⟨by rw [List.length_map]; exact Nat.le_of_lt (small1000 (by omega)), out.toList, e, vals_ints a1, by simpa [seqObj] using he⟩), rfl, q _ ns' (I.hok.fresh (Nat.le_of_lt hsz)) a2 a3⟩
  have hb2 := kp b o hb
  have hlt := Heap.lt_size hb2
  rw [sortedHeap_old (Nat.ne_of_lt hlt) (by rw [Heap.size_push]; exact Nat.lt_succ_of_lt hlt)]
  exact Heap.get?_push_of_some _ hb2
end
section
variable {X : Cx}
theorem mt_indexT : MtR X "tuple.index" (fun x vs H Q => ∃ (p : Addr) (xs : List Str) (z : Str) (j : Nat), x = .ref p ∧ vs = [.str z] ∧ SqT X.K H p (xs.map V.str) ∧ xs[j]? = some z ∧ (∀ (i : Nat) y, i < j → xs[i]? = some y → y ≠ z) ∧ Q (.int (j : Nat)) H) := by
  intro pins s σ H x vs v us Q I rx rv h
  obtain ⟨p, xs, z, j, rfl, rfl, hq, hj, hn, q⟩ := h
  cases rx
  obtain ⟨u, rfl, ru⟩ := rv.one
  obtain ⟨t, rfl⟩ := ru
  obtain ⟨its, r, pl, hz⟩ := I.tuple hq
  obtain ⟨o, ho, hc, n, hd⟩ := id pl
  refine wpAny_call_entry PySem.F.slot_tuple_index ⟨o, ho, hc⟩ PySem.F.entry_tuple_index ?_ (PySem.F.args_tuple_index_2 _ _)
  unfold Builtin.«tuple.index»
  refine wpAny_bind (wpAny_pure ?_)
  dsimp only
  refine wpAny_bind (wpAny_tupleItemsOf ho hd ?_)
  refine wpAny_bind (wpAny_pure ?_)
  refine wpAny_bind (wpAny_pure ?_)
  refine wpAny_bind ?_
  rw [Std.Legacy.Range.forIn_eq_forIn_range']
  have hlen : its.length = xs.length := by
    have := r.length
    rw [List.length_map] at this
    exact this.symm
  have hjl := (List.getElem?_eq_some_iff.mp hj).1
  have hsz : (List.range' [:min its.toArray.size its.toArray.size].start [:min its.toArray.size its.toArray.size].size [:min its.toArray.size its.toArray.size].step) = List.range' 0 xs.length := by
    simp [Std.Legacy.Range.size, hlen]
  rw [hsz]
  refine wpAny_forIn_list _ (fun rest b s' => s' = s ∧ b = (none, ()) ∧ ∃ i, rest = List.range' i (xs.length - i) ∧ i ≤ j) _ ?_ ?_ _ _ ⟨rfl, rfl, 0, rfl, Nat.zero_le _⟩
  · rintro x rest b s' ⟨rfl, rfl, i, hr, hi⟩
    have hil : i < xs.length := by omega
    obtain ⟨rfl, hrest⟩ : x = i ∧ rest = List.range' (i + 1) (xs.length - (i + 1)) := by
      have e : xs.length - i = (xs.length - (i + 1)) + 1 := by omega
      rw [e, List.range'_succ] at hr
      injection hr with h1 h2
      exact ⟨h1, h2⟩
    obtain ⟨u, hu, ru⟩ := r.get (i := x) (x := V.str xs[x]) (by simp [hil])
    obtain ⟨t2, rfl⟩ := ru
    have hu2 : its.toArray[x]? = some (Value.str xs[x] t2) := by simpa using hu
    rw [hu2]
    dsimp only
    refine wpAny_bind (wpAny_eqBool_str ?_)
    by_cases hx : x = j
    · subst hx
      have ez : xs[x] = z := by
        have := List.getElem?_eq_getElem hil
        rw [hj] at this
        exact (Option.some.inj this).symm
      rw [ez, decide_eq_true rfl, if_pos rfl]
      unfold retInt
      refine wpAny_bind (wpAny_bind (wpAny_mkInt ?_))
      refine wpAny_pure (wpAny_pure ?_)
      exact wpAny_pure ⟨_, rfl, .int x, H, I.tok _, ⟨_, rfl⟩, q⟩
    · have hne := hn x xs[x] (by omega) (List.getElem?_eq_getElem hil)
      rw [decide_eq_false hne, if_neg Bool.false_ne_true]
      exact wpAny_pure ⟨rfl, rfl, x + 1, hrest, by omega⟩
  · rintro b s' ⟨rfl, rfl, i, hr, hi⟩
    have := congrArg List.length hr
    simp at this
    omega
end
end L2
namespace L2
open PySem PySem.Spec PyProof.Rows
section
variable {X : Cx}
def rEqE (neg : Bool) : R2 := fun x y H Q => ∃ a b kvs, x = .ref a ∧ y = .ref b ∧ H a = some (.dK kvs) ∧ H b = some (.dK []) ∧ Q (.bl (if neg = true then !kvs.isEmpty else kvs.isEmpty)) H
theorem op_eqE (hu : X.A.units + 64 < cLine) : OpR X (compareOp .Eq) (rEqE false) := by
  intro pins s σ H x y v u Q I rx ry h
  obtain ⟨a, b, kvs, rfl, rfl, ha, hb, q⟩ := h
  cases rx
  cases ry
  obtain ⟨z1, n1, v1, r1, d1⟩ := dk_of I.hok ha
  obtain ⟨z2, n2, v2, r2, d2⟩ := dk_of I.hok hb
  have e2 : v2 = [] := by
    have := r2.length
    cases v2 with
    | nil => rfl
    | cons => simp at this
  subst e2
  refine PySem.W.keq_eq (r := true) n1 n2 d1 d2 (by omega) (fun e => ?_) (fin_bl I q ?_)
  · cases v1 with
    | nil => exact .nil
    | cons => simp at e
  · have := r1.length
    cases kvs <;> cases v1 <;> simp_all
theorem op_neE (hu : X.A.units + 64 < cLine) : OpR X (compareOp .NotEq) (rEqE true) := by
  intro pins s σ H x y v u Q I rx ry h
  obtain ⟨a, b, kvs, rfl, rfl, ha, hb, q⟩ := h
  cases rx
  cases ry
  obtain ⟨z1, n1, v1, r1, d1⟩ := dk_of I.hok ha
  obtain ⟨z2, n2, v2, r2, d2⟩ := dk_of I.hok hb
  have e2 : v2 = [] := by
    have := r2.length
    cases v2 with
    | nil => rfl
    | cons => simp at this
  subst e2
  refine PySem.W.keq_ne (r := true) n1 n2 d1 d2 (by omega) (fun e => ?_) (fin_bl I q ?_)
  · cases v1 with
    | nil => exact .nil
    | cons => simp at e
  · have := r1.length
    cases kvs <;> cases v1 <;> simp_all
end
end L2
namespace L2
open PySem PySem.Spec PyProof.Rows
def thawV (H₀ : Hp) (Q : VK) : VK := fun v H => Q v H ∨ ∃ a kvs H', Thaw H₀ a kvs H H' ∧ Q v H'
def tThawV (H₀ : Hp) (t : TE) : TE := fun σ H Q => t σ H (thawV H₀ Q)
section
variable {a D : Addr} {o : Obj} {kvs : List (Key × V)} {fr : List Nat} {tt : TT} {te : TE} {σ : St} {H : Hp} {Q : Hp → Prop}
end
end L2
namespace L2
open PySem PySem.Spec PyProof.Rows
section
variable {X : Cx}
def PowOk (i j : Int) : Prop := 0 ≤ j ∧ j ≤ 1000 ∧ i.natAbs < 2 ^ 1000
theorem op_powL : OpR X (binaryOp .Pow) (rI PowOk fun i j => .int (i ^ j.toNat)) := opI fun i j _ _ _ _ _ hc q => by
  obtain ⟨h1, h2, h3⟩ := hc
  refine pow_int h1 ?_ q
  have h4 : Builtin.Int.intBits i ≤ 1000 := intBits_le_iff.mpr h3
  have h5 : (2 : Int) ^ 27 = 134217728 := by decide
  have h6 : (Builtin.Int.intBits i : Int) * j ≤ 1000 * j := Int.mul_le_mul_of_nonneg_right (by omega) h1
  omega
end
end L2
namespace L2
open PySem PySem.Spec PyProof.Rows
section
variable {X : Cx}
end
end L2
namespace L2
open PySem PySem.Spec PyProof.Rows
theorem FnOk.no {P : Program} {w : World} {K : PySem.W.Frag} {mg : Str → Option Value} {base : Heap} {CX : CXT} {k : Nat} {f : Addr} {fd : FuncData} {ps : List Str} : FnOk P w K mg base CX k f fd ps (fun _ _ _ _ => False) :=
  ⟨fun _ _ _ _ h => h.elim, fun _ _ _ _ _ _ _ _ _ _ => by
    intros
    exact False.elim (by assumption)⟩
def tyD : D → String
  | .non => "NoneType"
  | .bl _ => "bool"
  | .int _ => "int"
  | .str _ => "str"
  | .lst _ => "list"
  | .tup _ => "tuple"
theorem IsD.ty {K : PySem.W.Frag} {H : Hp} {x : V} {d : D} (h : IsD K H x d) : TyS K H x (.type (tyD d)) := by
  cases h with
  | non => exact .ty .non
  | bl b => exact .ty (.bl b)
  | int i => exact .ty (.int i)
  | str x => exact .ty (.str x)
  | lst h _ _ => exact .lst h
  | tup h _ _ => exact .tup h
end L2
namespace L2
open PySem PySem.Spec PyProof.Rows
open AutoSeq1 (wpAny_loadPart')
section
variable {X : Cx}
end
section
variable {prog : Program} {w : World} {A : Around} {E : Value → Shared → Prop} {s : Shared}
end
section
variable {X : Cx}
end
section
variable {prog : Program} {w : World} {A : Around} {E : Value → Shared → Prop} {s : Shared}
end
section
variable {X : Cx}
def iEnum0 (K : PySem.W.Frag) (tl : TE) : TI := fun σ H R => tl σ H fun x H1 => ∃ a : Addr, x = .ref a ∧ (∃ xs, SqL K H1 a xs) ∧ R (Ite K a 0) H1
end
end L2
namespace L2
open PySem PySem.Spec PyProof.Rows
def lcSlots2 (fr : List Nat) (σ : St) (v v2 : Option V) : St := v :: v2 :: fr.map fun j => (σ[j]?).join
structure LcOk2 (X : Cx) (x x2 : Str) (ns : List Str) (fr : List Nat) (scope : Scope) (cl : List (Str × Addr)) : Prop where
  clos : closureFor scope X.env = pure cl
  nocell : ∀ y ∈ scope.names, y.2 ≠ .cell
  kind : scope.kind = .function
  own : ∀ y ∈ scope.names, y.2 = .local → scope.names.lookup y.1 = some .local
  var : scope.names.lookup x = some .local
  var2 : scope.names.lookup x2 = some .local
  sub : ∀ z c, cl.lookup z = some c → X.env.cells.lookup z = some c
  has : ∀ z, ((relabel scope X.env).names.lookup z = some .cell ∨ (relabel scope X.env).names.lookup z = some .free) → ∃ c, cl.lookup z = some c
  len : ns.length = fr.length
  from_ : ∀ (k : Nat) z j, ns[k]? = some z → fr[k]? = some j → X.N[j]? = some z ∧ X.env.scope.names.lookup z = some .cell ∧ ((relabel scope X.env).names.lookup z = some .cell ∨ (relabel scope X.env).names.lookup z = some .free)
  nd : (x :: x2 :: ns).Nodup
def lcLoop2 (K : PySem.W.Frag) (J : It) (fr : List Nat) (tt : TT) (te : TE) (σ : St) (D : Addr) (Q : Hp → Prop) (H : Hp) : Prop :=
  ∃ W : Nat → Nat → Hp → Prop, (∃ m, W 0 m H) ∧ ∀ i m H2, W i m H2 → (J.stop i H2 ∧ Q H2) ∨ (J.go i H2 ∧ ∀ v H', J.yld i H2 v H' → ∃ t va vb, v = .ref t ∧ SqT K H' t [va, vb] ∧ tt (lcSlots2 fr σ (some va) (some vb)) H' fun b H3 =>
    if b = true then te (lcSlots2 fr σ (some va) (some vb)) H3 fun y H4 => ∃ ys, H4 D = some (.lst ys) ∧ ys.length < sizeLine ∧ ∃ m', m' < m ∧ W (i + 1) m' (upd H4 D (.lst (ys ++ [y]))) else ∃ m', m' < m ∧ W (i + 1) m' H3)
section
variable {X : Cx} {pins : List (Addr × Obj)} {σ : St} {H : Hp} {s : Shared} {x x2 : Str} {ns : List Str} {fr : List Nat} {scope : Scope} {cl : List (Str × Addr)} {fp : List Addr}
def tLc2 (K : PySem.W.Frag) (wi : TI) (fr : List Nat) (tt : TT) (te : TE) : TE := fun σ H Q => wi σ H fun J H1 => ∀ D, H1 D = none → lcLoop2 K J fr tt te σ D (fun H2 => Q (.ref D) H2) (upd H1 D (.lst []))
end
section
variable {X : Cx} {x x2 : Str} {ns : List Str} {fr : List Nat} {scope : Scope} {cl : List (Str × Addr)}
end
end L2
namespace L2
open PySem PySem.Spec PyProof.Rows
open AutoSeq1 (wpAny_loadPart')
section
variable {prog : Program} {w : World} {A : Around} {E : Value → Shared → Prop} {s : Shared}
end
end L2
namespace L2
open PySem PySem.Spec PyProof.Rows
open AutoSeq1 (wpAny_loadPart')
section
variable {prog : Program} {w : World} {A : Around} {E : Value → Shared → Prop} {s : Shared}
end
end L2
namespace L2
open PySem PySem.Spec PyProof.Rows
open AutoSeq1 (wpAny_loadPart')
section
variable {prog : Program} {w : World} {A : Around} {E : Value → Shared → Prop} {s : Shared}
end
end L2
namespace L2
open PySem PySem.Spec PyProof.Rows
def Itz (K : PySem.W.Frag) (l1 l2 : Addr) : It :=
  ⟨fun i H => ∃ xs ys x y, SqL K H l1 xs ∧ SqT K H l2 ys ∧ xs[i]? = some x ∧ ys[i]? = some y,
   fun i H v H' => ∃ t x y, H t = none ∧ v = .ref t ∧ (∀ xs, SqL K H l1 xs → xs[i]? = some x) ∧ (∀ ys, SqT K H l2 ys → ys[i]? = some y) ∧ H' = upd H t (.tup [x, y]),
   fun i H => ∃ xs, SqL K H l1 xs ∧ xs.length = i⟩
section
variable {X : Cx}
def iZip (K : PySem.W.Frag) (tl tp : TE) : TI := fun σ H R => tl σ H fun x H1 => tp σ H1 fun y H2 => ∃ a b : Addr, x = .ref a ∧ y = .ref b ∧ (∃ xs, SqL K H2 a xs) ∧ (∃ ys, SqT K H2 b ys) ∧ R (Itz K a b) H2
end
end L2
namespace L2
open PySem PySem.Spec PyProof.Rows
section
variable {X : Cx}
end
section
variable {X : Cx}
end
end L2
namespace L2
open PySem PySem.Spec PyProof.Rows
open AutoSeq1 (wpAny_loadPart')
section
variable {prog : Program} {w : World} {A : Around} {E : Value → Shared → Prop} {s : Shared}
end
def TabK (K : PySem.W.Frag) (a : Addr) (D : List (Str × Addr)) : Prop := KTD.tabLook (fun (b : Addr) (v : Value) => v == .ref b) (fun b => K.lookup b) a D = true
theorem TabK.of {K : PySem.W.Frag} {a : Addr} {D : List (Str × Addr)} {h : Heap} (t : TabK K a D) (X : K.In h) : KTD.TabOf (fun (b : Addr) v => v = .ref b) h a D :=
  KTD.tab_of_look (L := fun (b : Addr) (v : Value) => v == .ref b) (fun d v e => by simpa using e) (fun b o e => X b o e) t
section
variable {X : Cx}
def tGetK (a : Addr) (D : List (Str × Addr)) (td ty : TE) : TE := fun σ H Q => td σ H fun x H1 => x = .ref a ∧ ty σ H1 fun y H2 => ∃ k b, y = .str k ∧ KTD.datumAt k D = some b ∧ Q (.ref b) H2
end
def Its (z : Str) : It := ⟨fun i _ => i < z.cps.size, fun i H v H' => (∃ c, z.cps[i]? = some c ∧ v = .str ⟨#[c]⟩) ∧ H' = H, fun i _ => z.cps.size ≤ i⟩
section
variable {X : Cx}
def iStr (tl : TE) : TI := fun σ H R => tl σ H fun x H1 => ∃ z, x = .str z ∧ (z.cps.all fun x => decide (x < 128)) = true ∧ R (Its z) H1
end
theorem TabK.mk {K : PySem.W.Frag} {a : Addr} {D : List (Str × Addr)} {es : Array DictEntry} {ep : Nat} (h0 : (a == sysModules) = false) (h : K.lookup a = some ⟨.type "dict", none, .dict es ep, #[]⟩)
    (hr : KTD.rowsLook (fun (b : Addr) (v : Value) => v == .ref b) es.toList D = true) : TabK K a D := by
  unfold TabK KTD.tabLook
  show (!(a == sysModules) && (match K.lookup a with | some o => o.cls == .type "dict" && o.dict.isNone && o.slots.isEmpty && (match o.data with | .dict es _ => KTD.rowsLook (fun (b : Addr) (v : Value) => v == .ref b) es.toList D | _ => false) | none => false)) = true
  rw [h, h0]
  show (true && (((Value.type "dict" == Value.type "dict") && true && true) && KTD.rowsLook (fun (b : Addr) (v : Value) => v == .ref b) es.toList D)) = true
  rw [hr, beq_self_eq_true]
  rfl
end L2
namespace L2
open PySem PySem.Spec PyProof.Rows
open PySem.NumText (AllDigits digitsVal)
def nt (n : Nat) : Str := Str.ofString (toString (n : Int))
end L2
namespace L2
open PySem PySem.Spec PyProof.Rows
def strsOf : List Expr → Option (List Str)
  | [] => some []
  | .Constant (.str x) _ _ :: r => (strsOf r).map (x :: ·)
  | _ => none
def tStrs (ws : List Str) : TA := fun _ H Q => Q (ws.map V.str) H
theorem pa_strs {X : Cx} : ∀ {es : List Expr} {ws : List Str}, strsOf es = some ws → PA X es (tStrs ws)
  | [], ws, e => by
    cases e
    exact pa_nil
  | e :: r, ws, h => by
    unfold strsOf at h
    split at h
    · next h1 => cases h1
    · next x _ _ r' h1 =>
      cases h1
      cases h2 : strsOf r with
      | none =>
        rw [h2] at h
        cases h
      | some w2 =>
        rw [h2] at h
        cases h
        exact pa_cons pe_str (pa_strs h2)
    · cases h
theorem stT.strs {X : Cx} {i : Nat} {x : Str} {es : List Expr} {ws : List Str} {p1 p2 pos : Pos} {D : Ends} {σ : St} {H : Hp} (hN : X.N.Nodup) (hi : X.N[i]? = some x) (hx : Loc X.env.scope x) (he : strsOf es = some ws)
    (hs : swapsWith (.List es p2) (some (.Name x p1)) pos.line X.env = pure false) (hf : X.fn x = true ∨ X.env.scope.names.lookup x = some .local) (hl : ws.length ≤ 1000)
    (q : ∀ l, H l = none → D.nx (σ.set i (some (.ref l))) (upd H l (.lst (ws.map V.str)))) : stT X (.Assign [.Name x p1] (.List es p2) pos) D σ H := by
  refine stT.of (ps_set hN hi hx (pe_lst (pa_strs he)) hs hf) ?_
  refine ⟨?_, fun p hp => q p hp⟩
  rw [List.length_map]
  exact Nat.le_of_lt (small1000 hl)
end L2
namespace L2
open PySem PySem.Spec PyProof.Rows
section
variable {X : Cx}
def tFs (c : Str) (te : TE) : TE := fun σ H Q => c.length ≤ sizeLine ∧ te σ H fun v H1 => ∃ n : Int, v = .int n ∧ n.natAbs.log2 < 1920 ∧ (c ++ (Str.ofString (toString n))).length ≤ sizeLine ∧ Q (.str (c ++ Str.ofString (toString n))) H1
end
end L2
namespace L2
open PySem PySem.Spec PyProof.Rows
section
variable {M : Model} {A : Around} {E : Value → Shared → Prop} {s : Shared}
structure Lft (l : List Env) (e : Addr) (oe : Obj) (T0 : Option Addr) (h h' : Heap) : Prop where
  keep : ∀ b o, h.get? b = some o → b ∉ frs l → b ≠ e → some b ≠ T0 → h'.get? b = some o
  slot : ∀ b o, h.get? b = some o → b ∈ frs l → ∃ sl, h'.get? b = some { o with slots := sl }
  there : ∀ b o, h.get? b = some o → ∃ o', h'.get? b = some o'
  at_ : ∃ T oT ts, h.objs.size ≤ T ∧ h'.get? e = some (Obj.mapFields (·.setIfInBounds 1 (.ref T)) oe) ∧ h'.get? T = some oT ∧ oT.data = .fields ts ∧ ts[3]? = some .none
end
end L2
namespace L2
open PySem PySem.Spec PyProof.Rows
section
variable {prog : Program} {w : World} {A : Around} {R : Result → Shared → Prop} {h : Heap} {g : Array GenState} {d : Drawn} {t : Nat} {os : OsState}
variable {nm q : Str} {C N : Addr} {bs bm bmB : List Value} {hdct : Bool} {sn : List Str} {sub : List Value} {ab : Bool} {col : Option Bool} {dd : Option Addr} {k0 k1 k2 k3 k5 : Option Value} {B Bn newId nid initId inN : String} {bmN : List Value}
end
abbrev bmV : List Value := [.type "ValueError", .type "Exception", .type "BaseException", .type "object"]
section
variable {M : Model} {A : Around} {E : Value → Shared → Prop} {env : Env}
variable {nm q : Str} {C N : Addr} {bs bm : List Value} {hdct : Bool} {sn : List Str} {sub : List Value} {ab : Bool} {col : Option Bool} {dd : Option Addr} {k0 k1 k2 k3 k5 : Option Value} {newId : String}
variable {nm2 q2 : Str} {C2 N2 : Addr} {bs2 bm2 : List Value} {hdct2 : Bool} {sn2 : List Str} {sub2 : List Value} {ab2 : Bool} {col2 : Option Bool} {dd2 : Option Addr} {j0 j1 j2 j3 j5 : Option Value} {newId2 : String}
end
section
variable {prog : Program} {w : World} {A : Around} {E : Value → Shared → Prop} {h : Heap} {g : Array GenState} {d : Drawn} {t : Nat} {os : OsState}
variable {nm q : Str} {C N : Addr} {bs bm bmB : List Value} {hdct : Bool} {sn : List Str} {sub : List Value} {ab : Bool} {col : Option Bool} {dd : Option Addr} {k0 k1 k2 k3 k5 : Option Value} {B newId nid initId : String}
end
end L2
namespace L2
open PySem PySem.Spec PyProof.Rows
section
variable {K : PySem.W.Frag} {prog : Program} {w : World} {A : Around} {R : Result → Shared → Prop} {s : Shared} {x C Cb : Addr}
open PySem.W PySem.Builtin PySem.Builtin.ObjectAttr PySem.Builtin.Getset_descriptor in
open PySem.W PySem.Builtin PySem.Builtin.ObjectAttr PySem.Builtin.Getset_descriptor in
open PySem.W PySem.Builtin PySem.Builtin.ObjectAttr PySem.Builtin.Getset_descriptor in
open PySem.W PySem.Builtin PySem.Builtin.ObjectAttr PySem.Builtin.Getset_descriptor in
open PySem.W in
end
end L2
namespace L2
open PySem PySem.Spec PyProof.Rows
structure XCls (K : PySem.W.Frag) (C Cb : Addr) : Prop where
  lk : ∃ nm qn N bs sn sub ab col dd k0 k1 k2 k3 k5, K.lookup C = some (excClassObj nm qn C N bs (.ref Cb :: bmV) true sn sub ab col dd k0 k1 k2 k3 k5 "ValueError.__new__")
  lb : ∃ nm qn N bs hd sn sub ab col dd k0 k1 k2 k3 k5, K.lookup Cb = some (excClassObj nm qn Cb N bs bmV hd sn sub ab col dd k0 k1 k2 k3 k5 "ValueError.__new__")
  xb : PySem.W.excIn K Cb bmV "ValueError.__new__" = true
  sa : PySem.W.findIn K (.ref C) "__setattr__" = some (some (.builtin "object.__setattr__"))
  ga : PySem.W.findIn K (.ref C) "__getattribute__" = some (some (.builtin "BaseException.__getattribute__"))
  gn : PySem.W.findIn K (.ref C) "__getattr__" = some none
  cl : PySem.W.findIn K (.ref C) "__class__" = some (some (.builtin "object.__class__"))
  cg : PySem.W.specialIn K (.builtin "object.__class__") "__get__" = some (some (.builtin "getset_descriptor.__get__"))
  ct : PySem.W.takesIn K (.builtin "object.__class__") = some true
  mo : PySem.W.mroIn K C (.type "object") = some true
  kp : PySem.W.keepIn K (.ref C) = true
theorem XCls.data {K : PySem.W.Frag} {C Cb : Addr} (c : XCls K C Cb) : ∃ cd, PySem.W.clsIn K C = some cd ∧ cd.mro = .ref C :: .ref Cb :: bmV ∧ cd.hasDict = true := by
  obtain ⟨nm, qn, N, bs, sn, sub, ab, col, dd, k0, k1, k2, k3, k5, e⟩ := c.lk
  unfold PySem.W.clsIn
  rw [e]
  exact ⟨_, rfl, rfl, rfl⟩
theorem XCls.tail {K : PySem.W.Frag} {C Cb : Addr} {h : Heap} (c : XCls K C Cb) (X : K.In h) : OwnTail h bmV (.ref Cb :: bmV) := by
  obtain ⟨nm, qn, N, bs, hd, sn, sub, ab, col, dd, k0, k1, k2, k3, k5, e⟩ := c.lb
  have q := c.xb
  unfold PySem.W.excIn at q
  rw [e] at q
  simp only [excClassObj, Bool.and_eq_true, beq_iff_eq, Bool.not_eq_true'] at q
  exact .own (X _ _ e) (.of_isNs (PySem.W.isNs_of_in X q.1.2)) (PySem.W.nsMap_none_of_in X q.1.2 q.2) .base
def XO (C x : Addr) (dx : Option Addr) (raw : Bool) (h : Heap) : Prop := ∃ vs sl a0, h.get? x = some ⟨.ref C, dx, .fields vs, sl⟩ ∧ vs[0]? = some (.ref a0) ∧ 1 < vs.size ∧ (raw = true → vs[1]? = some .none)
theorem XO.ok {P : Program} {w : World} {H : Hp} {C x : Addr} {dx : Option Addr} {raw : Bool} {h : Heap} (e : XO C x dx raw h) : ObjOk P w H h x (.ext (XO C x dx raw)) := by
  refine ⟨e, ?_, fun h1 h2 z k => ?_⟩
  · obtain ⟨_, _, _, e, _⟩ := e
    exact ⟨_, e⟩
  · obtain ⟨vs, sl, a0, e, r⟩ := z
    exact ⟨vs, sl, a0, k _ e, r⟩
section
variable {X : Cx} {CX : CXT} {k : Nat} {f C Cb : Addr} {fd : FuncData} {ps : List Str} {sp : Sp} {dvs : List V} {ds : List Value} {E : XK} {x m : Str} {p pos apos : Pos} {e o : Expr} {es : List Expr} {ta : TE} {t : TA}
def tXMake (C : Addr) (sp : Sp) (dvs : List V) (E : XK) (t : TA) : TE := fun σ H Q => t σ H fun vs H1 => vs.length ≤ 1000 ∧ ∀ x, H1 x = none → sp (.ref x :: (vs ++ dvs)) (upd H1 x (.ext (XO C x none true))) (fun v H2 => v = .non ∧ Q (.ref x) H2) E
def sXFld (K : PySem.W.Frag) (ta tv : TE) (f : Str) : TS := fun D σ H => tv σ H fun y H1 => ta σ H1 fun x H2 => ∃ a C Cb, x = .ref a ∧ H2 a = some (.ext (XO C a none true)) ∧ XCls K C Cb ∧ PySem.W.takerIn K C f = some none ∧
  ∀ dx, H2 dx = none → D.nx σ (upd (upd H2 a (.ext (XO C a (some dx) true))) dx (.xd [(f, y)]))
structure XInit (K : PySem.W.Frag) (Cb : Addr) : Prop where
  sp : PySem.W.specialIn K (.ref Cb) "__getattribute__" = some (some (.builtin "type.__getattribute__"))
  rd : PySem.W.readsIn K Cb (.type "type") = true
  fd : PySem.W.findCls K (.ref Cb) (.type "type") "__init__" = some (.val (.builtin "ValueError.__init__"))
def tXInit (K : PySem.W.Frag) (t : TA) : TE := fun σ H Q => t σ H fun vs H1 => ∃ a C Cb z dx, vs = [.ref a, .str z] ∧ H1 a = some (.ext (XO C a dx true)) ∧ XCls K C Cb ∧ Q .non H1
end
end L2
namespace L2
open PySem PySem.Spec PyProof.Rows
def TBk (h : Heap) (H : Hp) (a : Addr) : Prop := ∃ o vs T oT ts, h.get? a = some o ∧ o.data = .fields vs ∧ vs[1]? = some (.ref T) ∧ T ≠ a ∧ h.get? T = some oT ∧ oT.data = .fields ts ∧ ts[3]? = some .none ∧ H T = none
section
variable {P : Program} {w : World} {K : PySem.W.Frag} {mg : Str → Option Value} {base : Heap}
def sRaise (K : PySem.W.Frag) (E : XK) (te : TE) : TS := fun _ σ H => te σ H fun v H1 => ∃ a C Cb dx, v = .ref a ∧ XCls K C Cb ∧ H1 a = some (.ext (XO C a (some dx) true)) ∧ E (.ref C) (some a) (upd H1 a (.ext (XO C a (some dx) false)))
end
end L2
namespace L2
open PySem PySem.Spec PyProof.Rows
section
variable {M : Model} {A : Around} {E : Value → Shared → Prop} {s : Shared}
end
section
variable {X : Cx} {k : Nat} {f C : Addr} {fd : FuncData} {ps : List Str} {sp : Sp} {dvs : List V} {ds : List Value} {E : XK}
def XP (X : Cx) (pins : List (Addr × Obj)) (σ : St) (E : XK) (e : Value) (s' : Shared) : Prop := ∃ a C dx H', e = .ref a ∧ Inv X pins σ H' s' ∧ H' a = some (.ext (XO C a (some dx) false)) ∧ TBk s'.heap H' a ∧ E (.ref C) (some a) H'
end
end L2
namespace L2
open PySem PySem.Spec PyProof.Rows
section
variable {prog : Program} {w : World} {A : Around} {E : Value → Shared → Prop} {s : Shared} {env : Env}
end
section
variable {X : Cx} {k : Nat} {f C2 : Addr} {fd : FuncData} {ps : List Str} {sp : Sp} {dvs : List V} {ds : List Value} {x y n cn : Str} {p np pos apos hpos cpos xpos : Pos} {e : Expr} {es : List Expr} {t : TA} {ts : TS} {b0 : Stmt} {suite : List Stmt} {i j : Nat}
def sTry (K : PySem.W.Frag) (C2 : Addr) (i j : Nat) (sp : Sp) (dvs : List V) (t : TA) (ts : TS) : TS := fun D σ H => t σ H fun vs H1 => sp (vs ++ dvs) H1 (fun v H2 => D.nx (σ.set i (some v)) H2)
  (fun cls a H2 => ∃ b C Cb, cls = .ref C ∧ a = some b ∧ XCls K C Cb ∧ (C2 = C ∨ C2 = Cb) ∧ ts { nx := fun σ' H' => D.nx (σ'.set j none) H', rt := D.rt } (σ.set j (some (.ref b))) H2)
def sTry0 (K : PySem.W.Frag) (C2 : Addr) (i : Nat) (sp : Sp) (dvs : List V) (t : TA) (ts : TS) : TS := fun D σ H => t σ H fun vs H1 => sp (vs ++ dvs) H1 (fun v H2 => D.nx (σ.set i (some v)) H2)
  (fun cls a H2 => ∃ b C Cb, cls = .ref C ∧ a = some b ∧ XCls K C Cb ∧ (C2 = C ∨ C2 = Cb) ∧ ts D σ H2)
def tXFld (K : PySem.W.Frag) (ta : TE) (g : Str) : TE := fun σ H Q => ta σ H fun x H1 => ∃ a C Cb dx fs raw i, x = .ref a ∧ H1 a = some (.ext (XO C a (some dx) raw)) ∧ H1 dx = some (.xd fs) ∧ XCls K C Cb ∧ PySem.W.findIn K (.ref C) g = some none ∧ fs.lookup g = some (.int i) ∧ Q (.int i) H1
end
section
variable {prog : Program} {w : World} {A : Around} {E : Value → Shared → Prop} {s : Shared}
end
section
variable {X : Cx}
def tGetK0 (a : Addr) (D : List (Str × Addr)) (td ty : TE) : TE := fun σ H Q => td σ H fun x H1 => x = .ref a ∧ ty σ H1 fun y H2 => ∃ k, y = .str k ∧ ((∃ b, KTD.datumAt k D = some b ∧ Q (.ref b) H2) ∨ (KTD.datumAt k D = none ∧ Q .non H2))
def tFs3 (c c2 : Str) (te : TE) : TE := fun σ H Q => c.length ≤ sizeLine ∧ te σ H fun v H1 => ∃ n : Int, v = .int n ∧ n.natAbs.log2 < 1920 ∧ (c ++ (Str.ofString (toString n))).length ≤ sizeLine ∧ (c ++ (Str.ofString (toString n)) ++ c2).length ≤ sizeLine ∧ Q (.str (c ++ Str.ofString (toString n) ++ c2)) H1
end
end L2
namespace L2
open PySem PySem.Spec PyProof.Rows
section
variable {X : Cx}
end
end L2
namespace L2
open PySem PySem.Spec PyProof.Rows
section
variable {X : Cx}
end
end L2
set_option Elab.async false
set_option linter.all false
set_option maxRecDepth 100000
set_option maxHeartbeats 4000000
namespace K34
open PySem L2
local macro_rules | `(tactic| dsimp! [$xs,*]) => `(tactic| simp only [tSeq, tNext, tRet, tRetN, tIfS, tIf, tB, tTest, tOp, tUn, tVar, tC, rI0, rI, rU, tAsg, gName, gNil, gCons, gLst, gTup, gSub, tDrop, tCons, tNil, tCall, tCB, tBM, tBM0, tMeth, tMake, tSl, tPart, tNoPart, tFld, sFld, tAnd, tOr, tNot, tAndV, tOrV, tNotV, L2.start, rEq, rNe, scal_ii, scal_bb, scal_ss, scal_in, scal_ni, tLst, tTup, cxOf_K, List.map_cons, List.map_nil, List.length_cons, List.length_nil, List.replicate_succ, List.replicate_zero, Nat.reduceAdd, Nat.reduceSub, Nat.zero_add, Nat.sub_self, Nat.zero_le, List.cons_append, List.nil_append, List.append_nil, List.set_cons_zero, List.set_cons_succ, List.getElem?_cons_zero, List.getElem?_cons_succ, Option.some.injEq, V.int.injEq, V.bl.injEq, V.ref.injEq, V.ty.injEq, V.str.injEq, List.cons.injEq, exists_eq_left', exists_eq_left, exists_eq_right, exists_and_left, exists_const, true_and, and_true, Bool.not_true, Bool.not_false, Bool.false_eq_true, if_true, if_false, reduceCtorEq, false_and, and_false, false_or, or_false, exists_false, decide_true, decide_false, eq_self, and_assoc, Int.toNat_natCast, tLc, tForW, tWhileW, iRng1, iRng2, iList, iTup, iEnum, iEnum0, iZip, iStr, tLc2, tGetK, tNever, tChain, tAug, ipI, tMethV, tDGet, tDIn, tDNotIn, sDPut, tDNewK, tDGet1, tDGet2, tDPop1, tDPop2, iDict, tThaw, tThawV, tFs, tFs3, tGetK0, tXMake, tXInit, sXFld, sRaise, sTry, sTry0, tXFld, tDisp, tPairs, $xs,*])
def top (i : Nat) : Stmt := PySem.Challenge.pw_heapsafe_k34_whole_memory_through_deeds.main.body.getD i (.Pass ⟨0, 0, 0, 0⟩)
abbrev s_header : Stmt := top 6
abbrev s_kind_in : Stmt := top 7
abbrev s_size_in : Stmt := top 8
abbrev s_is_marked : Stmt := top 9
abbrev s_has_words : Stmt := top 10
abbrev s_with_mark : Stmt := top 11
abbrev s_with_words : Stmt := top 12
abbrev s_with_bit : Stmt := top 13
abbrev s_Rooms_init : Stmt := inClass (top 15) 0
abbrev s_Rooms_gap : Stmt := inClass (top 15) 1
abbrev s_Rooms_gap_in : Stmt := inClass (top 15) 2
abbrev s_Rooms_fill_in : Stmt := inClass (top 15) 3
abbrev s_Rooms_set_free : Stmt := inClass (top 15) 4
abbrev s_Rooms_read : Stmt := inClass (top 15) 5
abbrev s_Rooms_write : Stmt := inClass (top 15) 6
abbrev s_Rooms_room_of : Stmt := inClass (top 15) 7
abbrev s_Thing_init : Stmt := inClass (top 18) 0
abbrev s_Thing_sort_of : Stmt := inClass (top 18) 1
abbrev s_Thing_fields : Stmt := inClass (top 18) 2
abbrev s_Thing_words : Stmt := inClass (top 18) 5
abbrev s_PlainThing_init : Stmt := inClass (top 19) 0
abbrev s_PlainThing_words : Stmt := inClass (top 19) 2
abbrev s_PairThing_init : Stmt := inClass (top 20) 0
abbrev s_plain : Stmt := top 21
abbrev s_weak : Stmt := top 22
abbrev s_pair : Stmt := top 23
abbrev s_first_field : Stmt := top 28
abbrev s_size_of : Stmt := top 29
abbrev s_words_cell : Stmt := top 30
abbrev s_cells_of : Stmt := top 31
abbrev s_Memory_init : Stmt := inClass (top 32) 0
abbrev s_Memory_put_in : Stmt := inClass (top 32) 1
abbrev s_Memory_fill_from : Stmt := inClass (top 32) 2
abbrev s_Memory_head_at : Stmt := inClass (top 32) 3
abbrev s_Memory_thing_at : Stmt := inClass (top 32) 4
abbrev s_Memory_words_at : Stmt := inClass (top 32) 5
abbrev s_Memory_serial_at : Stmt := inClass (top 32) 6
abbrev s_Memory_size_at : Stmt := inClass (top 32) 7
abbrev s_Memory_sort_at : Stmt := inClass (top 32) 8
abbrev s_Memory_marked_at : Stmt := inClass (top 32) 9
abbrev s_Memory_set_mark : Stmt := inClass (top 32) 10
abbrev s_Memory_set_field : Stmt := inClass (top 32) 11
abbrev s_Memory_set_words : Stmt := inClass (top 32) 12
abbrev s_Memory_take_out : Stmt := inClass (top 32) 13
abbrev s_Memory_places : Stmt := inClass (top 32) 15
abbrev s_Memory_places_in : Stmt := inClass (top 32) 16
abbrev s_law_cell_at : Stmt := top 34
abbrev s_law_drawn : Stmt := top 35
abbrev s_law_value : Stmt := top 36
abbrev s_law_shape : Stmt := top 37
abbrev s_law_thing : Stmt := top 38
abbrev s_law_size : Stmt := top 39
abbrev s_law_whole : Stmt := top 40
abbrev s_law_held : Stmt := top 41
abbrev s_law_apart : Stmt := top 42
abbrev s_law_least : Stmt := top 43
abbrev s_law_done : Stmt := top 44
abbrev s_law : Stmt := top 45
theorem sc_header : FnScope ["kind", "marked", "words", "size", "bare"] ["kind", "marked", "words", "size"] (defScope s_header) := ⟨rfl, rfl, rfl, by decide +kernel, rfl, by decide +kernel, by decide +kernel⟩
theorem sc_kind_in : FnScope ["number"] ["number"] (defScope s_kind_in) := ⟨rfl, rfl, rfl, by decide +kernel, rfl, by decide +kernel, by decide +kernel⟩
theorem sc_size_in : FnScope ["number"] ["number"] (defScope s_size_in) := ⟨rfl, rfl, rfl, by decide +kernel, rfl, by decide +kernel, by decide +kernel⟩
theorem sc_is_marked : FnScope ["number"] ["number"] (defScope s_is_marked) := ⟨rfl, rfl, rfl, by decide +kernel, rfl, by decide +kernel, by decide +kernel⟩
theorem sc_has_words : FnScope ["number"] ["number"] (defScope s_has_words) := ⟨rfl, rfl, rfl, by decide +kernel, rfl, by decide +kernel, by decide +kernel⟩
theorem sc_with_mark : FnScope ["number", "marked"] ["number", "marked"] (defScope s_with_mark) := ⟨rfl, rfl, rfl, by decide +kernel, rfl, by decide +kernel, by decide +kernel⟩
theorem sc_with_words : FnScope ["number", "words"] ["number", "words"] (defScope s_with_words) := ⟨rfl, rfl, rfl, by decide +kernel, rfl, by decide +kernel, by decide +kernel⟩
theorem sc_with_bit : FnScope ["number", "bit", "is_set"] ["number", "bit", "is_set"] (defScope s_with_bit) := ⟨rfl, rfl, rfl, by decide +kernel, rfl, by decide +kernel, by decide +kernel⟩
theorem sc_Rooms_init : FnScope ["self", "many", "cells"] ["self", "many", "cells"] (defScope s_Rooms_init) := ⟨rfl, rfl, rfl, by decide +kernel, rfl, by decide +kernel, by decide +kernel⟩
theorem sc_Rooms_gap : FnScope ["self", "length", "room", "place"] ["self", "length"] (defScope s_Rooms_gap) := ⟨rfl, rfl, rfl, by decide +kernel, rfl, by decide +kernel, by decide +kernel⟩
theorem sc_Rooms_gap_in : FnScope ["self", "room", "length", "first", "free", "place"] ["self", "room", "length"] (defScope s_Rooms_gap_in) := ⟨rfl, rfl, rfl, by decide +kernel, rfl, by decide +kernel, by decide +kernel⟩
theorem sc_Rooms_fill_in : FnScope ["self", "place", "some", "at", "value"] ["self", "place", "some"] (defScope s_Rooms_fill_in) := ⟨rfl, rfl, rfl, by decide +kernel, rfl, by decide +kernel, by decide +kernel⟩
theorem sc_Rooms_set_free : FnScope ["self", "place", "length", "at"] ["self", "place", "length"] (defScope s_Rooms_set_free) := ⟨rfl, rfl, rfl, by decide +kernel, rfl, by decide +kernel, by decide +kernel⟩
theorem sc_Rooms_read : FnScope ["self", "place"] ["self", "place"] (defScope s_Rooms_read) := ⟨rfl, rfl, rfl, by decide +kernel, rfl, by decide +kernel, by decide +kernel⟩
theorem sc_Rooms_write : FnScope ["self", "place", "value"] ["self", "place", "value"] (defScope s_Rooms_write) := ⟨rfl, rfl, rfl, by decide +kernel, rfl, by decide +kernel, by decide +kernel⟩
theorem sc_Rooms_room_of : FnScope ["self", "place"] ["self", "place"] (defScope s_Rooms_room_of) := ⟨rfl, rfl, rfl, by decide +kernel, rfl, by decide +kernel, by decide +kernel⟩
theorem sc_Thing_init : FnScope ["self", "sort", "some"] ["self", "sort", "some"] (defScope s_Thing_init) := ⟨rfl, rfl, rfl, by decide +kernel, rfl, by decide +kernel, by decide +kernel⟩
theorem sc_Thing_sort_of : FnScope ["self"] ["self"] (defScope s_Thing_sort_of) := ⟨rfl, rfl, rfl, by decide +kernel, rfl, by decide +kernel, by decide +kernel⟩
theorem sc_Thing_fields : FnScope ["self"] ["self"] (defScope s_Thing_fields) := ⟨rfl, rfl, rfl, by decide +kernel, rfl, by decide +kernel, by decide +kernel⟩
theorem sc_Thing_words : FnScope ["self"] ["self"] (defScope s_Thing_words) := ⟨rfl, rfl, rfl, by decide +kernel, rfl, by decide +kernel, by decide +kernel⟩
theorem sc_PlainThing_init : FnScope ["self", "some", "last_words"] ["self", "some", "last_words"] (defScope s_PlainThing_init) := ⟨rfl, rfl, rfl, by decide +kernel, rfl, by decide +kernel, by decide +kernel⟩
theorem sc_PlainThing_words : FnScope ["self"] ["self"] (defScope s_PlainThing_words) := ⟨rfl, rfl, rfl, by decide +kernel, rfl, by decide +kernel, by decide +kernel⟩
theorem sc_PairThing_init : FnScope ["self", "key", "value"] ["self", "key", "value"] (defScope s_PairThing_init) := ⟨rfl, rfl, rfl, by decide +kernel, rfl, by decide +kernel, by decide +kernel⟩
theorem sc_plain : FnScope ["fields", "words"] ["fields", "words"] (defScope s_plain) := ⟨rfl, rfl, rfl, by decide +kernel, rfl, by decide +kernel, by decide +kernel⟩
theorem sc_weak : FnScope ["field"] ["field"] (defScope s_weak) := ⟨rfl, rfl, rfl, by decide +kernel, rfl, by decide +kernel, by decide +kernel⟩
theorem sc_pair : FnScope ["key", "value"] ["key", "value"] (defScope s_pair) := ⟨rfl, rfl, rfl, by decide +kernel, rfl, by decide +kernel, by decide +kernel⟩
theorem sc_first_field : FnScope ["sort"] ["sort"] (defScope s_first_field) := ⟨rfl, rfl, rfl, by decide +kernel, rfl, by decide +kernel, by decide +kernel⟩
theorem sc_size_of : FnScope ["thing"] ["thing"] (defScope s_size_of) := ⟨rfl, rfl, rfl, by decide +kernel, rfl, by decide +kernel, by decide +kernel⟩
theorem sc_words_cell : FnScope ["words"] ["words"] (defScope s_words_cell) := ⟨rfl, rfl, rfl, by decide +kernel, rfl, by decide +kernel, by decide +kernel⟩
theorem sc_cells_of : FnScope ["thing", "serial", "marked", "words", "head", "between"] ["thing", "serial", "marked"] (defScope s_cells_of) := ⟨rfl, rfl, rfl, by decide +kernel, rfl, by decide +kernel, by decide +kernel⟩
theorem sc_Memory_init : FnScope ["self", "many", "cells"] ["self", "many", "cells"] (defScope s_Memory_init) := ⟨rfl, rfl, rfl, by decide +kernel, rfl, by decide +kernel, by decide +kernel⟩
theorem sc_Memory_put_in : FnScope ["self", "thing", "serial", "marked", "place"] ["self", "thing", "serial", "marked"] (defScope s_Memory_put_in) := ⟨rfl, rfl, rfl, by decide +kernel, rfl, by decide +kernel, by decide +kernel⟩
theorem sc_Memory_fill_from : FnScope ["self", "place", "some"] ["self", "place", "some"] (defScope s_Memory_fill_from) := ⟨rfl, rfl, rfl, by decide +kernel, rfl, by decide +kernel, by decide +kernel⟩
theorem sc_Memory_head_at : FnScope ["self", "place"] ["self", "place"] (defScope s_Memory_head_at) := ⟨rfl, rfl, rfl, by decide +kernel, rfl, by decide +kernel, by decide +kernel⟩
theorem sc_Memory_thing_at : FnScope ["self", "place", "sort", "some"] ["self", "place"] (defScope s_Memory_thing_at) := ⟨rfl, rfl, rfl, by decide +kernel, rfl, by decide +kernel, by decide +kernel⟩
theorem sc_Memory_words_at : FnScope ["self", "place"] ["self", "place"] (defScope s_Memory_words_at) := ⟨rfl, rfl, rfl, by decide +kernel, rfl, by decide +kernel, by decide +kernel⟩
theorem sc_Memory_serial_at : FnScope ["self", "place"] ["self", "place"] (defScope s_Memory_serial_at) := ⟨rfl, rfl, rfl, by decide +kernel, rfl, by decide +kernel, by decide +kernel⟩
theorem sc_Memory_size_at : FnScope ["self", "place"] ["self", "place"] (defScope s_Memory_size_at) := ⟨rfl, rfl, rfl, by decide +kernel, rfl, by decide +kernel, by decide +kernel⟩
theorem sc_Memory_sort_at : FnScope ["self", "place"] ["self", "place"] (defScope s_Memory_sort_at) := ⟨rfl, rfl, rfl, by decide +kernel, rfl, by decide +kernel, by decide +kernel⟩
theorem sc_Memory_marked_at : FnScope ["self", "place"] ["self", "place"] (defScope s_Memory_marked_at) := ⟨rfl, rfl, rfl, by decide +kernel, rfl, by decide +kernel, by decide +kernel⟩
theorem sc_Memory_set_mark : FnScope ["self", "place", "marked"] ["self", "place", "marked"] (defScope s_Memory_set_mark) := ⟨rfl, rfl, rfl, by decide +kernel, rfl, by decide +kernel, by decide +kernel⟩
theorem sc_Memory_set_field : FnScope ["self", "place", "at", "value"] ["self", "place", "at", "value"] (defScope s_Memory_set_field) := ⟨rfl, rfl, rfl, by decide +kernel, rfl, by decide +kernel, by decide +kernel⟩
theorem sc_Memory_set_words : FnScope ["self", "place", "words"] ["self", "place", "words"] (defScope s_Memory_set_words) := ⟨rfl, rfl, rfl, by decide +kernel, rfl, by decide +kernel, by decide +kernel⟩
theorem sc_Memory_take_out : FnScope ["self", "place"] ["self", "place"] (defScope s_Memory_take_out) := ⟨rfl, rfl, rfl, by decide +kernel, rfl, by decide +kernel, by decide +kernel⟩
theorem sc_Memory_places : FnScope ["self", "told", "room"] ["self"] (defScope s_Memory_places) := ⟨rfl, rfl, rfl, by decide +kernel, rfl, by decide +kernel, by decide +kernel⟩
theorem sc_Memory_places_in : FnScope ["self", "room"] ["self", "room"] (defScope s_Memory_places_in) := ⟨rfl, rfl, rfl, by decide +kernel, rfl, by decide +kernel, by decide +kernel⟩
theorem sc_law_cell_at : FnScope ["_law_script", "_law_k"] ["_law_script", "_law_k"] (defScope s_law_cell_at) := ⟨rfl, rfl, rfl, by decide +kernel, rfl, by decide +kernel, by decide +kernel⟩
theorem sc_law_drawn : FnScope ["_law_cell", "_law_sizes", "_law_free", "_law_found", "_law_number", "_law_size_here"] ["_law_cell", "_law_sizes", "_law_free"] (defScope s_law_drawn) := ⟨rfl, rfl, rfl, by decide +kernel, rfl, by decide +kernel, by decide +kernel⟩
theorem sc_law_value : FnScope ["_law_parts", "_law_there", "_law_way", "_law_number", "_law_at"] ["_law_parts", "_law_there"] (defScope s_law_value) := ⟨rfl, rfl, rfl, by decide +kernel, rfl, by decide +kernel, by decide +kernel⟩
theorem sc_law_shape : FnScope ["_law_cell", "_law_there", "_law_free", "_law_row", "_law_values", "_law_k", "_law_words", "_law_key"] ["_law_cell", "_law_there", "_law_free"] (defScope s_law_shape) := ⟨rfl, rfl, rfl, by decide +kernel, rfl, by decide +kernel, by decide +kernel⟩
theorem sc_law_thing : FnScope ["_law_shape_here"] ["_law_shape_here"] (defScope s_law_thing) := ⟨rfl, rfl, rfl, by decide +kernel, rfl, by decide +kernel, by decide +kernel⟩
theorem sc_law_size : FnScope ["_law_shape_here"] ["_law_shape_here"] (defScope s_law_size) := ⟨rfl, rfl, rfl, by decide +kernel, rfl, by decide +kernel, by decide +kernel⟩
theorem sc_law_whole : FnScope ["_law_found"] ["_law_found"] (defScope s_law_whole) := ⟨rfl, rfl, rfl, by decide +kernel, rfl, by decide +kernel, by decide +kernel⟩
theorem sc_law_held : FnScope ["_law_memory", "_law_place", "_law_row", "_law_shape_here", "_law_serial", "_law_marked", "_law_thing_here"] ["_law_memory", "_law_place", "_law_row"] (defScope s_law_held) := ⟨rfl, rfl, rfl, by decide +kernel, rfl, by decide +kernel, by decide +kernel⟩
theorem sc_law_apart : FnScope ["_law_memory", "_law_rows", "_law_wide", "_law_last", "_law_place"] ["_law_memory", "_law_rows", "_law_wide"] (defScope s_law_apart) := ⟨rfl, rfl, rfl, by decide +kernel, rfl, by decide +kernel, by decide +kernel⟩
theorem sc_law_least : FnScope ["_law_rows", "_law_many", "_law_wide", "_law_size_here", "_law_taken", "_law_place", "_law_at", "_law_free"] ["_law_rows", "_law_many", "_law_wide", "_law_size_here"] (defScope s_law_least) := ⟨rfl, rfl, rfl, by decide +kernel, rfl, by decide +kernel, by decide +kernel⟩
theorem sc_law_done : FnScope ["_law_memory", "_law_rows", "_law_drawn_here", "_law_shape_here", "_law_serial", "_law_many", "_law_wide", "_law_way", "_law_at", "_law_number", "_law_due", "_law_place", "_law_marked", "_law_words", "_law_spot"] ["_law_memory", "_law_rows", "_law_drawn_here", "_law_shape_here", "_law_serial", "_law_many", "_law_wide"] (defScope s_law_done) := ⟨rfl, rfl, rfl, by decide +kernel, rfl, by decide +kernel, by decide +kernel⟩
theorem sc_law : FnScope ["_law_script", "_law_first", "_law_many", "_law_wide", "_law_memory", "_law_rows", "_law_k", "_law_drawn_here", "_law_shape_here", "_law_place"] ["_law_script"] (defScope s_law) := ⟨rfl, rfl, rfl, by decide +kernel, rfl, by decide +kernel, by decide +kernel⟩
set_option genInjectivity false in
set_option genSizeOfSpec false in
structure Adr where
  a_header : Addr
  d_header : FuncData
  a_kind_in : Addr
  d_kind_in : FuncData
  a_size_in : Addr
  d_size_in : FuncData
  a_is_marked : Addr
  d_is_marked : FuncData
  a_has_words : Addr
  d_has_words : FuncData
  a_with_mark : Addr
  d_with_mark : FuncData
  a_with_words : Addr
  d_with_words : FuncData
  a_with_bit : Addr
  d_with_bit : FuncData
  a_Rooms_init : Addr
  d_Rooms_init : FuncData
  a_Rooms_gap : Addr
  d_Rooms_gap : FuncData
  a_Rooms_gap_in : Addr
  d_Rooms_gap_in : FuncData
  a_Rooms_fill_in : Addr
  d_Rooms_fill_in : FuncData
  a_Rooms_set_free : Addr
  d_Rooms_set_free : FuncData
  a_Rooms_read : Addr
  d_Rooms_read : FuncData
  a_Rooms_write : Addr
  d_Rooms_write : FuncData
  a_Rooms_room_of : Addr
  d_Rooms_room_of : FuncData
  a_Thing_init : Addr
  d_Thing_init : FuncData
  a_Thing_sort_of : Addr
  d_Thing_sort_of : FuncData
  a_Thing_fields : Addr
  d_Thing_fields : FuncData
  a_Thing_words : Addr
  d_Thing_words : FuncData
  a_PlainThing_init : Addr
  d_PlainThing_init : FuncData
  a_PlainThing_words : Addr
  d_PlainThing_words : FuncData
  a_PairThing_init : Addr
  d_PairThing_init : FuncData
  a_plain : Addr
  d_plain : FuncData
  a_weak : Addr
  d_weak : FuncData
  a_pair : Addr
  d_pair : FuncData
  a_first_field : Addr
  d_first_field : FuncData
  a_size_of : Addr
  d_size_of : FuncData
  a_words_cell : Addr
  d_words_cell : FuncData
  a_cells_of : Addr
  d_cells_of : FuncData
  a_Memory_init : Addr
  d_Memory_init : FuncData
  a_Memory_put_in : Addr
  d_Memory_put_in : FuncData
  a_Memory_fill_from : Addr
  d_Memory_fill_from : FuncData
  a_Memory_head_at : Addr
  d_Memory_head_at : FuncData
  a_Memory_thing_at : Addr
  d_Memory_thing_at : FuncData
  a_Memory_words_at : Addr
  d_Memory_words_at : FuncData
  a_Memory_serial_at : Addr
  d_Memory_serial_at : FuncData
  a_Memory_size_at : Addr
  d_Memory_size_at : FuncData
  a_Memory_sort_at : Addr
  d_Memory_sort_at : FuncData
  a_Memory_marked_at : Addr
  d_Memory_marked_at : FuncData
  a_Memory_set_mark : Addr
  d_Memory_set_mark : FuncData
  a_Memory_set_field : Addr
  d_Memory_set_field : FuncData
  a_Memory_set_words : Addr
  d_Memory_set_words : FuncData
  a_Memory_take_out : Addr
  d_Memory_take_out : FuncData
  a_Memory_places : Addr
  d_Memory_places : FuncData
  a_Memory_places_in : Addr
  d_Memory_places_in : FuncData
  a_law_cell_at : Addr
  d_law_cell_at : FuncData
  a_law_drawn : Addr
  d_law_drawn : FuncData
  a_law_value : Addr
  d_law_value : FuncData
  a_law_shape : Addr
  d_law_shape : FuncData
  a_law_thing : Addr
  d_law_thing : FuncData
  a_law_size : Addr
  d_law_size : FuncData
  a_law_whole : Addr
  d_law_whole : FuncData
  a_law_held : Addr
  d_law_held : FuncData
  a_law_apart : Addr
  d_law_apart : FuncData
  a_law_least : Addr
  d_law_least : FuncData
  a_law_done : Addr
  d_law_done : FuncData
  a_law : Addr
  d_law : FuncData
  c_Rooms : Addr
  c_Thing : Addr
  c_PlainThing : Addr
  c_PairThing : Addr
  c_Memory : Addr
  t_KIND_BITS : Tok
  t_MARK_BIT : Tok
  t_WORDS_BIT : Tok
  t_SIZE_FROM : Tok
  t_NOTHING : Addr
  t_SORTS : Addr
  t_SERIAL_AT : Tok
  t_WORDS_AT : Tok
structure Txt (K : PySem.W.Frag) (mg : Str → Option Value) (a : Adr) : Prop where
  f_header : Fun K "header" "header" s_header a.a_header a.d_header
  b_header : Binds K a.d_header ["kind", "marked", "words", "size"] []
  m_header : mg "header" = some (.ref a.a_header)
  f_kind_in : Fun K "kind_in" "kind_in" s_kind_in a.a_kind_in a.d_kind_in
  b_kind_in : Binds K a.d_kind_in ["number"] []
  m_kind_in : mg "kind_in" = some (.ref a.a_kind_in)
  f_size_in : Fun K "size_in" "size_in" s_size_in a.a_size_in a.d_size_in
  b_size_in : Binds K a.d_size_in ["number"] []
  m_size_in : mg "size_in" = some (.ref a.a_size_in)
  f_is_marked : Fun K "is_marked" "is_marked" s_is_marked a.a_is_marked a.d_is_marked
  b_is_marked : Binds K a.d_is_marked ["number"] []
  m_is_marked : mg "is_marked" = some (.ref a.a_is_marked)
  f_has_words : Fun K "has_words" "has_words" s_has_words a.a_has_words a.d_has_words
  b_has_words : Binds K a.d_has_words ["number"] []
  m_has_words : mg "has_words" = some (.ref a.a_has_words)
  f_with_mark : Fun K "with_mark" "with_mark" s_with_mark a.a_with_mark a.d_with_mark
  b_with_mark : Binds K a.d_with_mark ["number", "marked"] []
  m_with_mark : mg "with_mark" = some (.ref a.a_with_mark)
  f_with_words : Fun K "with_words" "with_words" s_with_words a.a_with_words a.d_with_words
  b_with_words : Binds K a.d_with_words ["number", "words"] []
  m_with_words : mg "with_words" = some (.ref a.a_with_words)
  f_with_bit : Fun K "with_bit" "with_bit" s_with_bit a.a_with_bit a.d_with_bit
  b_with_bit : Binds K a.d_with_bit ["number", "bit", "is_set"] []
  m_with_bit : mg "with_bit" = some (.ref a.a_with_bit)
  f_Rooms_init : Fun K "__init__" "Rooms.__init__" s_Rooms_init a.a_Rooms_init a.d_Rooms_init
  b_Rooms_init : Binds K a.d_Rooms_init ["self", "many", "cells"] []
  mk_Rooms : Mk K a.c_Rooms a.a_Rooms_init
  f_Rooms_gap : Fun K "gap" "Rooms.gap" s_Rooms_gap a.a_Rooms_gap a.d_Rooms_gap
  b_Rooms_gap : Binds K a.d_Rooms_gap ["self", "length"] []
  me_Rooms_gap : Meth K a.c_Rooms "gap" a.a_Rooms_gap
  f_Rooms_gap_in : Fun K "gap_in" "Rooms.gap_in" s_Rooms_gap_in a.a_Rooms_gap_in a.d_Rooms_gap_in
  b_Rooms_gap_in : Binds K a.d_Rooms_gap_in ["self", "room", "length"] []
  me_Rooms_gap_in : Meth K a.c_Rooms "gap_in" a.a_Rooms_gap_in
  f_Rooms_fill_in : Fun K "fill_in" "Rooms.fill_in" s_Rooms_fill_in a.a_Rooms_fill_in a.d_Rooms_fill_in
  b_Rooms_fill_in : Binds K a.d_Rooms_fill_in ["self", "place", "some"] []
  me_Rooms_fill_in : Meth K a.c_Rooms "fill_in" a.a_Rooms_fill_in
  f_Rooms_set_free : Fun K "set_free" "Rooms.set_free" s_Rooms_set_free a.a_Rooms_set_free a.d_Rooms_set_free
  b_Rooms_set_free : Binds K a.d_Rooms_set_free ["self", "place", "length"] []
  me_Rooms_set_free : Meth K a.c_Rooms "set_free" a.a_Rooms_set_free
  f_Rooms_read : Fun K "read" "Rooms.read" s_Rooms_read a.a_Rooms_read a.d_Rooms_read
  b_Rooms_read : Binds K a.d_Rooms_read ["self", "place"] []
  me_Rooms_read : Meth K a.c_Rooms "read" a.a_Rooms_read
  f_Rooms_write : Fun K "write" "Rooms.write" s_Rooms_write a.a_Rooms_write a.d_Rooms_write
  b_Rooms_write : Binds K a.d_Rooms_write ["self", "place", "value"] []
  me_Rooms_write : Meth K a.c_Rooms "write" a.a_Rooms_write
  f_Rooms_room_of : Fun K "room_of" "Rooms.room_of" s_Rooms_room_of a.a_Rooms_room_of a.d_Rooms_room_of
  b_Rooms_room_of : Binds K a.d_Rooms_room_of ["self", "place"] []
  me_Rooms_room_of : Meth K a.c_Rooms "room_of" a.a_Rooms_room_of
  f_Thing_init : Fun K "__init__" "Thing.__init__" s_Thing_init a.a_Thing_init a.d_Thing_init
  b_Thing_init : Binds K a.d_Thing_init ["self", "sort", "some"] []
  mk_Thing : Mk K a.c_Thing a.a_Thing_init
  f_Thing_sort_of : Fun K "sort_of" "Thing.sort_of" s_Thing_sort_of a.a_Thing_sort_of a.d_Thing_sort_of
  b_Thing_sort_of : Binds K a.d_Thing_sort_of ["self"] []
  me_Thing_sort_of : Meth K a.c_Thing "sort_of" a.a_Thing_sort_of
  f_Thing_fields : Fun K "fields" "Thing.fields" s_Thing_fields a.a_Thing_fields a.d_Thing_fields
  b_Thing_fields : Binds K a.d_Thing_fields ["self"] []
  me_Thing_fields : Meth K a.c_Thing "fields" a.a_Thing_fields
  f_Thing_words : Fun K "words" "Thing.words" s_Thing_words a.a_Thing_words a.d_Thing_words
  b_Thing_words : Binds K a.d_Thing_words ["self"] []
  me_Thing_words : Meth K a.c_Thing "words" a.a_Thing_words
  f_PlainThing_init : Fun K "__init__" "PlainThing.__init__" s_PlainThing_init a.a_PlainThing_init a.d_PlainThing_init
  b_PlainThing_init : Binds K a.d_PlainThing_init ["self", "some", "last_words"] []
  mk_PlainThing : Mk K a.c_PlainThing a.a_PlainThing_init
  f_PlainThing_words : Fun K "words" "PlainThing.words" s_PlainThing_words a.a_PlainThing_words a.d_PlainThing_words
  b_PlainThing_words : Binds K a.d_PlainThing_words ["self"] []
  me_PlainThing_words : Meth K a.c_PlainThing "words" a.a_PlainThing_words
  f_PairThing_init : Fun K "__init__" "PairThing.__init__" s_PairThing_init a.a_PairThing_init a.d_PairThing_init
  b_PairThing_init : Binds K a.d_PairThing_init ["self", "key", "value"] []
  mk_PairThing : Mk K a.c_PairThing a.a_PairThing_init
  f_plain : Fun K "plain" "plain" s_plain a.a_plain a.d_plain
  b_plain : Binds K a.d_plain ["fields", "words"] []
  m_plain : mg "plain" = some (.ref a.a_plain)
  f_weak : Fun K "weak" "weak" s_weak a.a_weak a.d_weak
  b_weak : Binds K a.d_weak ["field"] []
  m_weak : mg "weak" = some (.ref a.a_weak)
  f_pair : Fun K "pair" "pair" s_pair a.a_pair a.d_pair
  b_pair : Binds K a.d_pair ["key", "value"] []
  m_pair : mg "pair" = some (.ref a.a_pair)
  f_first_field : Fun K "first_field" "first_field" s_first_field a.a_first_field a.d_first_field
  b_first_field : Binds K a.d_first_field ["sort"] []
  m_first_field : mg "first_field" = some (.ref a.a_first_field)
  f_size_of : Fun K "size_of" "size_of" s_size_of a.a_size_of a.d_size_of
  b_size_of : Binds K a.d_size_of ["thing"] []
  m_size_of : mg "size_of" = some (.ref a.a_size_of)
  f_words_cell : Fun K "words_cell" "words_cell" s_words_cell a.a_words_cell a.d_words_cell
  b_words_cell : Binds K a.d_words_cell ["words"] []
  m_words_cell : mg "words_cell" = some (.ref a.a_words_cell)
  f_cells_of : Fun K "cells_of" "cells_of" s_cells_of a.a_cells_of a.d_cells_of
  b_cells_of : Binds K a.d_cells_of ["thing", "serial", "marked"] []
  m_cells_of : mg "cells_of" = some (.ref a.a_cells_of)
  f_Memory_init : Fun K "__init__" "Memory.__init__" s_Memory_init a.a_Memory_init a.d_Memory_init
  b_Memory_init : Binds K a.d_Memory_init ["self", "many", "cells"] []
  mk_Memory : Mk K a.c_Memory a.a_Memory_init
  f_Memory_put_in : Fun K "put_in" "Memory.put_in" s_Memory_put_in a.a_Memory_put_in a.d_Memory_put_in
  b_Memory_put_in : Binds K a.d_Memory_put_in ["self", "thing", "serial", "marked"] []
  me_Memory_put_in : Meth K a.c_Memory "put_in" a.a_Memory_put_in
  f_Memory_fill_from : Fun K "fill_from" "Memory.fill_from" s_Memory_fill_from a.a_Memory_fill_from a.d_Memory_fill_from
  b_Memory_fill_from : Binds K a.d_Memory_fill_from ["self", "place", "some"] []
  me_Memory_fill_from : Meth K a.c_Memory "fill_from" a.a_Memory_fill_from
  f_Memory_head_at : Fun K "head_at" "Memory.head_at" s_Memory_head_at a.a_Memory_head_at a.d_Memory_head_at
  b_Memory_head_at : Binds K a.d_Memory_head_at ["self", "place"] []
  me_Memory_head_at : Meth K a.c_Memory "head_at" a.a_Memory_head_at
  f_Memory_thing_at : Fun K "thing_at" "Memory.thing_at" s_Memory_thing_at a.a_Memory_thing_at a.d_Memory_thing_at
  b_Memory_thing_at : Binds K a.d_Memory_thing_at ["self", "place"] []
  me_Memory_thing_at : Meth K a.c_Memory "thing_at" a.a_Memory_thing_at
  f_Memory_words_at : Fun K "words_at" "Memory.words_at" s_Memory_words_at a.a_Memory_words_at a.d_Memory_words_at
  b_Memory_words_at : Binds K a.d_Memory_words_at ["self", "place"] []
  me_Memory_words_at : Meth K a.c_Memory "words_at" a.a_Memory_words_at
  f_Memory_serial_at : Fun K "serial_at" "Memory.serial_at" s_Memory_serial_at a.a_Memory_serial_at a.d_Memory_serial_at
  b_Memory_serial_at : Binds K a.d_Memory_serial_at ["self", "place"] []
  me_Memory_serial_at : Meth K a.c_Memory "serial_at" a.a_Memory_serial_at
  f_Memory_size_at : Fun K "size_at" "Memory.size_at" s_Memory_size_at a.a_Memory_size_at a.d_Memory_size_at
  b_Memory_size_at : Binds K a.d_Memory_size_at ["self", "place"] []
  me_Memory_size_at : Meth K a.c_Memory "size_at" a.a_Memory_size_at
  f_Memory_sort_at : Fun K "sort_at" "Memory.sort_at" s_Memory_sort_at a.a_Memory_sort_at a.d_Memory_sort_at
  b_Memory_sort_at : Binds K a.d_Memory_sort_at ["self", "place"] []
  me_Memory_sort_at : Meth K a.c_Memory "sort_at" a.a_Memory_sort_at
  f_Memory_marked_at : Fun K "marked_at" "Memory.marked_at" s_Memory_marked_at a.a_Memory_marked_at a.d_Memory_marked_at
  b_Memory_marked_at : Binds K a.d_Memory_marked_at ["self", "place"] []
  me_Memory_marked_at : Meth K a.c_Memory "marked_at" a.a_Memory_marked_at
  f_Memory_set_mark : Fun K "set_mark" "Memory.set_mark" s_Memory_set_mark a.a_Memory_set_mark a.d_Memory_set_mark
  b_Memory_set_mark : Binds K a.d_Memory_set_mark ["self", "place", "marked"] []
  me_Memory_set_mark : Meth K a.c_Memory "set_mark" a.a_Memory_set_mark
  f_Memory_set_field : Fun K "set_field" "Memory.set_field" s_Memory_set_field a.a_Memory_set_field a.d_Memory_set_field
  b_Memory_set_field : Binds K a.d_Memory_set_field ["self", "place", "at", "value"] []
  me_Memory_set_field : Meth K a.c_Memory "set_field" a.a_Memory_set_field
  f_Memory_set_words : Fun K "set_words" "Memory.set_words" s_Memory_set_words a.a_Memory_set_words a.d_Memory_set_words
  b_Memory_set_words : Binds K a.d_Memory_set_words ["self", "place", "words"] []
  me_Memory_set_words : Meth K a.c_Memory "set_words" a.a_Memory_set_words
  f_Memory_take_out : Fun K "take_out" "Memory.take_out" s_Memory_take_out a.a_Memory_take_out a.d_Memory_take_out
  b_Memory_take_out : Binds K a.d_Memory_take_out ["self", "place"] []
  me_Memory_take_out : Meth K a.c_Memory "take_out" a.a_Memory_take_out
  f_Memory_places : Fun K "places" "Memory.places" s_Memory_places a.a_Memory_places a.d_Memory_places
  b_Memory_places : Binds K a.d_Memory_places ["self"] []
  me_Memory_places : Meth K a.c_Memory "places" a.a_Memory_places
  f_Memory_places_in : Fun K "places_in" "Memory.places_in" s_Memory_places_in a.a_Memory_places_in a.d_Memory_places_in
  b_Memory_places_in : Binds K a.d_Memory_places_in ["self", "room"] []
  me_Memory_places_in : Meth K a.c_Memory "places_in" a.a_Memory_places_in
  f_law_cell_at : Fun K "_law_cell_at" "_law_cell_at" s_law_cell_at a.a_law_cell_at a.d_law_cell_at
  b_law_cell_at : Binds K a.d_law_cell_at ["_law_script", "_law_k"] []
  m_law_cell_at : mg "_law_cell_at" = some (.ref a.a_law_cell_at)
  f_law_drawn : Fun K "_law_drawn" "_law_drawn" s_law_drawn a.a_law_drawn a.d_law_drawn
  b_law_drawn : Binds K a.d_law_drawn ["_law_cell", "_law_sizes", "_law_free"] []
  m_law_drawn : mg "_law_drawn" = some (.ref a.a_law_drawn)
  f_law_value : Fun K "_law_value" "_law_value" s_law_value a.a_law_value a.d_law_value
  b_law_value : Binds K a.d_law_value ["_law_parts", "_law_there"] []
  m_law_value : mg "_law_value" = some (.ref a.a_law_value)
  f_law_shape : Fun K "_law_shape" "_law_shape" s_law_shape a.a_law_shape a.d_law_shape
  b_law_shape : Binds K a.d_law_shape ["_law_cell", "_law_there", "_law_free"] []
  m_law_shape : mg "_law_shape" = some (.ref a.a_law_shape)
  f_law_thing : Fun K "_law_thing" "_law_thing" s_law_thing a.a_law_thing a.d_law_thing
  b_law_thing : Binds K a.d_law_thing ["_law_shape_here"] []
  m_law_thing : mg "_law_thing" = some (.ref a.a_law_thing)
  f_law_size : Fun K "_law_size" "_law_size" s_law_size a.a_law_size a.d_law_size
  b_law_size : Binds K a.d_law_size ["_law_shape_here"] []
  m_law_size : mg "_law_size" = some (.ref a.a_law_size)
  f_law_whole : Fun K "_law_whole" "_law_whole" s_law_whole a.a_law_whole a.d_law_whole
  b_law_whole : Binds K a.d_law_whole ["_law_found"] []
  m_law_whole : mg "_law_whole" = some (.ref a.a_law_whole)
  f_law_held : Fun K "_law_held" "_law_held" s_law_held a.a_law_held a.d_law_held
  b_law_held : Binds K a.d_law_held ["_law_memory", "_law_place", "_law_row"] []
  m_law_held : mg "_law_held" = some (.ref a.a_law_held)
  f_law_apart : Fun K "_law_apart" "_law_apart" s_law_apart a.a_law_apart a.d_law_apart
  b_law_apart : Binds K a.d_law_apart ["_law_memory", "_law_rows", "_law_wide"] []
  m_law_apart : mg "_law_apart" = some (.ref a.a_law_apart)
  f_law_least : Fun K "_law_least" "_law_least" s_law_least a.a_law_least a.d_law_least
  b_law_least : Binds K a.d_law_least ["_law_rows", "_law_many", "_law_wide", "_law_size_here"] []
  m_law_least : mg "_law_least" = some (.ref a.a_law_least)
  f_law_done : Fun K "_law_done" "_law_done" s_law_done a.a_law_done a.d_law_done
  b_law_done : Binds K a.d_law_done ["_law_memory", "_law_rows", "_law_drawn_here", "_law_shape_here", "_law_serial", "_law_many", "_law_wide"] []
  m_law_done : mg "_law_done" = some (.ref a.a_law_done)
  f_law : Fun K "law" "law" s_law a.a_law a.d_law
  m_law : mg "law" = some (.ref a.a_law)
  me_PlainThing_sort_of : Meth K a.c_PlainThing "sort_of" a.a_Thing_sort_of
  me_PlainThing_fields : Meth K a.c_PlainThing "fields" a.a_Thing_fields
  me_PairThing_sort_of : Meth K a.c_PairThing "sort_of" a.a_Thing_sort_of
  me_PairThing_fields : Meth K a.c_PairThing "fields" a.a_Thing_fields
  me_PairThing_words : Meth K a.c_PairThing "words" a.a_Thing_words
  cf_Thing_init : ClsFn K a.c_Thing "__init__" a.a_Thing_init
  ty_Thing : Tyc K a.c_Thing
  ty_PlainThing : Tyc K a.c_PlainThing
  ty_PairThing : Tyc K a.c_PairThing
  ki_Thing_Thing : PySem.W.kitOne K (.ref a.c_Thing) (.ref a.c_Thing) = some true
  ki_PlainThing_Thing : PySem.W.kitOne K (.ref a.c_PlainThing) (.ref a.c_Thing) = some true
  ki_PairThing_Thing : PySem.W.kitOne K (.ref a.c_PairThing) (.ref a.c_Thing) = some true
  cl_Rooms : Cls K a.c_Rooms
  mc_Rooms : mg "Rooms" = some (.ref a.c_Rooms)
  na_Rooms_many : NoAttr K a.c_Rooms "many"
  na_Rooms_cells : NoAttr K a.c_Rooms "cells"
  na_Rooms_inside : NoAttr K a.c_Rooms "inside"
  cl_Thing : Cls K a.c_Thing
  mc_Thing : mg "Thing" = some (.ref a.c_Thing)
  na_Thing_called : NoAttr K a.c_Thing "called"
  na_Thing_parts : NoAttr K a.c_Thing "parts"
  cl_PlainThing : Cls K a.c_PlainThing
  mc_PlainThing : mg "PlainThing" = some (.ref a.c_PlainThing)
  na_PlainThing_called : NoAttr K a.c_PlainThing "called"
  na_PlainThing_parts : NoAttr K a.c_PlainThing "parts"
  na_PlainThing_last_words : NoAttr K a.c_PlainThing "last_words"
  cl_PairThing : Cls K a.c_PairThing
  mc_PairThing : mg "PairThing" = some (.ref a.c_PairThing)
  na_PairThing_called : NoAttr K a.c_PairThing "called"
  na_PairThing_parts : NoAttr K a.c_PairThing "parts"
  cl_Memory : Cls K a.c_Memory
  mc_Memory : mg "Memory" = some (.ref a.c_Memory)
  na_Memory_rooms : NoAttr K a.c_Memory "rooms"
  na_Memory_begins : NoAttr K a.c_Memory "begins"
  c_KIND_BITS : mg "KIND_BITS" = some (.int 3 a.t_KIND_BITS)
  c_MARK_BIT : mg "MARK_BIT" = some (.int 4 a.t_MARK_BIT)
  c_WORDS_BIT : mg "WORDS_BIT" = some (.int 8 a.t_WORDS_BIT)
  c_SIZE_FROM : mg "SIZE_FROM" = some (.int 4 a.t_SIZE_FROM)
  c_NOTHING : mg "NOTHING" = some (.ref a.t_NOTHING)
  d_NOTHING : ∃ o, K.lookup a.t_NOTHING = some o ∧ o.cls = .type "tuple" ∧ o.dict = none
  q_NOTHING : ∀ H : Hp, SqT K H a.t_NOTHING [.str "nothing"]
  c_SORTS : mg "SORTS" = some (.ref a.t_SORTS)
  d_SORTS : ∃ o, K.lookup a.t_SORTS = some o ∧ o.cls = .type "tuple" ∧ o.dict = none
  q_SORTS : ∀ H : Hp, SqT K H a.t_SORTS [.str "plain", .str "weak", .str "pair"]
  c_SERIAL_AT : mg "SERIAL_AT" = some (.int 1 a.t_SERIAL_AT)
  c_WORDS_AT : mg "WORDS_AT" = some (.int 2 a.t_WORDS_AT)
  n_abs : mg "abs" = none
  n_bool : mg "bool" = none
  n_enumerate : mg "enumerate" = none
  n_int : mg "int" = none
  n_isinstance : mg "isinstance" = none
  n_len : mg "len" = none
  n_list : mg "list" = none
  n_min : mg "min" = none
  n_range : mg "range" = none
  n_sorted : mg "sorted" = none
def AllFree (xs : List V) (p L : Nat) : Prop := ∀ j, j < L → xs[p + j]? = some V.non
def Fits (xs : List V) (c L p : Nat) : Prop := p + L ≤ xs.length ∧ p / c = (p + L - 1) / c ∧ AllFree xs p L
def IsGap (xs : List V) (c L : Nat) : Option Nat → Prop
  | none => ∀ p, ¬ Fits xs c L p
  | some p => Fits xs c L p ∧ ∀ q, q < p → ¬ Fits xs c L q
theorem IsGap.one {xs : List V} {c L : Nat} : ∀ {r r' : Option Nat}, IsGap xs c L r → IsGap xs c L r' → r = r'
  | none, none, _, _ => rfl
  | none, some p, h, h' => absurd h'.1 (h p)
  | some p, none, h, h' => absurd h.1 (h' p)
  | some p, some q, h, h' => by
    rcases Nat.lt_trichotomy p q with z | z | z
    · exact absurd h.1 (h'.2 p z)
    · rw [z]
    · exact absurd h'.1 (h.2 q z)
theorem fits_room {xs : List V} {c L p r : Nat} (hc : 0 < c) (hL : 0 < L) (h : Fits xs c L p) (hr : p / c = r) : r * c ≤ p ∧ p + L ≤ r * c + c := by
  obtain ⟨_, e, _⟩ := h
  have h1 : c * (p / c) ≤ p := Nat.mul_div_le p c
  have h2 : p + L - 1 < c * ((p + L - 1) / c + 1) := Nat.lt_mul_div_succ _ hc
  rw [← e, hr, Nat.mul_add, Nat.mul_one] at h2
  rw [hr] at h1
  rw [Nat.mul_comm r c]
  constructor <;> omega
theorem room_fits {xs : List V} {c L p r m : Nat} (hc : 0 < c) (hL : 0 < L) (hx : xs.length = m * c) (hr : r < m) (h1 : r * c ≤ p) (h2 : p + L ≤ r * c + c) (h : AllFree xs p L) : Fits xs c L p := by
  have e1 : p / c = r := by
    apply Nat.div_eq_of_lt_le <;> (try rw [Nat.succ_mul]) <;> omega
  have e2 : (p + L - 1) / c = r := by
    apply Nat.div_eq_of_lt_le <;> (try rw [Nat.succ_mul]) <;> omega
  refine ⟨?_, by rw [e1, e2], h⟩
  have : (r + 1) * c ≤ m * c := Nat.mul_le_mul_right c hr
  rw [Nat.succ_mul] at this
  omega
structure RunAt (xs : List V) (b i f L : Nat) : Prop where
  le : f ≤ i
  lt : f < L
  free : ∀ j, j < f → xs[b + i - 1 - j]? = some V.non
  stop : f < i → ∃ v, xs[b + i - 1 - f]? = some v ∧ v ≠ V.non
  no : ∀ p, b ≤ p → p + L ≤ b + i → ¬ AllFree xs p L
theorem RunAt.zero {xs : List V} {b L : Nat} (hL : 0 < L) : RunAt xs b 0 0 L :=
  ⟨Nat.le_refl _, hL, fun j h => absurd h (Nat.not_lt_zero _), fun h => absurd h (Nat.lt_irrefl _), fun p h1 h2 _ => by omega⟩
theorem RunAt.free_next {xs : List V} {b i f L : Nat} (h : RunAt xs b i f L) (hx : xs[b + i]? = some V.non) (hne : f + 1 ≠ L) : RunAt xs b (i + 1) (f + 1) L where
  le := by have := h.le; omega
  lt := by have := h.lt; omega
  free := fun j hj => by
    cases j with
    | zero => simpa using hx
    | succ k =>
      have e : b + (i + 1) - 1 - (k + 1) = b + i - 1 - k := by omega
      rw [e]
      exact h.free k (by omega)
  stop := fun hf => by
    have e : b + (i + 1) - 1 - (f + 1) = b + i - 1 - f := by omega
    rw [e]
    exact h.stop (by omega)
  no := fun p h1 h2 ha => by
    by_cases hp : p + L ≤ b + i
    · exact h.no p h1 hp ha
    · have hle := h.le
      have hlt := h.lt
      have hf : f < i := by omega
      obtain ⟨v, hv, hn⟩ := h.stop hf
      have := ha (b + i - 1 - f - p) (by omega)
      have e : p + (b + i - 1 - f - p) = b + i - 1 - f := by omega
      rw [e, hv] at this
      exact hn (Option.some.inj this)
theorem RunAt.full_next {xs : List V} {b i f L : Nat} {v : V} (h : RunAt xs b i f L) (hx : xs[b + i]? = some v) (hv : v ≠ V.non) : RunAt xs b (i + 1) 0 L where
  le := Nat.zero_le _
  lt := by have := h.lt; omega
  free := fun j hj => absurd hj (Nat.not_lt_zero _)
  stop := fun _ => ⟨v, by simpa using hx, hv⟩
  no := fun p h1 h2 ha => by
    by_cases hp : p + L ≤ b + i
    · exact h.no p h1 hp ha
    · have hlt := h.lt
      have := ha (b + i - p) (by omega)
      have e : p + (b + i - p) = b + i := by omega
      rw [e, hx] at this
      exact hv (Option.some.inj this)
theorem RunAt.found {xs : List V} {b i f L : Nat} (h : RunAt xs b i f L) (hx : xs[b + i]? = some V.non) (he : f + 1 = L) : b ≤ b + i + 1 - L ∧ AllFree xs (b + i + 1 - L) L ∧ ∀ p, b ≤ p → p < b + i + 1 - L → ¬ AllFree xs p L := by
  have hle := h.le
  refine ⟨by omega, fun j hj => ?_, fun p h1 h2 => h.no p h1 (by omega)⟩
  by_cases hj2 : j = f
  · have e : b + i + 1 - L + j = b + i := by omega
    rw [e]
    exact hx
  · have := h.free (f - 1 - j) (by omega)
    have e : b + i - 1 - (f - 1 - j) = b + i + 1 - L + j := by omega
    rw [e] at this
    exact this
def setAll : List V → Nat → List V → List V
  | xs, _, [] => xs
  | xs, p, y :: ys => setAll (xs.set p y) (p + 1) ys
theorem setAll_length : ∀ (ys xs : List V) (p : Nat), (setAll xs p ys).length = xs.length
  | [], _, _ => rfl
  | y :: ys, xs, p => by rw [setAll, setAll_length ys, List.length_set]
theorem setAll_snoc (y : V) : ∀ (ys xs : List V) (p : Nat), (setAll xs p ys).set (p + ys.length) y = setAll xs p (ys ++ [y])
  | [], _, _ => rfl
  | z :: ys, xs, p => by
    rw [List.cons_append, setAll, setAll, ← setAll_snoc y ys, List.length_cons]
    congr 1
    omega
theorem setAll_take {ys xs : List V} {p i : Nat} {y : V} (h : ys[i]? = some y) : (setAll xs p (ys.take i)).set (p + i) y = setAll xs p (ys.take (i + 1)) := by
  obtain ⟨hlt, e⟩ := List.getElem?_eq_some_iff.mp h
  have hl : (ys.take i).length = i := by rw [List.length_take]; omega
  have := setAll_snoc y (ys.take i) xs p
  rw [hl] at this
  rw [this, List.take_succ_eq_append_getElem hlt, e]
theorem gap_found {xs : List V} {c m L i q : Nat} (hc : 0 < c) (hL : 0 < L) (hx : xs.length = m * c) (hi : i < m) (inv : ∀ r, r < i → ∀ p, r * c ≤ p → p + L ≤ r * c + c → ¬ AllFree xs p L)
    (h1 : i * c ≤ q) (h2 : q + L ≤ i * c + c) (ha : AllFree xs q L) (least : ∀ p, i * c ≤ p → p < q → ¬ AllFree xs p L) : IsGap xs c L (some q) := by
  refine ⟨room_fits hc hL hx hi h1 h2 ha, fun p hp hf => ?_⟩
  obtain ⟨a1, a2⟩ := fits_room hc hL hf rfl
  by_cases hr : p / c < i
  · exact inv _ hr p a1 a2 hf.2.2
  · have : i * c ≤ p / c * c := Nat.mul_le_mul_right c (by omega)
    exact least p (by omega) hp hf.2.2
theorem gap_none {xs : List V} {c m L : Nat} (hc : 0 < c) (hL : 0 < L) (hx : xs.length = m * c) (inv : ∀ r, r < m → ∀ p, r * c ≤ p → p + L ≤ r * c + c → ¬ AllFree xs p L) : IsGap xs c L none := by
  intro p hf
  obtain ⟨a1, a2⟩ := fits_room hc hL hf rfl
  refine inv (p / c) ?_ p a1 a2 hf.2.2
  have h1 := hf.1
  rw [hx] at h1
  rw [Nat.div_lt_iff_lt_mul hc]
  omega
theorem setAll_out : ∀ (ys xs : List V) (p j : Nat), (j < p ∨ p + ys.length ≤ j) → (setAll xs p ys)[j]? = xs[j]?
  | [], _, _, _, _ => rfl
  | y :: ys, xs, p, j, h => by
    rw [List.length_cons] at h
    rw [setAll, setAll_out ys _ _ j (by omega), List.getElem?_set_ne (by omega)]
theorem setAll_in : ∀ (ys xs : List V) (p i : Nat) (v : V), p + ys.length ≤ xs.length → ys[i]? = some v → (setAll xs p ys)[p + i]? = some v
  | [], _, _, _, _, _, h => by simp at h
  | y :: ys, xs, p, 0, v, hl, h => by
    simp at h
    subst h
    rw [List.length_cons] at hl
    rw [setAll, setAll_out ys _ _ _ (.inl (by omega)), Nat.add_zero, List.getElem?_set_self (by omega)]
  | y :: ys, xs, p, i + 1, v, hl, h => by
    rw [List.length_cons] at hl
    have := setAll_in ys (xs.set p y) (p + 1) i v (by rw [List.length_set]; omega) (by simpa using h)
    rw [setAll, show p + (i + 1) = p + 1 + i by omega]
    exact this
structure Lay (xs : List V) (c : Nat) (es : List (Nat × List V)) : Prop where
  one : ∀ b ∈ es, 0 < b.2.length ∧ b.1 / c = (b.1 + b.2.length - 1) / c
  at_ : ∀ b ∈ es, ∀ (i : Nat) v, b.2[i]? = some v → v ≠ .non ∧ xs[b.1 + i]? = some v
  full : ∀ (j : Nat) v, xs[j]? = some v → v ≠ .non → ∃ b ∈ es, b.1 ≤ j ∧ j < b.1 + b.2.length
  dis : es.Pairwise fun b d => b.1 + b.2.length ≤ d.1 ∨ d.1 + d.2.length ≤ b.1
theorem Lay.nil (n c : Nat) : Lay (List.replicate n V.non) c [] where
  one := fun b hb => (nomatch hb)
  at_ := fun b hb => (nomatch hb)
  full := fun j v h hv => absurd (List.eq_of_mem_replicate (List.mem_of_getElem? h)) hv
  dis := .nil
theorem Lay.le {xs : List V} {c : Nat} {es : List (Nat × List V)} (L : Lay xs c es) {b : Nat × List V} (hb : b ∈ es) : b.1 + b.2.length ≤ xs.length := by
  have h0 := (L.one b hb).1
  have := (L.at_ b hb (b.2.length - 1) _ (List.getElem?_eq_getElem (by omega))).2
  have := (List.getElem?_eq_some_iff.mp this).1
  omega
theorem Lay.apart {xs : List V} {c : Nat} {es : List (Nat × List V)} (L : Lay xs c es) {b : Nat × List V} (hb : b ∈ es) {g n : Nat} (h : AllFree xs g n) (hn : 0 < n) : b.1 + b.2.length ≤ g ∨ g + n ≤ b.1 := by
  have h0 := (L.one b hb).1
  by_cases h1 : b.1 + b.2.length ≤ g
  · exact .inl h1
  · by_cases h2 : g + n ≤ b.1
    · exact .inr h2
    · exfalso
      have key : ∀ i j, i < b.2.length → j < n → b.1 + i = g + j → False := fun i j hi hj e => by
        obtain ⟨hv, hx⟩ := L.at_ b hb i _ (List.getElem?_eq_getElem hi)
        have := h j hj
        rw [← e, hx] at this
        exact hv (Option.some.inj this)
      by_cases h3 : b.1 ≤ g
      · exact key (g - b.1) 0 (by omega) hn (by omega)
      · exact key 0 (b.1 - g) h0 (by omega) (by omega)
theorem Lay.put {xs : List V} {c : Nat} {es : List (Nat × List V)} (L : Lay xs c es) {g : Nat} {ys : List V} (F : Fits xs c ys.length g) (h0 : 0 < ys.length) (hn : ∀ v ∈ ys, v ≠ .non) : Lay (setAll xs g ys) c (es ++ [(g, ys)]) where
  one := fun b hb => by
    rcases List.mem_append.mp hb with h | h
    · exact L.one b h
    · rw [List.mem_singleton.mp h]
      exact ⟨h0, F.2.1⟩
  at_ := fun b hb i v hv => by
    rcases List.mem_append.mp hb with h | h
    · obtain ⟨h1, h2⟩ := L.at_ b h i v hv
      refine ⟨h1, ?_⟩
      have hi := (List.getElem?_eq_some_iff.mp hv).1
      rw [setAll_out]
      · exact h2
      · rcases L.apart h F.2.2 h0 with z | z
        · exact .inl (by omega)
        · exact .inr (by omega)
    · rw [List.mem_singleton.mp h] at hv ⊢
      exact ⟨hn v (List.mem_of_getElem? hv), setAll_in ys xs g i v F.1 hv⟩
  full := fun j v hj hv => by
    by_cases h : j < g ∨ g + ys.length ≤ j
    · rw [setAll_out _ _ _ _ h] at hj
      obtain ⟨b, hb, h1⟩ := L.full j v hj hv
      exact ⟨b, List.mem_append_left _ hb, h1⟩
    · exact ⟨(g, ys), List.mem_append_right _ (List.mem_singleton.mpr rfl), by dsimp only; omega, by dsimp only; omega⟩
  dis := by
    rw [List.pairwise_append]
    refine ⟨L.dis, by simp, fun b hb d hd => ?_⟩
    rw [List.mem_singleton.mp hd]
    exact L.apart hb F.2.2 h0
theorem Lay.same {xs : List V} {c : Nat} {es : List (Nat × List V)} (L : Lay xs c es) {b d : Nat × List V} (hb : b ∈ es) (hd : d ∈ es) (e : b.1 = d.1) : b = d := by
  have h := L.dis
  have hb0 := (L.one b hb).1
  have hd0 := (L.one d hd).1
  have : es.Pairwise fun x y => x ∈ es → y ∈ es → x.1 = y.1 → x = y := h.imp_of_mem (fun {x y} hx hy hxy _ _ e => by
    have h1 := (L.one x hx).1
    have h2 := (L.one y hy).1
    omega)
  by_cases z : b = d
  · exact z
  · exfalso
    rcases List.mem_iff_getElem.mp hb with ⟨i, hi, ei⟩
    rcases List.mem_iff_getElem.mp hd with ⟨j, hj, ej⟩
    rcases Nat.lt_trichotomy i j with q | q | q
    · have := List.pairwise_iff_getElem.mp h i j hi hj q
      rw [ei, ej] at this
      omega
    · subst q
      exact z (ei.symm.trans ej)
    · have := List.pairwise_iff_getElem.mp h j i hj hi q
      rw [ei, ej] at this
      omega
theorem Lay.take {xs : List V} {c : Nat} {es : List (Nat × List V)} (L : Lay xs c es) {b : Nat × List V} (hb : b ∈ es) : Lay (setAll xs b.1 (List.replicate b.2.length V.non)) c (es.filter fun d => decide (d.1 ≠ b.1)) where
  one := fun d hd => L.one d (List.mem_filter.mp hd).1
  at_ := fun d hd i v hv => by
    obtain ⟨h1, h2⟩ := List.mem_filter.mp hd
    have h3 : d.1 ≠ b.1 := of_decide_eq_true h2
    obtain ⟨h4, h5⟩ := L.at_ d h1 i v hv
    refine ⟨h4, ?_⟩
    have hi := (List.getElem?_eq_some_iff.mp hv).1
    rw [setAll_out, h5]
    rw [List.length_replicate]
    have : b.1 + b.2.length ≤ d.1 ∨ d.1 + d.2.length ≤ b.1 := by
      rcases List.mem_iff_getElem.mp hb with ⟨k, hk, ek⟩
      rcases List.mem_iff_getElem.mp h1 with ⟨j, hj, ej⟩
      rcases Nat.lt_trichotomy k j with q | q | q
      · have := List.pairwise_iff_getElem.mp L.dis k j hk hj q
        rw [ek, ej] at this
        exact this
      · subst q
        rw [ek] at ej
        exact absurd (by rw [ej]) h3
      · have := List.pairwise_iff_getElem.mp L.dis j k hj hk q
        rw [ek, ej] at this
        omega
    omega
  full := fun j v hj hv => by
    have hl := L.le hb
    by_cases h : j < b.1 ∨ b.1 + b.2.length ≤ j
    · rw [setAll_out _ _ _ _ (by rw [List.length_replicate]; exact h)] at hj
      obtain ⟨d, hd, h1⟩ := L.full j v hj hv
      refine ⟨d, List.mem_filter.mpr ⟨hd, decide_eq_true fun e => ?_⟩, h1⟩
      have := L.same hd hb e
      subst this
      omega
    · have := setAll_in (List.replicate b.2.length V.non) xs b.1 (j - b.1) V.non (by rw [List.length_replicate]; exact hl) (by rw [List.getElem?_replicate]; simp; omega)
      rw [show b.1 + (j - b.1) = j by omega, hj] at this
      exact absurd (Option.some.inj this) hv
  dis := L.dis.sublist List.filter_sublist
theorem Lay.set {xs : List V} {c : Nat} {es : List (Nat × List V)} (L : Lay xs c es) {b : Nat × List V} (hb : b ∈ es) {i : Nat} {v : V} (hi : i < b.2.length) (hv : v ≠ .non) :
    Lay (xs.set (b.1 + i) v) c (es.map fun d => if d.1 = b.1 then (d.1, d.2.set i v) else d) := by
  have hl := L.le hb
  have len : ∀ d : Nat × List V, (if d.1 = b.1 then (d.1, d.2.set i v) else d).1 = d.1 ∧ (if d.1 = b.1 then (d.1, d.2.set i v) else d).2.length = d.2.length := fun d => by
    split
    · exact ⟨rfl, List.length_set⟩
    · exact ⟨rfl, rfl⟩
  refine ⟨fun d hd => ?_, fun d hd k u hu => ?_, fun j u hj hu => ?_, ?_⟩
  · obtain ⟨e, he, rfl⟩ := List.mem_map.mp hd
    rw [(len e).1, (len e).2]
    exact L.one e he
  · obtain ⟨e, he, rfl⟩ := List.mem_map.mp hd
    by_cases z : e.1 = b.1
    · have := L.same he hb z
      subst this
      rw [if_pos rfl] at hu ⊢
      dsimp only at hu ⊢
      by_cases y : i = k
      · subst y
        rw [List.getElem?_set_self hi] at hu
        cases hu
        exact ⟨hv, by rw [List.getElem?_set_self (by omega)]⟩
      · rw [List.getElem?_set_ne y] at hu
        rw [List.getElem?_set_ne (by omega)]
        exact L.at_ e he k u hu
    · rw [if_neg z] at hu ⊢
      obtain ⟨h1, h2⟩ := L.at_ e he k u hu
      refine ⟨h1, ?_⟩
      rw [List.getElem?_set_ne, h2]
      intro q
      have hk := (List.getElem?_eq_some_iff.mp hu).1
      rcases List.mem_iff_getElem.mp hb with ⟨m, hm, em⟩
      rcases List.mem_iff_getElem.mp he with ⟨j, hj, ej⟩
      rcases Nat.lt_trichotomy m j with w | w | w
      · have := List.pairwise_iff_getElem.mp L.dis m j hm hj w
        rw [em, ej] at this
        omega
      · subst w
        rw [em] at ej
        exact z (by rw [ej])
      · have := List.pairwise_iff_getElem.mp L.dis j m hj hm w
        rw [em, ej] at this
        omega
  · by_cases y : b.1 + i = j
    · refine ⟨_, List.mem_map.mpr ⟨b, hb, rfl⟩, ?_⟩
      rw [(len b).1, (len b).2]
      omega
    · rw [List.getElem?_set_ne y] at hj
      obtain ⟨d, hd, h1⟩ := L.full j u hj hu
      refine ⟨_, List.mem_map.mpr ⟨d, hd, rfl⟩, ?_⟩
      rw [(len d).1, (len d).2]
      exact h1
  · rw [List.pairwise_map]
    refine L.dis.imp fun {x y} h => ?_
    rw [(len x).1, (len x).2, (len y).1, (len y).2]
    exact h
section
variable {P : Program} {w : World} {K : PySem.W.Frag} {mg : Str → Option Value} {base : Heap} {a : Adr}
def wBit (n b : Int) (z : Bool) : Int := if z = true then Builtin.bitOr n b else n - Builtin.bitAnd n b
def hd (k : Int) (m w : Bool) (z : Int) : Int := k + 16 * z + (if m = true then 4 else 0) + (if w = true then 8 else 0)
theorem wBit4 (n : Int) (z : Bool) : wBit n 4 z = n - n / 4 % 2 * 4 + (if z = true then 4 else 0) := by
  unfold wBit
  cases z
  · rw [if_neg Bool.false_ne_true, if_neg Bool.false_ne_true, and_bit2]; omega
  · rw [if_pos rfl, if_pos rfl, or_bit2]; omega
theorem wBit8 (n : Int) (z : Bool) : wBit n 8 z = n - n / 8 % 2 * 8 + (if z = true then 8 else 0) := by
  unfold wBit
  cases z
  · rw [if_neg Bool.false_ne_true, if_neg Bool.false_ne_true, and_bit3]; omega
  · rw [if_pos rfl, if_pos rfl, or_bit3]; omega
theorem hd_made {k z : Int} (m w : Bool) (h0 : 0 ≤ k) (h1 : k < 3) (hz : 0 ≤ z) : wBit (wBit (Builtin.bitOr k (z * 16)) 4 m) 8 w = hd k m w z := by
  rw [or_low16 h0 (by omega) hz, wBit8, wBit4]
  unfold hd
  cases m <;> cases w <;> simp only [if_true, Bool.false_eq_true, if_false] <;> omega
theorem hd_kind {k z : Int} {m w : Bool} (h0 : 0 ≤ k) (h1 : k < 3) : hd k m w z % 4 = k := by
  unfold hd
  cases m <;> cases w <;> simp only [if_true, Bool.false_eq_true, if_false] <;> omega
theorem hd_size {k z : Int} {m w : Bool} (h0 : 0 ≤ k) (h1 : k < 3) : hd k m w z / 16 = z := by
  unfold hd
  cases m <;> cases w <;> simp only [if_true, Bool.false_eq_true, if_false] <;> omega
theorem hd_mark {k z : Int} {m w : Bool} (h0 : 0 ≤ k) (h1 : k < 3) : decide (hd k m w z / 4 % 2 = 1) = m := by
  unfold hd
  cases m <;> cases w <;> simp only [if_true, Bool.false_eq_true, if_false, decide_eq_true_eq, decide_eq_false_iff_not] <;> omega
theorem hd_words {k z : Int} {m w : Bool} (h0 : 0 ≤ k) (h1 : k < 3) : decide (hd k m w z / 8 % 2 = 1) = w := by
  unfold hd
  cases m <;> cases w <;> simp only [if_true, Bool.false_eq_true, if_false, decide_eq_true_eq, decide_eq_false_iff_not] <;> omega
theorem mk_set {k z : Int} (m w y : Bool) (h0 : 0 ≤ k) (h1 : k < 3) : wBit (hd k m w z) 4 y = hd k y w z := by
  rw [wBit4]
  unfold hd
  cases m <;> cases w <;> cases y <;> simp only [if_true, Bool.false_eq_true, if_false] <;> omega
theorem wd_set {k z : Int} (m w y : Bool) (h0 : 0 ≤ k) (h1 : k < 3) : wBit (hd k m w z) 8 y = hd k m y z := by
  rw [wBit8]
  unfold hd
  cases m <;> cases w <;> cases y <;> simp only [if_true, Bool.false_eq_true, if_false] <;> omega
theorem ne_bit2 (n : Int) : (!decide (V.int (Builtin.bitAnd n 4) = V.int 0)) = decide (n / 4 % 2 = 1) := by
  rw [and_bit2]
  by_cases h : n / 4 % 2 = 1
  · rw [h]; rfl
  · have e : n / 4 % 2 = 0 := by omega
    rw [e]; rfl
theorem ne_bit3 (n : Int) : (!decide (V.int (Builtin.bitAnd n 8) = V.int 0)) = decide (n / 8 % 2 = 1) := by
  rw [and_bit3]
  by_cases h : n / 8 % 2 = 1
  · rw [h]; rfl
  · have e : n / 8 % 2 = 0 := by omega
    rw [e]; rfl
theorem big_lt {z : Int} (h0 : 0 ≤ z) (h : z < 10 ^ 60) : z.natAbs < 2 ^ 1000 := by
  have e : z.natAbs < 10 ^ 60 := by
    have e2 : (z.natAbs : Int) < ((10 ^ 60 : Nat) : Int) := by rw [Int.natAbs_of_nonneg h0]; exact h
    exact Int.ofNat_lt.mp e2
  exact Nat.lt_trans e (by decide +kernel)
def sp_with_bit : Sp := fun vs H Q _ => ∃ n b z, vs = [.int n, .int b, .bl z] ∧ Q (.int (wBit n b z)) H
theorem ok_with_bit (T : Txt K mg a) : FnOk P w K mg base CX0 1 a.a_with_bit a.d_with_bit ["number", "bit", "is_set"] sp_with_bit := by
  refine T.f_with_bit.ok sc_with_bit (fun vs H Q E h => ?_) (fun cdv A outer s H vs Q E hr h => ?_)
  · obtain ⟨_, _, _, rfl, _⟩ := h
    rfl
  · obtain ⟨n, b, z, rfl, q⟩ := h
    refine ⟨_, (pss_one (ps_ret (pe_ifExp (pt_val (pv 2)) (pe_op op_or (pv 0) (pv 1)) (pe_op op_sub (pv 0) (pe_op op_and (pv 0) (pv 1)))))), ?_⟩
    dsimp! []
    unfold wBit at q
    cases z with
    | true => simpa using q
    | false => simpa using q
def sp_with_mark : Sp := fun vs H Q _ => ∃ n z, vs = [.int n, .bl z] ∧ Q (.int (wBit n 4 z)) H
theorem ok_with_mark (T : Txt K mg a) : FnOk P w K mg base CX0 2 a.a_with_mark a.d_with_mark ["number", "marked"] sp_with_mark := by
  refine T.f_with_mark.ok sc_with_mark (fun vs H Q E h => ?_) (fun cdv A outer s H vs Q E hr h => ?_)
  · obtain ⟨_, _, rfl, _⟩ := h
    rfl
  · obtain ⟨n, z, rfl, q⟩ := h
    refine ⟨_, (pss_one (ps_ret (pe_call (ok_with_bit T) (hr.mono (by decide)) rfl T.m_with_bit T.f_with_bit.kp T.b_with_bit .nil pass0 (pa_cons (pv 0) (pa_cons (pe_glob (v := .int 4) rfl T.c_MARK_BIT ⟨_, rfl⟩) (pa_cons (pv 1) pa_nil)))))), ?_⟩
    dsimp! []
    exact ⟨_, _, _, rfl, q⟩
def sp_with_words : Sp := fun vs H Q _ => ∃ n z, vs = [.int n, .bl z] ∧ Q (.int (wBit n 8 z)) H
theorem ok_with_words (T : Txt K mg a) : FnOk P w K mg base CX0 2 a.a_with_words a.d_with_words ["number", "words"] sp_with_words := by
  refine T.f_with_words.ok sc_with_words (fun vs H Q E h => ?_) (fun cdv A outer s H vs Q E hr h => ?_)
  · obtain ⟨_, _, rfl, _⟩ := h
    rfl
  · obtain ⟨n, z, rfl, q⟩ := h
    refine ⟨_, (pss_one (ps_ret (pe_call (ok_with_bit T) (hr.mono (by decide)) rfl T.m_with_bit T.f_with_bit.kp T.b_with_bit .nil pass0 (pa_cons (pv 0) (pa_cons (pe_glob (v := .int 8) rfl T.c_WORDS_BIT ⟨_, rfl⟩) (pa_cons (pv 1) pa_nil)))))), ?_⟩
    dsimp! []
    exact ⟨_, _, _, rfl, q⟩
def sp_header : Sp := fun vs H Q _ => ∃ k m w z, vs = [.int k, .bl m, .bl w, .int z] ∧ (0 ≤ k ∧ k < 3) ∧ 0 ≤ z ∧ z < 10 ^ 60 ∧ Q (.int (hd k m w z)) H
theorem ok_header (T : Txt K mg a) : FnOk P w K mg base CX0 3 a.a_header a.d_header ["kind", "marked", "words", "size"] sp_header := by
  refine T.f_header.ok sc_header (fun vs H Q E h => ?_) (fun cdv A outer s H vs Q E hr h => ?_)
  · obtain ⟨_, _, _, _, rfl, _⟩ := h
    rfl
  · obtain ⟨k, m, w, z, rfl, ⟨h0, h1⟩, hz, hz2, q⟩ := h
    refine ⟨_, (pss_cons (ps_set (i := 4) sc_header.nd rfl (Or.inl rfl) (pe_op op_or (pv 0) (pe_op op_shlL (pv 3) (pe_glob (v := .int 4) rfl T.c_SIZE_FROM ⟨_, rfl⟩)))) (pss_one (ps_ret (pe_call (ok_with_words T) (hr.mono (by decide)) rfl T.m_with_words T.f_with_words.kp T.b_with_words .nil pass0 (pa_cons (pe_call (ok_with_mark T) (hr.mono (by decide)) rfl T.m_with_mark T.f_with_mark.kp T.b_with_mark .nil pass0 (pa_cons (pv 4) (pa_cons (pv 1) pa_nil))) (pa_cons (pv 2) pa_nil)))))), ?_⟩
    dsimp! []
    have e16 : (2 : Int) ^ (4 : Int).toNat = 16 := by decide
    refine ⟨⟨by decide, by decide, big_lt hz hz2⟩, ?_⟩
    rw [e16]
    refine ⟨_, _, rfl, _, _, rfl, ?_⟩
    rw [hd_made m w h0 h1 hz]
    exact q
def sp_kind_in : Sp := fun vs H Q _ => ∃ n, vs = [.int n] ∧ Q (.int (n % 4)) H
theorem ok_kind_in (T : Txt K mg a) : FnOk P w K mg base CX0 1 a.a_kind_in a.d_kind_in ["number"] sp_kind_in := by
  refine T.f_kind_in.ok sc_kind_in (fun vs H Q E h => ?_) (fun cdv A outer s H vs Q E hr h => ?_)
  · obtain ⟨_, rfl, _⟩ := h
    rfl
  · obtain ⟨n, rfl, q⟩ := h
    refine ⟨_, (pss_one (ps_ret (pe_op op_and (pv 0) (pe_glob (v := .int 3) rfl T.c_KIND_BITS ⟨_, rfl⟩)))), ?_⟩
    dsimp! []
    rw [and_two]
    exact q
def sp_size_in : Sp := fun vs H Q _ => ∃ n, vs = [.int n] ∧ Q (.int (n / 16)) H
theorem ok_size_in (T : Txt K mg a) : FnOk P w K mg base CX0 1 a.a_size_in a.d_size_in ["number"] sp_size_in := by
  refine T.f_size_in.ok sc_size_in (fun vs H Q E h => ?_) (fun cdv A outer s H vs Q E hr h => ?_)
  · obtain ⟨_, rfl, _⟩ := h
    rfl
  · obtain ⟨n, rfl, q⟩ := h
    refine ⟨_, (pss_one (ps_ret (pe_op op_shr (pv 0) (pe_glob (v := .int 4) rfl T.c_SIZE_FROM ⟨_, rfl⟩)))), ?_⟩
    dsimp! []
    have e16 : (2 : Int) ^ (4 : Int).toNat = 16 := by decide
    rw [e16]
    exact ⟨by decide, q⟩
def sp_is_marked : Sp := fun vs H Q _ => ∃ n, vs = [.int n] ∧ Q (.bl (decide (n / 4 % 2 = 1))) H
theorem ok_is_marked (T : Txt K mg a) : FnOk P w K mg base CX0 1 a.a_is_marked a.d_is_marked ["number"] sp_is_marked := by
  refine T.f_is_marked.ok sc_is_marked (fun vs H Q E h => ?_) (fun cdv A outer s H vs Q E hr h => ?_)
  · obtain ⟨_, rfl, _⟩ := h
    rfl
  · obtain ⟨n, rfl, q⟩ := h
    refine ⟨_, (pss_one (ps_ret (pe_cmpR op_ne (pe_op op_and (pv 0) (pe_glob (v := .int 4) rfl T.c_MARK_BIT ⟨_, rfl⟩)) pe_int (nomark _)))), ?_⟩
    rw [← ne_bit2] at q
    exact ⟨_, rfl, _, _, rfl, rfl, rfl, q⟩
def sp_has_words : Sp := fun vs H Q _ => ∃ n, vs = [.int n] ∧ Q (.bl (decide (n / 8 % 2 = 1))) H
theorem ok_has_words (T : Txt K mg a) : FnOk P w K mg base CX0 1 a.a_has_words a.d_has_words ["number"] sp_has_words := by
  refine T.f_has_words.ok sc_has_words (fun vs H Q E h => ?_) (fun cdv A outer s H vs Q E hr h => ?_)
  · obtain ⟨_, rfl, _⟩ := h
    rfl
  · obtain ⟨n, rfl, q⟩ := h
    refine ⟨_, (pss_one (ps_ret (pe_cmpR op_ne (pe_op op_and (pv 0) (pe_glob (v := .int 8) rfl T.c_WORDS_BIT ⟨_, rfl⟩)) pe_int (nomark _)))), ?_⟩
    rw [← ne_bit3] at q
    exact ⟨_, rfl, _, _, rfl, rfl, rfl, q⟩
def flds (m c : Int) (d : Addr) : List (Str × V) := putF "inside" (.ref d) (putF "cells" (.int c) (putF "many" (.int m) []))
theorem n_mc : ¬ (("many" : Str) = "cells") := by decide +kernel
theorem n_mi : ¬ (("many" : Str) = "inside") := by decide +kernel
theorem n_ci : ¬ (("cells" : Str) = "inside") := by decide +kernel
theorem flds_many (m c : Int) (d : Addr) : (flds m c d).lookup ("many" : Str) = some (.int m) := by
  unfold flds
  rw [lookup_putF, if_neg n_mi, lookup_putF, if_neg n_mc, lookup_putF, if_pos rfl]
theorem flds_cells (m c : Int) (d : Addr) : (flds m c d).lookup ("cells" : Str) = some (.int c) := by
  unfold flds
  rw [lookup_putF, if_neg n_ci, lookup_putF, if_pos rfl]
theorem flds_inside (m c : Int) (d : Addr) : (flds m c d).lookup ("inside" : Str) = some (.ref d) := by
  unfold flds
  rw [lookup_putF, if_pos rfl]
theorem flds_no (m c : Int) (d : Addr) {n : Str} (h1 : ¬ n = "inside") (h2 : ¬ n = "cells") (h3 : ¬ n = "many") : (flds m c d).lookup n = none := by
  unfold flds
  rw [lookup_putF, if_neg h1, lookup_putF, if_neg h2, lookup_putF, if_neg h3]
  all_goals rfl
structure RoomsAt (C : Addr) (H : Hp) (p d : Addr) (m c : Nat) (xs : List V) : Prop where
  ob : ∃ dx, H p = some (.ins C dx (flds m c d))
  li : H d = some (.lst xs)
  len : xs.length = m * c
  m0 : 0 < m
  c0 : 0 < c
  sm : m * c ≤ 1000
theorem RoomsAt.ne {C : Addr} {H : Hp} {p d : Addr} {m c : Nat} {xs : List V} (R : RoomsAt C H p d m c xs) : p ≠ d := by
  obtain ⟨dx, h⟩ := R.ob
  exact ne_of h R.li (by intro z; cases z)
theorem RoomsAt.keep {C : Addr} {H H' : Hp} {p d : Addr} {m c : Nat} {xs ys : List V} (R : RoomsAt C H p d m c xs) (k : ∀ b o, b ≠ d → H b = some o → H' b = some o) (h : H' d = some (.lst ys)) (hl : ys.length = xs.length) : RoomsAt C H' p d m c ys where
  ob := by
    obtain ⟨dx, e⟩ := R.ob
    exact ⟨dx, k p _ R.ne e⟩
  li := h
  len := hl.trans R.len
  m0 := R.m0
  c0 := R.c0
  sm := R.sm
theorem RoomsAt.same {C : Addr} {H H' : Hp} {p d : Addr} {m c : Nat} {xs : List V} (R : RoomsAt C H p d m c xs) (k : Same H H') : RoomsAt C H' p d m c xs := R.keep (fun b o _ e => k b o e) (k d _ R.li) rfl
def optV : Option Nat → V
  | none => .non
  | some q => .int q
theorem flds_m {m c : Int} {d : Addr} {n : Str} (h1 : ¬ n = "inside" := by decide +kernel) (h2 : ¬ n = "cells" := by decide +kernel) (h3 : ¬ n = "many" := by decide +kernel) : (flds m c d).lookup n = none := flds_no m c d h1 h2 h3
theorem fl_gap (m c : Int) (d : Addr) : (flds m c d).lookup ("gap" : Str) = none := flds_m
theorem fl_gap_in (m c : Int) (d : Addr) : (flds m c d).lookup ("gap_in" : Str) = none := flds_m
theorem fl_fill_in (m c : Int) (d : Addr) : (flds m c d).lookup ("fill_in" : Str) = none := flds_m
theorem fl_set_free (m c : Int) (d : Addr) : (flds m c d).lookup ("set_free" : Str) = none := flds_m
theorem fl_read (m c : Int) (d : Addr) : (flds m c d).lookup ("read" : Str) = none := flds_m
theorem fl_write (m c : Int) (d : Addr) : (flds m c d).lookup ("write" : Str) = none := flds_m
theorem fl_room_of (m c : Int) (d : Addr) : (flds m c d).lookup ("room_of" : Str) = none := flds_m
def sp_Rooms_gap_in (C : Addr) : Sp := fun vs H Q _ => ∃ p d m c xs r L, vs = [.ref p, .int (r : Nat), .int (L : Nat)] ∧ RoomsAt C H p d m c xs ∧ r < m ∧ 0 < L ∧
  ((∀ p, r * c ≤ p → p + L ≤ r * c + c → ¬ AllFree xs p L) → Q .non H) ∧
  (∀ q : Nat, r * c ≤ q → q + L ≤ r * c + c → AllFree xs q L → (∀ p, r * c ≤ p → p < q → ¬ AllFree xs p L) → Q (.int q) H)
theorem ok_Rooms_gap_in (T : Txt K mg a) : FnOk P w K mg base CX0 1 a.a_Rooms_gap_in a.d_Rooms_gap_in ["self", "room", "length"] (sp_Rooms_gap_in a.c_Rooms) := by
  refine T.f_Rooms_gap_in.ok sc_Rooms_gap_in (fun vs H Q E h => ?_) (fun cdv A outer s H vs Q E hr h => ?_)
  · obtain ⟨_, _, _, _, _, _, _, rfl, _⟩ := h
    rfl
  · obtain ⟨p, d, m, c, xs, r, L, rfl, R, hrm, hL, k1, k2⟩ := h
    obtain ⟨dx, h1⟩ := R.ob
    have hle : (r + 1) * c ≤ m * c := Nat.mul_le_mul_right c hrm
    rw [Nat.succ_mul] at hle
    have hsm := R.sm
    have hlen := R.len
    have hm1000 : m ≤ 1000 := Nat.le_trans (Nat.le_mul_of_pos_right m R.c0) hsm
    have hc1000 : c ≤ 1000 := Nat.le_trans (Nat.le_mul_of_pos_left c R.m0) hsm
    have erc : (r : Int) * (c : Int) = ((r * c : Nat) : Int) := by simp
    refine ⟨_, (pss_cons (ps_set (i := 3) sc_Rooms_gap_in.nd rfl (Or.inl rfl) (pe_op op_mul (pv 1) (pe_fld (pv 0) rfl))) (pss_cons (ps_set (i := 4) sc_Rooms_gap_in.nd rfl (Or.inl rfl) pe_int) (pss_cons (ps_forW PassesOwn.never rfl (pi_range2 rfl T.n_range (pa_cons (pv 3) (pa_cons (pe_op op_add (pv 3) (pe_fld (pv 0) rfl)) pa_nil))) (pg_name (i := 5) sc_Rooms_gap_in.nd rfl (Or.inl rfl)) pss_bodyT) pss_bodyT))), ?_⟩
    dsimp! [h1, HO.ins.injEq, T.cl_Rooms, T.na_Rooms_cells, flds_cells, erc]
    have e2 : ((((r * c : Nat) : Int) + (c : Int)) - ((r * c : Nat) : Int)).toNat = c := by omega
    rw [e2]
    refine ⟨.inl ⟨by omega, by omega⟩, by omega, by omega, by omega, by omega, fw_range (fun i σ H2 => H2 = H ∧ ∃ (f : Nat) (o5 : Option V), σ = [some (.ref p), some (.int r), some (.int L), some (.int ((r * c : Nat) : Int)), some (.int f), o5] ∧ RunAt xs (r * c) i f L)
      ⟨rfl, 0, none, rfl, .zero hL⟩ ?_ ?_⟩
    · rintro i σ H2 hi ⟨rfl, f, o5, rfl, RA⟩
      have hx : r * c + i < xs.length := by omega
      have ht : atI xs (((r * c : Nat) : Int) + (i : Int)) = some xs[r * c + i] := by
        have := atI_nat (xs := xs) (List.getElem?_eq_getElem hx)
        simpa using this
      refine bodyT.of (pss_cons (ps_set (i := 4) sc_Rooms_gap_in.nd rfl (Or.inl rfl) (pe_ifExp (pt_cmpR op_isN (pe_ix ix_list (pe_fld (pv 0) rfl) (pv 5) (fun _ _ => rfl)) pe_non (nomark _)) (pe_op op_add (pv 4) pe_int) pe_int)) (pss_one (ps_if (pt_cmpR op_eq (pv 4) (pv 2) (nomark _)) (pss_one (ps_ret (pe_op op_add (pe_op op_sub (pv 5) (pv 2)) pe_int))) pss_nil))) ?_
      dsimp! [h1, HO.ins.injEq, T.cl_Rooms, T.na_Rooms_inside, flds_inside]
      refine ⟨d, xs, _, _, rfl, rfl, SqL.of R.li, ht, ?_⟩
      have hgx : xs[r * c + i]? = some xs[r * c + i] := List.getElem?_eq_getElem hx
      generalize xs[r * c + i] = v at hgx
      by_cases hv : v = .non
      · subst hv
        dsimp! []
        have hle2 := RA.le
        refine ite2 (fun h => ?_) fun h => ?_
        · have hfl : f + 1 = L := by
            have := of_decide_eq_true h
            omega
          obtain ⟨b1, b2, b3⟩ := RA.found hgx hfl
          have e : ((r * c : Nat) : Int) + (i : Int) - (L : Int) + 1 = ((r * c + i + 1 - L : Nat) : Int) := by omega
          rw [e]
          exact k2 _ b1 (by omega) b2 b3
        · exact ⟨f + 1, by simp, RA.free_next hgx fun z => h (decide_eq_true (by omega))⟩
      · dsimp! [hv]
        refine ite2 (fun h => ?_) fun h => ?_
        · have := of_decide_eq_true h
          omega
        · exact ⟨0, rfl, RA.full_next hgx hv⟩
    · rintro σ H2 ⟨rfl, f, o5, rfl, RA⟩
      refine bodyT.of (pss_one (ps_ret pe_non)) ?_
      dsimp! []
      exact k1 RA.no
def sp_Rooms_gap (C : Addr) : Sp := fun vs H Q _ => ∃ p d m c xs L, vs = [.ref p, .int (L : Nat)] ∧ RoomsAt C H p d m c xs ∧ 0 < L ∧ ∀ r, IsGap xs c L r → Q (optV r) H
theorem ok_Rooms_gap (T : Txt K mg a) : FnOk P w K mg base CX0 2 a.a_Rooms_gap a.d_Rooms_gap ["self", "length"] (sp_Rooms_gap a.c_Rooms) := by
  refine T.f_Rooms_gap.ok sc_Rooms_gap (fun vs H Q E h => ?_) (fun cdv A outer s H vs Q E hr h => ?_)
  · obtain ⟨_, _, _, _, _, _, rfl, _⟩ := h
    rfl
  · obtain ⟨p, d, m, c, xs, L, rfl, R, hL, k⟩ := h
    obtain ⟨dx, h1⟩ := R.ob
    have hsm := R.sm
    have hm1000 : m ≤ 1000 := Nat.le_trans (Nat.le_mul_of_pos_right m R.c0) hsm
    refine ⟨_, (pss_cons (ps_forW PassesOwn.never rfl (pi_range1 rfl T.n_range (pa_cons (pe_fld (pv 0) rfl) pa_nil)) (pg_name (i := 2) sc_Rooms_gap.nd rfl (Or.inl rfl)) pss_bodyT) pss_bodyT), ?_⟩
    dsimp! [h1, HO.ins.injEq, T.cl_Rooms, T.na_Rooms_many, flds_many]
    refine ⟨by omega, by omega, fw_range (fun i σ H2 => H2 = H ∧ ∃ (o2 o3 : Option V), σ = [some (.ref p), some (.int L), o2, o3] ∧ ∀ r, r < i → ∀ q, r * c ≤ q → q + L ≤ r * c + c → ¬ AllFree xs q L)
      ⟨rfl, none, none, rfl, fun r h => absurd h (Nat.not_lt_zero _)⟩ ?_ ?_⟩
    · rintro i σ H2 hi ⟨rfl, o2, o3, rfl, inv⟩
      have him : i < m := by omega
      refine bodyT.of (pss_cons (ps_set (i := 3) sc_Rooms_gap.nd rfl (Or.inl rfl) (pe_meth (pv 0) T.cl_Rooms T.me_Rooms_gap_in (ok_Rooms_gap_in T) (hr.mono (by decide)) T.b_Rooms_gap_in .nil pass0 (pa_cons (pv 2) (pa_cons (pv 1) pa_nil)))) (pss_one (ps_if (pt_cmpR op_notN (pv 3) pe_non (nomark _)) (pss_one (ps_ret (pv 3))) pss_nil))) ?_
      dsimp! [h1, HO.ins.injEq, fl_gap_in]
      refine ⟨p, d, m, c, xs, i, L, by simp, R, him, hL, fun hn => ?_, fun q q1 q2 q3 q4 => ?_⟩
      · dsimp! []
        refine fun r hr2 => ?_
        rcases Nat.lt_succ_iff_lt_or_eq.mp hr2 with h | h
        · exact inv r h
        · subst h
          exact hn
      · dsimp! []
        exact k (some q) (gap_found R.c0 hL R.len him inv q1 q2 q3 q4)
    · rintro σ H2 ⟨rfl, o2, o3, rfl, inv⟩
      refine bodyT.of (pss_one (ps_ret pe_non)) ?_
      dsimp! []
      exact k none (gap_none R.c0 hL R.len (fun r hr2 => inv r (by omega)))
def sp_Rooms_read (C : Addr) : Sp := fun vs H Q _ => ∃ p d m c xs i v, vs = [.ref p, .int (i : Nat)] ∧ RoomsAt C H p d m c xs ∧ xs[i]? = some v ∧ Q v H
theorem ok_Rooms_read (T : Txt K mg a) : FnOk P w K mg base CX0 1 a.a_Rooms_read a.d_Rooms_read ["self", "place"] (sp_Rooms_read a.c_Rooms) := by
  refine T.f_Rooms_read.ok sc_Rooms_read (fun vs H Q E h => ?_) (fun cdv A outer s H vs Q E hr h => ?_)
  · obtain ⟨_, _, _, _, _, _, _, rfl, _⟩ := h
    rfl
  · obtain ⟨p, d, m, c, xs, i, v, rfl, R, hv, q⟩ := h
    obtain ⟨dx, h1⟩ := R.ob
    refine ⟨_, (pss_one (ps_ret (pe_ix ix_list (pe_fld (pv 0) rfl) (pv 1) (fun _ _ => rfl)))), ?_⟩
    dsimp! [h1, HO.ins.injEq, T.cl_Rooms, T.na_Rooms_inside, flds_inside]
    exact ⟨d, xs, _, v, rfl, rfl, SqL.of R.li, atI_nat hv, q⟩
theorem ixN_nat {n i : Nat} (h : i < n) : ixN n (i : Int) = some i := by
  unfold ixN
  rw [if_pos (by omega), if_pos (by omega)]
  simp
def Keep (d : Addr) (H H' : Hp) : Prop := ∀ b o, b ≠ d → H b = some o → H' b = some o
theorem Keep.refl (d : Addr) (H : Hp) : Keep d H H := fun _ _ _ h => h
theorem Keep.put {d l : Addr} {H H' : Hp} {o : HO} (k : Keep d H H') (h : H' l = none) : Keep d H (upd H' l o) := fun b u hb e => by
  have := k b u hb e
  rw [upd_ne (ne_of_none this h)]
  exact this
theorem Keep.set {d : Addr} {H H' : Hp} {o : HO} (k : Keep d H H') : Keep d H (upd H' d o) := fun b u hb e => by
  rw [upd_ne hb]
  exact k b u hb e
def sp_Rooms_fill_in (K : PySem.W.Frag) (C : Addr) : Sp := fun vs H Q _ => ∃ p d m c xs i l ys, vs = [.ref p, .int (i : Nat), .ref l] ∧ RoomsAt C H p d m c xs ∧ H l = some (.lst ys) ∧ l ≠ d ∧ i + ys.length ≤ xs.length ∧
  ∀ H', Keep d H H' → H' d = some (.lst (setAll xs i ys)) → Q .non H'
theorem ok_Rooms_fill_in (T : Txt K mg a) : FnOk P w K mg base CX0 1 a.a_Rooms_fill_in a.d_Rooms_fill_in ["self", "place", "some"] (sp_Rooms_fill_in K a.c_Rooms) := by
  refine T.f_Rooms_fill_in.ok sc_Rooms_fill_in (fun vs H Q E h => ?_) (fun cdv A outer s H vs Q E hr h => ?_)
  · obtain ⟨_, _, _, _, _, _, _, _, rfl, _⟩ := h
    rfl
  · obtain ⟨p, d, m, c, xs, i, l, ys, rfl, R, hl, hld, hin, k⟩ := h
    have hsm := R.sm
    have hlen := R.len
    refine ⟨_, (pss_one (ps_forW PassesOwn.never rfl (pi_enum rfl T.n_enumerate (pv 2) (pv 1)) (pg_tup (n := 2) rfl (pgs_cons (pg_name (i := 3) sc_Rooms_fill_in.nd rfl (Or.inl rfl)) (pgs_cons (pg_name (i := 4) sc_Rooms_fill_in.nd rfl (Or.inl rfl)) pgs_nil))) pss_bodyT)), ?_⟩
    dsimp! []
    refine ⟨i, rfl, ⟨ys, SqL.of hl⟩, by omega, fw_enum ys (fun j σ H2 => ∃ (o3 o4 : Option V), σ = [some (.ref p), some (.int i), some (.ref l), o3, o4] ∧ Keep d H H2 ∧ H2 d = some (.lst (setAll xs i (ys.take j))))
      ⟨none, none, rfl, .refl d H, R.li⟩ ?_ ?_ ?_⟩
    · rintro j σ H2 hj ⟨o3, o4, rfl, kp, hd⟩
      exact SqL.of (kp l _ hld hl)
    · rintro j x t σ H2 hx ⟨o3, o4, rfl, kp, hd⟩ ht
      have hjl := (List.getElem?_eq_some_iff.mp hx).1
      have nd : d ≠ t := ne_of_none hd ht
      have R2 := R.keep (kp.put (o := .tup [.int ((i + j : Nat) : Int), x]) ht) (by rw [upd_ne nd]; exact hd) (setAll_length _ _ _)
      obtain ⟨dx, h1⟩ := R2.ob
      refine ⟨t, _, rfl, SqT.of upd_same, rfl, ?_⟩
      dsimp! []
      refine bodyT.of (pss_one (ps_asg (pv 4) (pg_sub (pe_fld (pv 0) rfl) (pv 3) set_list))) ?_
      dsimp! [h1, HO.ins.injEq, T.cl_Rooms, T.na_Rooms_inside, flds_inside]
      have e3 : ixN (setAll xs i (ys.take j)).length ((i + j : Nat) : Int) = some (i + j) := ixN_nat (by rw [setAll_length]; omega)
      refine ⟨d, _, _, _, rfl, rfl, R2.li, e3, (kp.put ht).set, ?_⟩
      rw [upd_same, setAll_take hx]
    · rintro σ H2 ⟨o3, o4, rfl, kp, hd⟩
      dsimp! []
      refine k H2 kp ?_
      rw [hd, List.take_of_length_le (Nat.le_refl _)]
def sp_Rooms_write (C : Addr) : Sp := fun vs H Q _ => ∃ p d m c xs i v, vs = [.ref p, .int (i : Nat), v] ∧ RoomsAt C H p d m c xs ∧ i < xs.length ∧ Q .non (upd H d (.lst (xs.set i v)))
theorem ok_Rooms_write (T : Txt K mg a) : FnOk P w K mg base CX0 1 a.a_Rooms_write a.d_Rooms_write ["self", "place", "value"] (sp_Rooms_write a.c_Rooms) := by
  refine T.f_Rooms_write.ok sc_Rooms_write (fun vs H Q E h => ?_) (fun cdv A outer s H vs Q E hr h => ?_)
  · obtain ⟨_, _, _, _, _, _, _, rfl, _⟩ := h
    rfl
  · obtain ⟨p, d, m, c, xs, i, v, rfl, R, hv, q⟩ := h
    obtain ⟨dx, h1⟩ := R.ob
    refine ⟨_, (pss_one (ps_asg (pv 2) (pg_sub (pe_fld (pv 0) rfl) (pv 1) set_list))), ?_⟩
    dsimp! [h1, HO.ins.injEq, T.cl_Rooms, T.na_Rooms_inside, flds_inside]
    exact ⟨d, xs, _, i, rfl, rfl, R.li, ixN_nat hv, q⟩
def sp_Rooms_set_free (C : Addr) : Sp := fun vs H Q _ => ∃ p d m c xs i n, vs = [.ref p, .int (i : Nat), .int (n : Nat)] ∧ RoomsAt C H p d m c xs ∧ i + n ≤ xs.length ∧
  ∀ H', Keep d H H' → H' d = some (.lst (setAll xs i (List.replicate n .non))) → Q .non H'
theorem ok_Rooms_set_free (T : Txt K mg a) : FnOk P w K mg base CX0 1 a.a_Rooms_set_free a.d_Rooms_set_free ["self", "place", "length"] (sp_Rooms_set_free a.c_Rooms) := by
  refine T.f_Rooms_set_free.ok sc_Rooms_set_free (fun vs H Q E h => ?_) (fun cdv A outer s H vs Q E hr h => ?_)
  · obtain ⟨_, _, _, _, _, _, _, rfl, _⟩ := h
    rfl
  · obtain ⟨p, d, m, c, xs, i, n, rfl, R, hin, k⟩ := h
    have hsm := R.sm
    have hlen := R.len
    refine ⟨_, (pss_one (ps_forW PassesOwn.never rfl (pi_range2 rfl T.n_range (pa_cons (pv 1) (pa_cons (pe_op op_add (pv 1) (pv 2)) pa_nil))) (pg_name (i := 3) sc_Rooms_set_free.nd rfl (Or.inl rfl)) pss_bodyT)), ?_⟩
    dsimp! []
    have e2 : (((i : Int) + (n : Int)) - (i : Int)).toNat = n := by omega
    rw [e2]
    refine ⟨by omega, by omega, by omega, by omega, fw_range (fun j σ H2 => ∃ (o3 : Option V), σ = [some (.ref p), some (.int i), some (.int n), o3] ∧ Keep d H H2 ∧ H2 d = some (.lst (setAll xs i ((List.replicate n .non).take j))))
      ⟨none, rfl, .refl d H, R.li⟩ ?_ ?_⟩
    · rintro j σ H2 hj ⟨o3, rfl, kp, hd⟩
      have R2 := R.keep kp hd (setAll_length _ _ _)
      obtain ⟨dx, h1⟩ := R2.ob
      refine bodyT.of (pss_one (ps_asg pe_non (pg_sub (pe_fld (pv 0) rfl) (pv 3) set_list))) ?_
      dsimp! [h1, HO.ins.injEq, T.cl_Rooms, T.na_Rooms_inside, flds_inside]
      have e3 : ixN (setAll xs i ((List.replicate n V.non).take j)).length ((i : Int) + (j : Int)) = some (i + j) := by
        have := ixN_nat (n := (setAll xs i ((List.replicate n V.non).take j)).length) (i := i + j) (by rw [setAll_length]; omega)
        simpa using this
      refine ⟨d, _, _, _, rfl, rfl, hd, e3, kp.set, ?_⟩
      rw [upd_same, setAll_take (y := V.non) (by simp [hj])]
    · rintro σ H2 ⟨o3, rfl, kp, hd⟩
      dsimp! []
      refine k H2 kp ?_
      rw [hd, List.take_of_length_le (by simp)]
theorem len1 (f : Str) (v : V) : (putF f v []).length < 1000 := Nat.lt_of_le_of_lt (length_putF f v []) (by decide)
theorem len2 (f g : Str) (v u : V) : (putF g u (putF f v [])).length < 1000 := Nat.lt_of_le_of_lt (length_putF g u _) (Nat.lt_of_le_of_lt (Nat.succ_le_succ (length_putF f v [])) (by decide))
theorem len0 : ([] : List (Str × V)).length < 1000 := by decide
theorem rep_non (n : Nat) : (List.replicate n [V.non]).flatten = List.replicate n V.non := by
  induction n with
  | zero => rfl
  | succ n ih => rw [List.replicate_succ, List.replicate_succ, List.flatten_cons, ih]; rfl
def sp_Rooms_init (C : Addr) : Sp := fun vs H Q _ => ∃ p dx m c, vs = [.ref p, .int (m : Nat), .int (c : Nat)] ∧ H p = some (.ins C dx []) ∧ 0 < m ∧ 0 < c ∧ m * c ≤ 1000 ∧
  ∀ H' d, RoomsAt C H' p d m c (List.replicate (m * c) .non) → (∀ b o, b ≠ p → H b = some o → H' b = some o) → H d = none → Q .non H'
theorem ok_Rooms_init (T : Txt K mg a) : FnOk P w K mg base CX0 1 a.a_Rooms_init a.d_Rooms_init ["self", "many", "cells"] (sp_Rooms_init a.c_Rooms) := by
  refine T.f_Rooms_init.ok sc_Rooms_init (fun vs H Q E h => ?_) (fun cdv A outer s H vs Q E hr h => ?_)
  · obtain ⟨_, _, _, _, rfl, _⟩ := h
    rfl
  · obtain ⟨p, dx, m, c, rfl, hp, hm, hc, hmc, k⟩ := h
    refine ⟨_, (pss_cons (ps_fld (pv 0) (pv 1) rfl) (pss_cons (ps_fld (pv 0) (pv 2) rfl) (pss_one (ps_fld (pv 0) (pe_op op_rep (pe_lst (pa_cons pe_non pa_nil)) (pe_op op_mul (pv 1) (pv 2))) rfl)))), ?_⟩
    have hm1000 : m ≤ 1000 := Nat.le_trans (Nat.le_mul_of_pos_right m hc) hmc
    have emc : (m : Int) * (c : Int) = ((m * c : Nat) : Int) := by simp
    dsimp! [hp, upd_same, HO.ins.injEq, T.cl_Rooms, T.na_Rooms_many, T.na_Rooms_cells, T.na_Rooms_inside, len0, len1, len2, emc, upd_upd]
    refine ⟨by decide, by decide, fun l hl => ⟨.inl ⟨by omega, by omega⟩, l, _, [.non], rfl, rfl, upd_same, by omega, by omega, by rw [Int.toNat_natCast, List.length_singleton, Nat.one_mul]; exact Nat.le_of_lt (small1000 hmc), fun d hd => ?_⟩⟩
    have npl : p ≠ l := ne_of_none upd_same hl
    have npd : p ≠ d := ne_of_none (by rw [upd_ne npl]; exact upd_same) hd
    have nld : l ≠ d := ne_of_none upd_same hd
    rw [Int.toNat_natCast, rep_non]
    refine ⟨_, _, _, by rw [upd_ne npd, upd_ne npl, upd_same], T.cl_Rooms, T.na_Rooms_inside, len2 _ _ _ _, k _ d ⟨⟨dx, upd_same⟩, by rw [upd_ne npd.symm, upd_same], by simp, hm, hc, hmc⟩ (fun b o hb e => ?_) ?_⟩
    · have hbl : b ≠ l := fun z => by
        subst z
        rw [upd_ne hb] at hl
        rw [hl] at e
        cases e
      have hbd : b ≠ d := fun z => by
        subst z
        rw [upd_ne hbl, upd_ne hb] at hd
        rw [hd] at e
        cases e
      rw [upd_ne hb, upd_ne hbd, upd_ne hbl, upd_ne hb]
      exact e
    · rw [upd_ne nld.symm, upd_ne npd.symm] at hd
      exact hd
def Kp (S : Addr → Prop) (H H' : Hp) : Prop := ∀ b o, ¬ S b → H b = some o → H' b = some o
theorem Kp.refl (S : Addr → Prop) (H : Hp) : Kp S H H := fun _ _ _ h => h
theorem Kp.trans {S : Addr → Prop} {H H1 H2 : Hp} (k : Kp S H H1) (k2 : Kp S H1 H2) : Kp S H H2 := fun b o n h => k2 b o n (k b o n h)
theorem Kp.mono {S S' : Addr → Prop} {H H' : Hp} (k : Kp S H H') (i : ∀ b, S b → S' b) : Kp S' H H' := fun b o n h => k b o (fun z => n (i b z)) h
theorem Same.kp {S : Addr → Prop} {H H' : Hp} (k : Same H H') : Kp S H H' := fun b o _ h => k b o h
theorem Kp.put {S : Addr → Prop} {H H' : Hp} {l : Addr} {o : HO} (k : Kp S H H') (h : H' l = none) : Kp S H (upd H' l o) := k.trans (Same.kp (Same.put h))
theorem Kp.set {S : Addr → Prop} {H H' : Hp} {l : Addr} {o : HO} (k : Kp S H H') (h : S l) : Kp S H (upd H' l o) := fun b u n e => by
  rw [upd_ne (fun z => n (by rw [z]; exact h))]
  exact k b u n e
theorem Keep.kp {S : Addr → Prop} {d : Addr} {H H' : Hp} (k : Keep d H H') (h : S d) : Kp S H H' := fun b o n e => k b o (fun z => n (by rw [z]; exact h)) e
def Mu (H : Hp) (b : Addr) : Prop := (∃ xs, H b = some (.lst xs)) ∨ ∃ kvs, H b = some (.dK kvs)
theorem Mu.ntup {H : Hp} {b : Addr} (m : Mu H b) {xs : List V} (h : Rd H b (.tup xs)) : False := by
  rcases m with ⟨ys, m⟩ | ⟨ys, m⟩ <;> rcases h with h | ⟨o, h⟩ <;> (rw [m] at h; cases h)
theorem Kp.seqT {K : PySem.W.Frag} {S : Addr → Prop} {H H' : Hp} (k : Kp S H H') (mu : ∀ b, S b → Mu H b) {a : Addr} {xs : List V} (h : SqT K H a xs) : SqT K H' a xs := by
  rcases h with h | h
  · have n : ¬ S a := fun z => (mu a z).ntup h
    rcases h with h | ⟨o, h⟩
    · exact .inl (.inl (k _ _ n h))
    · exact .inl (.inr ⟨o, k _ _ n h⟩)
  · exact .inr h
theorem SqL.ins {K : PySem.W.Frag} {H : Hp} {l p C dx : Addr} {xs : List V} {fs : List (Str × V)} {o : HO} (h : SqL K H l xs) (hp : H p = some (.ins C dx fs)) : SqL K (upd H p o) l xs := by
  rcases h with (h | ⟨u, h⟩) | h
  · exact .inl (.inl (by rw [upd_ne (ne_of h hp (by intro z; cases z))]; exact h))
  · exact .inl (.inr ⟨u, by rw [upd_ne (ne_of h hp (by intro z; cases z))]; exact h⟩)
  · exact .inr h
inductive Vl where
  | no | num (n : Int) | th (n : Int)
def Vl.items : Vl → List V
  | .no => [.str "nothing"]
  | .num n => [.str "number", .int n]
  | .th n => [.str "thing", .int n]
def Vl.word : Vl → Str
  | .no => "nothing"
  | .num _ => "number"
  | .th _ => "thing"
def Vl.isTh : Vl → Bool
  | .th _ => true
  | _ => false
def Vl.nm : Vl → Option V
  | .th n => some (.int n)
  | _ => none
theorem Vl.hd (v : Vl) : atI v.items 0 = some (.str v.word) := by cases v <;> rfl
theorem Vl.is : ∀ v : Vl, decide (v.word = ("thing" : Str)) = v.isTh
  | .no => (by decide +kernel : decide (("nothing" : Str) = "thing") = false)
  | .num _ => (by decide +kernel : decide (("number" : Str) = "thing") = false)
  | .th _ => (by decide +kernel : decide (("thing" : Str) = "thing") = true)
def IsVl (K : PySem.W.Frag) (H : Hp) (x : V) (v : Vl) : Prop := ∃ t, x = .ref t ∧ SqT K H t v.items
theorem IsVl.same {K : PySem.W.Frag} {H H' : Hp} {x : V} {v : Vl} (h : IsVl K H x v) (k : Same H H') : IsVl K H' x v := by
  obtain ⟨t, e, h⟩ := h
  exact ⟨t, e, k.seqT h⟩
theorem IsVl.kp {K : PySem.W.Frag} {S : Addr → Prop} {H H' : Hp} {x : V} {v : Vl} (h : IsVl K H x v) (k : Kp S H H') (mu : ∀ b, S b → Mu H b) : IsVl K H' x v := by
  obtain ⟨t, e, h⟩ := h
  exact ⟨t, e, k.seqT mu h⟩
inductive Tg where
  | plain (fs : List Vl) (w : Option Int) | weak (f : Vl) | pair (k v : Vl)
def Tg.fs : Tg → List Vl
  | .plain fs _ => fs
  | .weak f => [f]
  | .pair k v => [k, v]
def Tg.sort : Tg → Str
  | .plain _ _ => "plain"
  | .weak _ => "weak"
  | .pair _ _ => "pair"
def Tg.words : Tg → Option Int
  | .plain _ w => w
  | _ => none
def wV : Option Int → V
  | none => .non
  | some n => .int n
def VlL (K : PySem.W.Frag) (H : Hp) (xs : List V) (vl : List Vl) : Prop := vl.length = xs.length ∧ ∀ (i : Nat) x v, xs[i]? = some x → vl[i]? = some v → IsVl K H x v
theorem VlL.same {K : PySem.W.Frag} {H H' : Hp} {xs : List V} {vl : List Vl} (h : VlL K H xs vl) (k : Same H H') : VlL K H' xs vl := ⟨h.1, fun i x v a b => (h.2 i x v a b).same k⟩
theorem VlL.kp {K : PySem.W.Frag} {S : Addr → Prop} {H H' : Hp} {xs : List V} {vl : List Vl} (h : VlL K H xs vl) (k : Kp S H H') (mu : ∀ b, S b → Mu H b) : VlL K H' xs vl := ⟨h.1, fun i x v a b => (h.2 i x v a b).kp k mu⟩
theorem VlL.nil (K : PySem.W.Frag) (H : Hp) : VlL K H [] [] := ⟨rfl, fun i x v a _ => by simp at a⟩
theorem VlL.cons {K : PySem.W.Frag} {H : Hp} {x : V} {v : Vl} {xs : List V} {vl : List Vl} (h : IsVl K H x v) (t : VlL K H xs vl) : VlL K H (x :: xs) (v :: vl) := ⟨by simp [t.1], fun i y u a b => by
  cases i with
  | zero =>
    simp at a b
    subst a b
    exact h
  | succ i => exact t.2 i y u (by simpa using a) (by simpa using b)⟩
def flT (s : Str) (d : Addr) : List (Str × V) := putF "parts" (.ref d) (putF "called" (.str s) [])
def flP (d : Addr) (w : Option Int) : List (Str × V) := putF "last_words" (wV w) (flT "plain" d)
theorem n_cp : ¬ (("called" : Str) = "parts") := by decide +kernel
theorem n_cl : ¬ (("called" : Str) = "last_words") := by decide +kernel
theorem n_pl : ¬ (("parts" : Str) = "last_words") := by decide +kernel
def Tg.cls (a : Adr) : Tg → Addr
  | .plain _ _ => a.c_PlainThing
  | .weak _ => a.c_Thing
  | .pair _ _ => a.c_PairThing
def Tg.fl (d : Addr) : Tg → List (Str × V)
  | .plain _ w => flP d w
  | .weak _ => flT "weak" d
  | .pair _ _ => flT "pair" d
theorem Tg.called (t : Tg) (d : Addr) : (t.fl d).lookup ("called" : Str) = some (.str t.sort) := by
  cases t <;> simp only [Tg.fl, flP, flT, lookup_putF, if_neg n_cl, if_neg n_cp, if_true, Tg.sort]
theorem Tg.parts (t : Tg) (d : Addr) : (t.fl d).lookup ("parts" : Str) = some (.ref d) := by
  cases t <;> simp only [Tg.fl, flP, flT, lookup_putF, if_neg n_pl, if_true]
theorem Tg.no (t : Tg) (d : Addr) {n : Str} (h1 : ¬ n = "called" := by decide +kernel) (h2 : ¬ n = "parts" := by decide +kernel) (h3 : ¬ n = "last_words" := by decide +kernel) : (t.fl d).lookup n = none := by
  cases t <;> simp only [Tg.fl, flP, flT, lookup_putF, if_neg h1, if_neg h2, if_neg h3] <;> rfl
theorem flP_lw (d : Addr) (w : Option Int) : (flP d w).lookup ("last_words" : Str) = some (wV w) := by
  unfold flP
  rw [lookup_putF, if_pos rfl]
structure ThAt (a : Adr) (K : PySem.W.Frag) (H : Hp) (p d : Addr) (t : Tg) : Prop where
  ob : ∃ dx, H p = some (.ins (t.cls a) dx (t.fl d))
  li : ∃ xs, H d = some (.lst xs) ∧ VlL K H xs t.fs ∧ xs.length ≤ 1000
theorem ThAt.same {a : Adr} {K : PySem.W.Frag} {H H' : Hp} {p d : Addr} {t : Tg} (h : ThAt a K H p d t) (k : Same H H') : ThAt a K H' p d t := by
  obtain ⟨⟨dx, h1⟩, xs, h2, h3, h4⟩ := h
  exact ⟨⟨dx, k _ _ h1⟩, xs, k _ _ h2, h3.same k, h4⟩
theorem ThAt.kp {a : Adr} {K : PySem.W.Frag} {S : Addr → Prop} {H H' : Hp} {p d : Addr} {t : Tg} (h : ThAt a K H p d t) (k : Kp S H H') (mu : ∀ b, S b → Mu H b) (hd : ¬ S d) : ThAt a K H' p d t := by
  obtain ⟨⟨dx, h1⟩, xs, h2, h3, h4⟩ := h
  refine ⟨⟨dx, k _ _ (fun z => ?_) h1⟩, xs, k _ _ hd h2, h3.kp k mu, h4⟩
  rcases mu _ z with ⟨ys, m⟩ | ⟨ys, m⟩ <;> (rw [m] at h1; cases h1)
theorem Tg.na (T : Txt K mg a) (t : Tg) : Cls K (t.cls a) ∧ NoAttr K (t.cls a) "called" ∧ NoAttr K (t.cls a) "parts" := by
  cases t
  · exact ⟨T.cl_PlainThing, T.na_PlainThing_called, T.na_PlainThing_parts⟩
  · exact ⟨T.cl_Thing, T.na_Thing_called, T.na_Thing_parts⟩
  · exact ⟨T.cl_PairThing, T.na_PairThing_called, T.na_PairThing_parts⟩
theorem Tg.mem (t : Tg) (s : Sp) : (t.cls a, s) ∈ [(a.c_Thing, s), (a.c_PlainThing, s), (a.c_PairThing, s)] := by
  cases t
  · exact .tail _ (.head _)
  · exact .head _
  · exact .tail _ (.tail _ (.head _))
def sp_Thing_init (K : PySem.W.Frag) : Sp := fun vs H Q _ => ∃ p C dx s l xs, vs = [.ref p, .str s, .ref l] ∧ Cls K C ∧ NoAttr K C "called" ∧ NoAttr K C "parts" ∧ H p = some (.ins C dx []) ∧ SqL K H l xs ∧
  ∀ d H', Keep p H H' → H d = none → H' p = some (.ins C dx (flT s d)) → H' d = some (.lst xs) → Q .non H'
theorem ok_Thing_init (T : Txt K mg a) : FnOk P w K mg base CX0 1 a.a_Thing_init a.d_Thing_init ["self", "sort", "some"] (sp_Thing_init K) := by
  refine T.f_Thing_init.ok sc_Thing_init (fun vs H Q E h => ?_) (fun cdv A outer s H vs Q E hr h => ?_)
  · obtain ⟨_, _, _, _, _, _, rfl, _⟩ := h
    rfl
  · obtain ⟨p, C, dx, s, l, xs, rfl, hC, hN1, hN2, h1, hl, q⟩ := h
    refine ⟨_, (pss_cons (ps_fld (pv 0) (pv 1) rfl) (pss_one (ps_fld (pv 0) (pe_callTy call_list_of rfl T.n_list bt_list (pa_cons (pv 2) pa_nil)) rfl))), ?_⟩
    dsimp! [h1, HO.ins.injEq, hC, hN1, hN2]
    refine ⟨by decide, xs, .inl (SqL.ins hl h1), fun d hd => ?_⟩
    have npd : p ≠ d := ne_of_none upd_same hd
    refine ⟨C, dx, putF "called" (.str s) [], by rw [upd_ne npd]; exact upd_same, hC, hN2, Nat.lt_of_le_of_lt (length_putF _ _ _) (by decide), q d _ ?_ ?_ upd_same ?_⟩
    · intro b o hb e
      rw [upd_ne hb, upd_ne (ne_of_none (by rw [upd_ne hb]; exact e) hd), upd_ne hb]
      exact e
    · rw [upd_ne npd.symm] at hd
      exact hd
    · rw [upd_ne npd.symm]
      exact upd_same
def sp_Thing_sort_of (a : Adr) (K : PySem.W.Frag) : Sp := fun vs H Q _ => ∃ p d t, vs = [.ref p] ∧ ThAt a K H p d t ∧ Q (.str t.sort) H
theorem ok_Thing_sort_of (T : Txt K mg a) : FnOk P w K mg base CX0 1 a.a_Thing_sort_of a.d_Thing_sort_of ["self"] (sp_Thing_sort_of a K) := by
  refine T.f_Thing_sort_of.ok sc_Thing_sort_of (fun vs H Q E h => ?_) (fun cdv A outer s H vs Q E hr h => ?_)
  · obtain ⟨_, _, _, rfl, _⟩ := h
    rfl
  · obtain ⟨p, d, t, rfl, ⟨⟨dx, h1⟩, _⟩, q⟩ := h
    obtain ⟨hC, hN1, hN2⟩ := t.na T
    refine ⟨_, (pss_one (ps_ret (pe_fld (pv 0) rfl))), ?_⟩
    dsimp! [h1, HO.ins.injEq, hC, hN1, t.called]
    exact q
def sp_Thing_fields (a : Adr) (K : PySem.W.Frag) : Sp := fun vs H Q _ => ∃ p d t, vs = [.ref p] ∧ ThAt a K H p d t ∧ ∀ r xs, H r = none → VlL K H xs t.fs → xs.length ≤ 1000 → Q (.ref r) (upd H r (.lst xs))
theorem ok_Thing_fields (T : Txt K mg a) : FnOk P w K mg base CX0 1 a.a_Thing_fields a.d_Thing_fields ["self"] (sp_Thing_fields a K) := by
  refine T.f_Thing_fields.ok sc_Thing_fields (fun vs H Q E h => ?_) (fun cdv A outer s H vs Q E hr h => ?_)
  · obtain ⟨_, _, _, rfl, _⟩ := h
    rfl
  · obtain ⟨p, d, t, rfl, ⟨⟨dx, h1⟩, xs, h2, h3, h4⟩, q⟩ := h
    obtain ⟨hC, hN1, hN2⟩ := t.na T
    refine ⟨_, (pss_one (ps_ret (pe_callTy call_list_of rfl T.n_list bt_list (pa_cons (pe_fld (pv 0) rfl) pa_nil)))), ?_⟩
    dsimp! [h1, HO.ins.injEq, hC, hN2, t.parts]
    exact ⟨xs, .inl (SqL.of h2), fun l hl => q l xs hl h3 h4⟩
def sp_Thing_words : Sp := fun vs H Q _ => ∃ p, vs = [.ref p] ∧ Q .non H
theorem ok_Thing_words (T : Txt K mg a) : FnOk P w K mg base CX0 1 a.a_Thing_words a.d_Thing_words ["self"] sp_Thing_words := by
  refine T.f_Thing_words.ok sc_Thing_words (fun vs H Q E h => ?_) (fun cdv A outer s H vs Q E hr h => ?_)
  · obtain ⟨_, rfl, _⟩ := h
    rfl
  · obtain ⟨p, rfl, q⟩ := h
    refine ⟨_, (pss_one (ps_ret pe_non)), ?_⟩
    dsimp! []
    exact q
def sp_PlainThing_words (a : Adr) (K : PySem.W.Frag) : Sp := fun vs H Q _ => ∃ p d fs w, vs = [.ref p] ∧ ThAt a K H p d (.plain fs w) ∧ Q (wV w) H
theorem ok_PlainThing_words (T : Txt K mg a) : FnOk P w K mg base CX0 1 a.a_PlainThing_words a.d_PlainThing_words ["self"] (sp_PlainThing_words a K) := by
  refine T.f_PlainThing_words.ok sc_PlainThing_words (fun vs H Q E h => ?_) (fun cdv A outer s H vs Q E hr h => ?_)
  · obtain ⟨_, _, _, _, rfl, _⟩ := h
    rfl
  · obtain ⟨p, d, fs, w, rfl, ⟨⟨dx, h1⟩, _⟩, q⟩ := h
    have h2 : H p = some (.ins a.c_PlainThing dx (flP d w)) := h1
    refine ⟨_, (pss_one (ps_ret (pe_fld (pv 0) rfl))), ?_⟩
    dsimp! [h2, HO.ins.injEq, T.cl_PlainThing, T.na_PlainThing_last_words, flP_lw]
    exact q
theorem words_mem (t : Tg) {p d : Addr} {H : Hp} {Q : VK} {E : XK} (h : ThAt a K H p d t) (q : Q (wV t.words) H) : ∃ sp, (t.cls a, sp) ∈ [(a.c_Thing, sp_Thing_words), (a.c_PlainThing, sp_PlainThing_words a K), (a.c_PairThing, sp_Thing_words)] ∧ sp [.ref p] H Q E := by
  cases t with
  | plain fs w => exact ⟨_, .tail _ (.head _), p, d, fs, w, rfl, h, q⟩
  | weak f => exact ⟨_, .head _, p, rfl, q⟩
  | pair k v => exact ⟨_, .tail _ (.tail _ (.head _)), p, rfl, q⟩
def sp_PlainThing_init (a : Adr) (K : PySem.W.Frag) : Sp := fun vs H Q _ => ∃ p dx l xs w, vs = [.ref p, .ref l, wV w] ∧ H p = some (.ins a.c_PlainThing dx []) ∧ SqL K H l xs ∧
  ∀ d H', Keep p H H' → H d = none → H' p = some (.ins a.c_PlainThing dx (flP d w)) → H' d = some (.lst xs) → Q .non H'
theorem ok_PlainThing_init (T : Txt K mg a) : FnOk P w K mg base CX0 6 a.a_PlainThing_init a.d_PlainThing_init ["self", "some", "last_words"] (sp_PlainThing_init a K) := by
  refine T.f_PlainThing_init.ok sc_PlainThing_init (fun vs H Q E h => ?_) (fun cdv A outer s H vs Q E hr h => ?_)
  · obtain ⟨_, _, _, _, _, rfl, _⟩ := h
    rfl
  · obtain ⟨p, dx, l, xs, w, rfl, h1, hl, q⟩ := h
    refine ⟨_, (pss_cons (ps_expr (pe_clsm (pe_glob (v := .ref a.c_Thing) rfl T.mc_Thing rfl) T.cf_Thing_init (ok_Thing_init T) (hr.mono (by decide)) T.b_Thing_init .nil pass0 (pa_cons (pv 0) (pa_cons pe_str (pa_cons (pv 1) pa_nil))))) (pss_one (ps_fld (pv 0) (pv 2) rfl))), ?_⟩
    dsimp! []
    refine ⟨p, _, dx, _, l, xs, rfl, T.cl_PlainThing, T.na_PlainThing_called, T.na_PlainThing_parts, h1, hl, fun d H' k hd hp h2 => ?_⟩
    have npd : d ≠ p := ne_of h2 hp (by intro z; cases z)
    refine ⟨_, dx, _, hp, T.cl_PlainThing, T.na_PlainThing_last_words, ?_, q d _ (fun b o hb e => ?_) hd upd_same ?_⟩
    · refine Nat.lt_of_le_of_lt (length_putF _ _ _) (Nat.lt_of_le_of_lt (Nat.succ_le_succ (length_putF _ _ _)) (by decide))
    · rw [upd_ne hb]
      exact k b o hb e
    · rw [upd_ne npd]
      exact h2
def sp_PairThing_init (a : Adr) (K : PySem.W.Frag) : Sp := fun vs H Q _ => ∃ p dx x y, vs = [.ref p, x, y] ∧ H p = some (.ins a.c_PairThing dx []) ∧
  ∀ d H', Keep p H H' → H d = none → H' p = some (.ins a.c_PairThing dx (flT "pair" d)) → H' d = some (.lst [x, y]) → Q .non H'
theorem none_up {H : Hp} {b l : Addr} {o : HO} (h : upd H l o b = none) : H b = none := by
  by_cases z : b = l
  · rw [z, upd_same] at h
    cases h
  · rw [upd_ne z] at h
    exact h
theorem ok_PairThing_init (T : Txt K mg a) : FnOk P w K mg base CX0 5 a.a_PairThing_init a.d_PairThing_init ["self", "key", "value"] (sp_PairThing_init a K) := by
  refine T.f_PairThing_init.ok sc_PairThing_init (fun vs H Q E h => ?_) (fun cdv A outer s H vs Q E hr h => ?_)
  · obtain ⟨_, _, _, _, rfl, _⟩ := h
    rfl
  · obtain ⟨p, dx, x, y, rfl, h1, q⟩ := h
    refine ⟨_, (pss_one (ps_expr (pe_clsm (pe_glob (v := .ref a.c_Thing) rfl T.mc_Thing rfl) T.cf_Thing_init (ok_Thing_init T) (hr.mono (by decide)) T.b_Thing_init .nil pass0 (pa_cons (pv 0) (pa_cons pe_str (pa_cons (pe_lst (pa_cons (pv 1) (pa_cons (pv 2) pa_nil))) pa_nil)))))), ?_⟩
    dsimp! []
    refine ⟨by decide, fun l hl => ⟨p, _, dx, _, l, [x, y], rfl, T.cl_PairThing, T.na_PairThing_called, T.na_PairThing_parts, by rw [upd_ne (ne_of_none h1 hl)]; exact h1, SqL.of upd_same, fun d H' k hd hp h2 => ?_⟩⟩
    exact q d H' (fun b o hb e => k b o hb (Same.put hl b o e)) (none_up hd) hp h2
theorem same_new {H H' : Hp} {x dx : Addr} {o u : HO} (h1 : H x = none) (h2 : H dx = none) (k : Keep x (upd (upd H dx o) x u) H') : Same H H' := fun b c e => by
  have n := ne_of_none e h1
  exact k b c n (by rw [upd_ne n, upd_ne (ne_of_none e h2)]; exact e)
def sp_plain (a : Adr) (K : PySem.W.Frag) : Sp := fun vs H Q _ => ∃ l xs vl w, vs = [.ref l, wV w] ∧ SqL K H l xs ∧ VlL K H xs vl ∧ xs.length ≤ 1000 ∧
  ∀ p d H', Same H H' → H p = none → H d = none → ThAt a K H' p d (.plain vl w) → Q (.ref p) H'
theorem ok_plain (T : Txt K mg a) : FnOk P w K mg base CX0 8 a.a_plain a.d_plain ["fields", "words"] (sp_plain a K) := by
  refine T.f_plain.ok sc_plain (fun vs H Q E h => ?_) (fun cdv A outer s H vs Q E hr h => ?_)
  · obtain ⟨_, _, _, _, rfl, _⟩ := h
    rfl
  · obtain ⟨l, xs, vl, w, rfl, hl, hv, hz, q⟩ := h
    refine ⟨_, (pss_one (ps_ret (pe_make T.mk_PlainThing (ok_PlainThing_init T) (hr.mono (by decide)) rfl T.mc_PlainThing T.b_PlainThing_init .nil pass0 (pa_cons (pv 0) (pa_cons (pv 1) pa_nil))))), ?_⟩
    dsimp! []
    refine fun x dx hx hdx ne => ⟨x, dx, l, xs, w, rfl, upd_same, ?_, fun d H' k hd hp h2 => ?_⟩
    · exact ((Same.put hdx).trans (Same.put (by rw [upd_ne ne.symm]; exact hx))).seq hl
    · have sm := same_new hx hdx k
      exact ⟨rfl, q x d H' sm hx (none_up (none_up hd)) ⟨⟨dx, hp⟩, xs, h2, hv.same sm, hz⟩⟩
def sp_weak (a : Adr) (K : PySem.W.Frag) : Sp := fun vs H Q _ => ∃ x v, vs = [x] ∧ IsVl K H x v ∧ ∀ p d H', Same H H' → H p = none → H d = none → ThAt a K H' p d (.weak v) → Q (.ref p) H'
theorem ok_weak (T : Txt K mg a) : FnOk P w K mg base CX0 3 a.a_weak a.d_weak ["field"] (sp_weak a K) := by
  refine T.f_weak.ok sc_weak (fun vs H Q E h => ?_) (fun cdv A outer s H vs Q E hr h => ?_)
  · obtain ⟨_, _, rfl, _⟩ := h
    rfl
  · obtain ⟨y, v, rfl, hv, q⟩ := h
    refine ⟨_, (pss_one (ps_ret (pe_make T.mk_Thing (ok_Thing_init T) (hr.mono (by decide)) rfl T.mc_Thing T.b_Thing_init .nil pass0 (pa_cons pe_str (pa_cons (pe_lst (pa_cons (pv 0) pa_nil)) pa_nil))))), ?_⟩
    dsimp! []
    refine ⟨by decide, fun l hl => fun x dx hx hdx ne => ⟨x, _, dx, _, l, [y], rfl, T.cl_Thing, T.na_Thing_called, T.na_Thing_parts, upd_same, ?_, fun d H' k hd hp h2 => ?_⟩⟩
    · exact ((Same.put hdx).trans (Same.put (by rw [upd_ne ne.symm]; exact hx))).seq (SqL.of upd_same)
    · have sm := (Same.put hl).trans (same_new hx hdx k)
      exact ⟨rfl, q x d H' sm (none_up hx) (none_up (none_up (none_up hd))) ⟨⟨dx, hp⟩, [y], h2, .cons (hv.same sm) (.nil _ _), by simp⟩⟩
def sp_pair (a : Adr) (K : PySem.W.Frag) : Sp := fun vs H Q _ => ∃ x y u v, vs = [x, y] ∧ IsVl K H x u ∧ IsVl K H y v ∧ ∀ p d H', Same H H' → H p = none → H d = none → ThAt a K H' p d (.pair u v) → Q (.ref p) H'
theorem ok_pair (T : Txt K mg a) : FnOk P w K mg base CX0 7 a.a_pair a.d_pair ["key", "value"] (sp_pair a K) := by
  refine T.f_pair.ok sc_pair (fun vs H Q E h => ?_) (fun cdv A outer s H vs Q E hr h => ?_)
  · obtain ⟨_, _, _, _, rfl, _⟩ := h
    rfl
  · obtain ⟨y, z, u, v, rfl, hu, hv, q⟩ := h
    refine ⟨_, (pss_one (ps_ret (pe_make T.mk_PairThing (ok_PairThing_init T) (hr.mono (by decide)) rfl T.mc_PairThing T.b_PairThing_init .nil pass0 (pa_cons (pv 0) (pa_cons (pv 1) pa_nil))))), ?_⟩
    dsimp! []
    refine fun x dx hx hdx ne => ⟨x, dx, y, z, rfl, upd_same, fun d H' k hd hp h2 => ?_⟩
    have sm := same_new hx hdx k
    exact ⟨rfl, q x d H' sm hx (none_up (none_up hd)) ⟨⟨dx, hp⟩, [y, z], h2, .cons (hu.same sm) (.cons (hv.same sm) (.nil _ _)), by simp⟩⟩
structure MA where
  p : Addr
  pr : Addr
  d : Addr
  lb : Addr
  bs : List Addr
  m : Nat
  c : Nat
def flM (pr lb : Addr) : List (Str × V) := putF "begins" (.ref lb) (putF "rooms" (.ref pr) [])
theorem n_rb : ¬ (("rooms" : Str) = "begins") := by decide +kernel
theorem flM_rooms (pr lb : Addr) : (flM pr lb).lookup ("rooms" : Str) = some (.ref pr) := by
  unfold flM
  rw [lookup_putF, if_neg n_rb, lookup_putF, if_pos rfl]
theorem flM_begins (pr lb : Addr) : (flM pr lb).lookup ("begins" : Str) = some (.ref lb) := by
  unfold flM
  rw [lookup_putF, if_pos rfl]
theorem flM_no {pr lb : Addr} {n : Str} (h1 : ¬ n = "begins" := by decide +kernel) (h2 : ¬ n = "rooms" := by decide +kernel) : (flM pr lb).lookup n = none := by
  unfold flM
  rw [lookup_putF, if_neg h1, lookup_putF, if_neg h2]
  all_goals rfl
def begK (es : List (Nat × List V)) (c r : Nat) : List (Key × V) := (es.filter fun b => decide (b.1 / c = r)).map fun b => ((Sum.inl (b.1 : Int) : Key), V.bl true)
theorem begK_has {es : List (Nat × List V)} {c r p : Nat} : (valV (begK es c r) (Sum.inl (p : Int))).isSome = true ↔ ∃ b ∈ es, b.1 = p ∧ p / c = r := by
  rw [← valV_any, List.any_eq_true]
  constructor
  · rintro ⟨x, hx, hk⟩
    obtain ⟨b, hb, rfl⟩ := List.mem_map.mp hx
    obtain ⟨h1, h2⟩ := List.mem_filter.mp hb
    have e : (b.1 : Int) = (p : Int) := Sum.inl.inj (of_decide_eq_true hk)
    have e2 : b.1 = p := by omega
    exact ⟨b, h1, e2, by rw [← e2]; exact of_decide_eq_true h2⟩
  · rintro ⟨b, hb, rfl, hr⟩
    exact ⟨_, List.mem_map.mpr ⟨b, List.mem_filter.mpr ⟨hb, decide_eq_true hr⟩, rfl⟩, decide_eq_true rfl⟩
theorem begK_no {es : List (Nat × List V)} {c r p : Nat} (h : ¬ ∃ b ∈ es, b.1 = p ∧ p / c = r) : valV (begK es c r) (Sum.inl (p : Int)) = none := by
  cases e : valV (begK es c r) (Sum.inl (p : Int)) with
  | none => rfl
  | some v => exact absurd (begK_has.mp (by rw [e]; rfl)) h
theorem begK_add {es : List (Nat × List V)} {c r g : Nat} {cs : List V} : begK (es ++ [(g, cs)]) c r = if g / c = r then begK es c r ++ [(Sum.inl (g : Int), V.bl true)] else begK es c r := by
  unfold begK
  rw [List.filter_append, List.map_append]
  by_cases h : g / c = r
  · rw [if_pos h]
    simp [h]
  · rw [if_neg h]
    simp [h]
theorem begK_len {es : List (Nat × List V)} {c r : Nat} : (begK es c r).length ≤ es.length := by
  unfold begK
  rw [List.length_map]
  exact List.length_filter_le _ _
def MA.own (M : MA) (b : Addr) : Prop := b = M.d ∨ b ∈ M.bs
structure MemAt (a : Adr) (H : Hp) (M : MA) (xs : List V) (es : List (Nat × List V)) : Prop where
  ob : ∃ dx, H M.p = some (.ins a.c_Memory dx (flM M.pr M.lb))
  R : RoomsAt a.c_Rooms H M.pr M.d M.m M.c xs
  li : H M.lb = some (.lst (M.bs.map V.ref))
  nl : M.lb ≠ M.d
  bl : M.bs.length = M.m
  bd : ∀ (r : Nat) b, M.bs[r]? = some b → H b = some (.dK (begK es M.c r))
  bi : M.bs.Nodup
  lay : Lay xs M.c es
  few : es.length ≤ 1000
theorem MemAt.mu {a : Adr} {H : Hp} {M : MA} {xs : List V} {es : List (Nat × List V)} (h : MemAt a H M xs es) (b : Addr) (hb : M.own b) : Mu H b := by
  rcases hb with rfl | hb
  · exact .inl ⟨_, h.R.li⟩
  · obtain ⟨r, hr⟩ := List.mem_iff_getElem?.mp hb
    exact .inr ⟨_, h.bd r b hr⟩
theorem MemAt.same {a : Adr} {H H' : Hp} {M : MA} {xs : List V} {es : List (Nat × List V)} (h : MemAt a H M xs es) (k : Same H H') : MemAt a H' M xs es where
  ob := by
    obtain ⟨dx, e⟩ := h.ob
    exact ⟨dx, k _ _ e⟩
  R := h.R.same k
  li := k _ _ h.li
  nl := h.nl
  bl := h.bl
  bd := fun r b e => k _ _ (h.bd r b e)
  bi := h.bi
  lay := h.lay
  few := h.few
theorem MemAt.off {a : Adr} {S : Addr → Prop} {H H' : Hp} {M : MA} {xs : List V} {es : List (Nat × List V)} (h : MemAt a H M xs es) (k : Kp S H H') (n1 : ¬ S M.p) (n2 : ¬ S M.pr) (n3 : ¬ S M.lb) (n4 : ∀ b, M.own b → ¬ S b) : MemAt a H' M xs es where
  ob := by
    obtain ⟨dx, e⟩ := h.ob
    exact ⟨dx, k _ _ n1 e⟩
  R := by
    obtain ⟨dx, e⟩ := h.R.ob
    exact ⟨⟨dx, k _ _ n2 e⟩, k _ _ (n4 _ (.inl rfl)) h.R.li, h.R.len, h.R.m0, h.R.c0, h.R.sm⟩
  li := k _ _ n3 h.li
  nl := h.nl
  bl := h.bl
  bd := fun r b e => k _ _ (n4 b (.inr (List.mem_of_getElem? e))) (h.bd r b e)
  bi := h.bi
  lay := h.lay
  few := h.few
structure En where
  t : Tg
  ser : Int
  mkd : Bool
def Tg.kn : Tg → Nat
  | .plain _ _ => 0
  | .weak _ => 1
  | .pair _ _ => 2
def Tg.kind (t : Tg) : Int := (t.kn : Int)
def Tg.first : Tg → Nat
  | .plain _ _ => 3
  | _ => 2
theorem Tg.f2 (t : Tg) : 2 ≤ t.first ∧ t.first ≤ 3 := by cases t <;> (constructor <;> simp [Tg.first])
def Tg.size (t : Tg) : Nat := t.first + t.fs.length
def wVl : Option Int → Vl
  | none => .no
  | some n => .num n
structure Cells (K : PySem.W.Frag) (H : Hp) (cs : List V) (e : En) : Prop where
  ex : ∃ mid fx, cs = .int (hd e.t.kind e.mkd e.t.words.isSome (e.t.size : Nat)) :: .int e.ser :: (mid ++ fx) ∧ VlL K H fx e.t.fs ∧ mid.length + 2 = e.t.first ∧ ∀ x ∈ mid, IsVl K H x (wVl e.t.words)
theorem Cells.len {K : PySem.W.Frag} {H : Hp} {cs : List V} {e : En} (h : Cells K H cs e) : cs.length = e.t.size := by
  obtain ⟨mid, fx, rfl, h2, h3, _⟩ := h.ex
  have := h2.1
  simp only [List.length_cons, List.length_append, Tg.size]
  omega
theorem Cells.pos {K : PySem.W.Frag} {H : Hp} {cs : List V} {e : En} (h : Cells K H cs e) : 0 < cs.length := by
  rw [h.len]
  unfold Tg.size
  cases e.t <;> simp [Tg.first] <;> omega
theorem Cells.nn {K : PySem.W.Frag} {H : Hp} {cs : List V} {e : En} (h : Cells K H cs e) : ∀ v ∈ cs, v ≠ .non := by
  obtain ⟨mid, fx, rfl, h2, h3, h4⟩ := h.ex
  intro v hv
  rcases List.mem_cons.mp hv with rfl | hv
  · exact fun z => nomatch z
  · rcases List.mem_cons.mp hv with rfl | hv
    · exact fun z => nomatch z
    · rcases List.mem_append.mp hv with hv | hv
      · obtain ⟨t, rfl, _⟩ := h4 v hv
        exact fun z => nomatch z
      · obtain ⟨i, hi⟩ := List.mem_iff_getElem?.mp hv
        have hl := (List.getElem?_eq_some_iff.mp hi).1
        have := h2.1
        obtain ⟨t, rfl, _⟩ := h2.2 i v _ hi (List.getElem?_eq_getElem (by omega))
        exact fun z => nomatch z
theorem Cells.same {K : PySem.W.Frag} {H H' : Hp} {cs : List V} {e : En} (h : Cells K H cs e) (k : Same H H') : Cells K H' cs e := by
  obtain ⟨mid, fx, e1, h2, h3, h4⟩ := h.ex
  exact ⟨mid, fx, e1, h2.same k, h3, fun x hx => (h4 x hx).same k⟩
theorem Cells.kp {K : PySem.W.Frag} {S : Addr → Prop} {H H' : Hp} {cs : List V} {e : En} (h : Cells K H cs e) (k : Kp S H H') (mu : ∀ b, S b → Mu H b) : Cells K H' cs e := by
  obtain ⟨mid, fx, e1, h2, h3, h4⟩ := h.ex
  exact ⟨mid, fx, e1, h2.kp k mu, h3, fun x hx => (h4 x hx).kp k mu⟩
theorem Tg.k0 (t : Tg) : 0 ≤ t.kind ∧ t.kind < 3 := by cases t <;> (constructor <;> simp [Tg.kind, Tg.kn])
theorem Tg.ix (t : Tg) : (["plain", "weak", "pair"] : List Str)[t.kn]? = some t.sort := by cases t <;> rfl
theorem wV_some (w : Option Int) : (!decide (wV w = V.non)) = w.isSome := by cases w <;> rfl
def sp_first_field : Sp := fun vs H Q _ => ∃ t : Tg, vs = [.str t.sort] ∧ Q (.int (t.first : Nat)) H
theorem n_wp : ¬ (("weak" : Str) = "plain") := by decide +kernel
theorem n_pp : ¬ (("pair" : Str) = "plain") := by decide +kernel
theorem n_pw : ¬ (("pair" : Str) = "weak") := by decide +kernel
theorem n_plw : ¬ (("plain" : Str) = "weak") := by decide +kernel
theorem ok_first_field (T : Txt K mg a) : FnOk P w K mg base CX0 1 a.a_first_field a.d_first_field ["sort"] sp_first_field := by
  refine T.f_first_field.ok sc_first_field (fun vs H Q E h => ?_) (fun cdv A outer s H vs Q E hr h => ?_)
  · obtain ⟨_, rfl, _⟩ := h
    rfl
  · obtain ⟨t, rfl, q⟩ := h
    refine ⟨_, (pss_one (ps_ret (pe_ifExp (pt_cmpR op_eq (pv 0) pe_str (nomark _)) pe_int pe_int))), ?_⟩
    cases t with
    | plain fs w =>
      dsimp! [Tg.sort]
      exact q
    | weak f =>
      dsimp! [Tg.sort, n_wp]
      exact q
    | pair k v =>
      dsimp! [Tg.sort, n_pp]
      exact q
theorem Tg.ixn (t : Tg) : ∀ (i : Nat) y, i < t.kn → (["plain", "weak", "pair"] : List Str)[i]? = some y → y ≠ t.sort := by
  intro i y hi hy
  cases t with
  | plain fs w => exact absurd hi (Nat.not_lt_zero _)
  | weak f =>
    have e : i = 0 := Nat.lt_one_iff.mp hi
    subst e
    cases hy
    exact n_plw
  | pair k v =>
    have h2 : i < 2 := hi
    match i, h2, hy with
    | 0, _, hy =>
      cases hy
      exact fun z => n_pp z.symm
    | 1, _, hy =>
      cases hy
      exact fun z => n_pw z.symm
def sp_size_of (a : Adr) (K : PySem.W.Frag) : Sp := fun vs H Q _ => ∃ p d t, vs = [.ref p] ∧ ThAt a K H p d t ∧ ∀ H', Same H H' → Q (.int (t.size : Nat)) H'
theorem ok_size_of (T : Txt K mg a) : FnOk P w K mg base CX0 2 a.a_size_of a.d_size_of ["thing"] (sp_size_of a K) := by
  refine T.f_size_of.ok sc_size_of (fun vs H Q E h => ?_) (fun cdv A outer s H vs Q E hr h => ?_)
  · obtain ⟨_, _, _, rfl, _⟩ := h
    rfl
  · obtain ⟨p, d, t, rfl, h, q⟩ := h
    obtain ⟨dx, h1⟩ := h.ob
    refine ⟨_, (pss_one (ps_ret (pe_op op_add (pe_call (ok_first_field T) (hr.mono (by decide)) rfl T.m_first_field T.f_first_field.kp T.b_first_field .nil pass0 (pa_cons (pe_methV0 (L := [(a.c_Thing, sp_Thing_sort_of a K), (a.c_PlainThing, sp_Thing_sort_of a K), (a.c_PairThing, sp_Thing_sort_of a K)]) (pv 0) (List.forall_mem_cons.mpr ⟨⟨_, _, _, _, T.cl_Thing, T.me_Thing_sort_of, ok_Thing_sort_of T, hr.mono (by decide), T.b_Thing_sort_of⟩, List.forall_mem_cons.mpr ⟨⟨_, _, _, _, T.cl_PlainThing, T.me_PlainThing_sort_of, ok_Thing_sort_of T, hr.mono (by decide), T.b_Thing_sort_of⟩, List.forall_mem_cons.mpr ⟨⟨_, _, _, _, T.cl_PairThing, T.me_PairThing_sort_of, ok_Thing_sort_of T, hr.mono (by decide), T.b_Thing_sort_of⟩, List.forall_mem_nil _⟩⟩⟩) .nil pass0) pa_nil)) (pe_callB call_len_seq rfl T.n_len bt_len (pa_cons (pe_methV0 (L := [(a.c_Thing, sp_Thing_fields a K), (a.c_PlainThing, sp_Thing_fields a K), (a.c_PairThing, sp_Thing_fields a K)]) (pv 0) (List.forall_mem_cons.mpr ⟨⟨_, _, _, _, T.cl_Thing, T.me_Thing_fields, ok_Thing_fields T, hr.mono (by decide), T.b_Thing_fields⟩, List.forall_mem_cons.mpr ⟨⟨_, _, _, _, T.cl_PlainThing, T.me_PlainThing_fields, ok_Thing_fields T, hr.mono (by decide), T.b_Thing_fields⟩, List.forall_mem_cons.mpr ⟨⟨_, _, _, _, T.cl_PairThing, T.me_PairThing_fields, ok_Thing_fields T, hr.mono (by decide), T.b_Thing_fields⟩, List.forall_mem_nil _⟩⟩⟩) .nil pass0) pa_nil))))), ?_⟩
    have f2 := t.no d (n := "sort_of")
    have f3 := t.no d (n := "fields")
    dsimp! [h1, HO.ins.injEq, f2, f3]
    refine ⟨_, t.mem _, p, d, t, rfl, h, t, rfl, _, _, _, h1, f3, _, t.mem _, p, d, t, rfl, h, fun r xs hr2 hv hz => ?_⟩
    refine ⟨r, rfl, xs, .inl (SqL.of upd_same), ?_⟩
    have := q _ (Same.put (o := .lst xs) hr2)
    rw [← hv.1]
    simpa [Tg.size] using this
def sp_words_cell (K : PySem.W.Frag) : Sp := fun vs H Q _ => ∃ w, vs = [wV w] ∧ ∀ x H', Same H H' → IsVl K H' x (wVl w) → Q x H'
theorem ok_words_cell (T : Txt K mg a) : FnOk P w K mg base CX0 1 a.a_words_cell a.d_words_cell ["words"] (sp_words_cell K) := by
  refine T.f_words_cell.ok sc_words_cell (fun vs H Q E h => ?_) (fun cdv A outer s H vs Q E hr h => ?_)
  · obtain ⟨_, rfl, _⟩ := h
    rfl
  · obtain ⟨w, rfl, q⟩ := h
    refine ⟨_, (pss_one (ps_ret (pe_ifExp (pt_cmpR op_isN (pv 0) pe_non (nomark _)) (pe_glob (v := .ref a.t_NOTHING) rfl T.c_NOTHING rfl) (pe_tup (pa_cons pe_str (pa_cons (pv 0) pa_nil)))))), ?_⟩
    cases w with
    | none =>
      dsimp! [wV]
      exact q _ H (.refl H) ⟨_, rfl, T.q_NOTHING H⟩
    | some n =>
      dsimp! [wV]
      exact ⟨by decide, fun t ht => q _ _ (Same.put ht) ⟨t, rfl, SqT.of upd_same⟩⟩
def sp_Rooms_room_of (C : Addr) : Sp := fun vs H Q _ => ∃ p d m c xs i, vs = [.ref p, .int (i : Nat)] ∧ RoomsAt C H p d m c xs ∧ Q (.int ((i / c : Nat) : Int)) H
theorem ok_Rooms_room_of (T : Txt K mg a) : FnOk P w K mg base CX0 1 a.a_Rooms_room_of a.d_Rooms_room_of ["self", "place"] (sp_Rooms_room_of a.c_Rooms) := by
  refine T.f_Rooms_room_of.ok sc_Rooms_room_of (fun vs H Q E h => ?_) (fun cdv A outer s H vs Q E hr h => ?_)
  · obtain ⟨_, _, _, _, _, _, rfl, _⟩ := h
    rfl
  · obtain ⟨p, d, m, c, xs, i, rfl, R, q⟩ := h
    obtain ⟨dx, h1⟩ := R.ob
    have hc0 := R.c0
    have hcs : c ≤ 1000 := Nat.le_trans (Nat.le_mul_of_pos_left c R.m0) R.sm
    refine ⟨_, (pss_one (ps_ret (pe_op op_fdivL (pv 1) (pe_fld (pv 0) rfl)))), ?_⟩
    dsimp! [h1, HO.ins.injEq, T.cl_Rooms, T.na_Rooms_cells, flds_cells]
    refine ⟨.small (by omega) (by omega), ?_⟩
    rw [← Int.natCast_ediv]
    exact q
theorem cells_end {t : Tg} {ser : Int} {mk : Bool} {H : Hp} {p d l1 l2 : Addr} {mid : List V} {Q : VK} {E : XK} {hdv : Int} (eh : hdv = hd t.kind mk t.words.isSome (t.size : Nat)) (em : mid.length + 2 = t.first) (hf : t.fs.length ≤ 900)
    (f3 : (t.fl d).lookup ("fields" : Str) = none) (h : ThAt a K H p d t) (hl1 : H l1 = none) (hl2 : upd H l1 (.lst mid) l2 = none) (hx : ∀ x ∈ mid, IsVl K H x (wVl t.words)) (hml : mid.length ≤ 1)
    (q : ∀ r cs H', Same H H' → H r = none → H' r = some (.lst cs) → Cells K H' cs (⟨t, ser, mk⟩ : En) → Q (.ref r) H') :
    rCatS K (.ref l2) (.ref l1) (upd (upd H l1 (.lst mid)) l2 (.lst [.int hdv, .int ser])) fun x H1 =>
      ∃ C dx fs, H1 p = some (.ins C dx fs) ∧ fs.lookup ("fields" : Str) = none ∧ ∃ sp, (C, sp) ∈ [(a.c_Thing, sp_Thing_fields a K), (a.c_PlainThing, sp_Thing_fields a K), (a.c_PairThing, sp_Thing_fields a K)] ∧ sp [.ref p] H1 (fun y H2 => rCatS K x y H2 Q) E := by
  have n12 : l1 ≠ l2 := ne_of_none upd_same hl2
  have k1 := (Same.put (o := .lst mid) hl1).trans (Same.put (o := .lst [V.int hdv, V.int ser]) hl2)
  refine ⟨l2, l1, [.int hdv, .int ser], mid, rfl, rfl, SqL.of upd_same, SqL.of (by rw [upd_ne n12]; exact upd_same), Nat.le_of_lt (small1000 (by simp; omega)), fun l3 hl3 => ?_⟩
  have k2 := k1.trans (Same.put (o := .lst ([V.int hdv, V.int ser] ++ mid)) hl3)
  have hl3' : upd (upd (upd H l1 (.lst mid)) l2 (.lst [V.int hdv, V.int ser])) l3 (.lst ([V.int hdv, V.int ser] ++ mid)) l3 = some (.lst ([V.int hdv, V.int ser] ++ mid)) := upd_same
  generalize upd (upd (upd H l1 (.lst mid)) l2 (.lst [V.int hdv, V.int ser])) l3 (.lst ([V.int hdv, V.int ser] ++ mid)) = H3 at k2 hl3'
  have h3 := h.same k2
  obtain ⟨dx, h4⟩ := h3.ob
  refine ⟨_, dx, _, h4, f3, _, t.mem _, p, d, t, rfl, h3, fun l4 fx hl4 hv hz => ?_⟩
  have k4 := Same.put (o := .lst fx) hl4
  have fl : fx.length ≤ 900 := by rw [← hv.1]; exact hf
  refine ⟨l3, l4, _, fx, rfl, rfl, SqL.of (k4 _ _ hl3'), SqL.of upd_same, Nat.le_of_lt (small1000 (by simp; omega)), fun r hr => ?_⟩
  have k5 := Same.put (o := .lst (([V.int hdv, V.int ser] ++ mid) ++ fx)) hr
  have kk := k2.trans (k4.trans k5)
  refine q r _ _ kk (k2.free (none_up hr)) upd_same ⟨mid, fx, by rw [eh]; rfl, hv.same (k4.trans k5), em, fun x hx2 => (hx x hx2).same kk⟩
def sp_cells_of (a : Adr) (K : PySem.W.Frag) : Sp := fun vs H Q _ => ∃ p d t ser mk, vs = [.ref p, .int ser, .bl mk] ∧ ThAt a K H p d t ∧ t.fs.length ≤ 900 ∧ ∀ r cs H', Same H H' → H r = none → H' r = some (.lst cs) → Cells K H' cs (⟨t, ser, mk⟩ : En) → Q (.ref r) H'
theorem ok_cells_of (T : Txt K mg a) : FnOk P w K mg base CX0 4 a.a_cells_of a.d_cells_of ["thing", "serial", "marked"] (sp_cells_of a K) := by
  refine T.f_cells_of.ok sc_cells_of (fun vs H Q E h => ?_) (fun cdv A outer s H vs Q E hr h => ?_)
  · obtain ⟨_, _, _, _, _, rfl, _⟩ := h
    rfl
  · obtain ⟨p, d, t, ser, mk, rfl, h, hf, q⟩ := h
    obtain ⟨dx, h1⟩ := h.ob
    refine ⟨_, (pss_cons (ps_set (i := 3) sc_cells_of.nd rfl (Or.inl rfl) (pe_methV0 (L := [(a.c_Thing, sp_Thing_words), (a.c_PlainThing, sp_PlainThing_words a K), (a.c_PairThing, sp_Thing_words)]) (pv 0) (List.forall_mem_cons.mpr ⟨⟨_, _, _, _, T.cl_Thing, T.me_Thing_words, ok_Thing_words T, hr.mono (by decide), T.b_Thing_words⟩, List.forall_mem_cons.mpr ⟨⟨_, _, _, _, T.cl_PlainThing, T.me_PlainThing_words, ok_PlainThing_words T, hr.mono (by decide), T.b_PlainThing_words⟩, List.forall_mem_cons.mpr ⟨⟨_, _, _, _, T.cl_PairThing, T.me_PairThing_words, ok_Thing_words T, hr.mono (by decide), T.b_Thing_words⟩, List.forall_mem_nil _⟩⟩⟩) .nil pass0)) (pss_cons (ps_set (i := 4) sc_cells_of.nd rfl (Or.inl rfl) (pe_call (ok_header T) (hr.mono (by decide)) rfl T.m_header T.f_header.kp T.b_header .nil pass0 (pa_cons (pe_bm PySem.F.plainAttrs_tuple PySem.F.slot_tuple_index PySem.F.type_tuple_index mt_indexT (pe_glob (v := .ref a.t_SORTS) rfl T.c_SORTS rfl) (pa_cons (pe_methV0 (L := [(a.c_Thing, sp_Thing_sort_of a K), (a.c_PlainThing, sp_Thing_sort_of a K), (a.c_PairThing, sp_Thing_sort_of a K)]) (pv 0) (List.forall_mem_cons.mpr ⟨⟨_, _, _, _, T.cl_Thing, T.me_Thing_sort_of, ok_Thing_sort_of T, hr.mono (by decide), T.b_Thing_sort_of⟩, List.forall_mem_cons.mpr ⟨⟨_, _, _, _, T.cl_PlainThing, T.me_PlainThing_sort_of, ok_Thing_sort_of T, hr.mono (by decide), T.b_Thing_sort_of⟩, List.forall_mem_cons.mpr ⟨⟨_, _, _, _, T.cl_PairThing, T.me_PairThing_sort_of, ok_Thing_sort_of T, hr.mono (by decide), T.b_Thing_sort_of⟩, List.forall_mem_nil _⟩⟩⟩) .nil pass0) pa_nil)) (pa_cons (pv 2) (pa_cons (pe_cmpR op_notN (pv 3) pe_non (nomark _)) (pa_cons (pe_call (ok_size_of T) (hr.mono (by decide)) rfl T.m_size_of T.f_size_of.kp T.b_size_of .nil pass0 (pa_cons (pv 0) pa_nil)) pa_nil)))))) (pss_cons (ps_set (i := 5) sc_cells_of.nd rfl (Or.inl rfl) (pe_ifExp (pt_cmpR op_eq (pe_methV0 (L := [(a.c_Thing, sp_Thing_sort_of a K), (a.c_PlainThing, sp_Thing_sort_of a K), (a.c_PairThing, sp_Thing_sort_of a K)]) (pv 0) (List.forall_mem_cons.mpr ⟨⟨_, _, _, _, T.cl_Thing, T.me_Thing_sort_of, ok_Thing_sort_of T, hr.mono (by decide), T.b_Thing_sort_of⟩, List.forall_mem_cons.mpr ⟨⟨_, _, _, _, T.cl_PlainThing, T.me_PlainThing_sort_of, ok_Thing_sort_of T, hr.mono (by decide), T.b_Thing_sort_of⟩, List.forall_mem_cons.mpr ⟨⟨_, _, _, _, T.cl_PairThing, T.me_PairThing_sort_of, ok_Thing_sort_of T, hr.mono (by decide), T.b_Thing_sort_of⟩, List.forall_mem_nil _⟩⟩⟩) .nil pass0) pe_str (nomark _)) (pe_lst (pa_cons (pe_call (ok_words_cell T) (hr.mono (by decide)) rfl T.m_words_cell T.f_words_cell.kp T.b_words_cell .nil pass0 (pa_cons (pv 3) pa_nil)) pa_nil)) (pe_lst pa_nil))) (pss_one (ps_ret (pe_op op_catS (pe_op op_catS (pe_lst (pa_cons (pv 4) (pa_cons (pv 1) pa_nil))) (pv 5)) (pe_methV0 (L := [(a.c_Thing, sp_Thing_fields a K), (a.c_PlainThing, sp_Thing_fields a K), (a.c_PairThing, sp_Thing_fields a K)]) (pv 0) (List.forall_mem_cons.mpr ⟨⟨_, _, _, _, T.cl_Thing, T.me_Thing_fields, ok_Thing_fields T, hr.mono (by decide), T.b_Thing_fields⟩, List.forall_mem_cons.mpr ⟨⟨_, _, _, _, T.cl_PlainThing, T.me_PlainThing_fields, ok_Thing_fields T, hr.mono (by decide), T.b_Thing_fields⟩, List.forall_mem_cons.mpr ⟨⟨_, _, _, _, T.cl_PairThing, T.me_PairThing_fields, ok_Thing_fields T, hr.mono (by decide), T.b_Thing_fields⟩, List.forall_mem_nil _⟩⟩⟩) .nil pass0))))))), ?_⟩
    have f1 := t.no d (n := "words")
    have f2 := t.no d (n := "sort_of")
    have f3 := t.no d (n := "fields")
    dsimp! [h1, HO.ins.injEq, f1, f2, f3]
    refine words_mem t h ?_
    dsimp! [h1, HO.ins.injEq, f2, f3, wV_some]
    have hsz : (t.size : Int) < 10 ^ 60 := by
      have : t.size ≤ 903 := by
        unfold Tg.size
        have := t.f2.2
        omega
      exact Int.lt_of_lt_of_le (b := 1000) (by omega) (by decide)
    refine ⟨.inr (.inl ⟨rfl, T.d_SORTS⟩), _, t.mem _, p, d, t, rfl, h, ["plain", "weak", "pair"], _, rfl, T.q_SORTS H, t.kn, t.ix, t.ixn, p, d, t, rfl, h, fun H1 s1 => ⟨_, _, _, _, rfl, t.k0, by omega, hsz, _, _, _, s1 _ _ h1, f2, _, t.mem _, p, d, t, rfl, h.same s1, ?_⟩⟩
    have hT1 := h.same s1
    have h11 := s1 _ _ h1
    cases t with
    | plain fs w =>
      dsimp! [Tg.sort]
      refine ⟨w, rfl, fun x H2 s2 hx => ⟨by simp [sizeLine_eq], fun l1 hl1 => ⟨by decide, fun l2 hl2 => ?_⟩⟩⟩
      exact cells_end (mid := [x]) rfl rfl hf f3 (h.same (s1.trans s2)) hl1 hl2 (fun y hy => by rw [List.mem_singleton.mp hy]; exact hx) (by simp) fun r cs H' s3 hr3 hr4 hc => q r cs H' ((s1.trans s2).trans s3) ((s1.trans s2).free hr3) hr4 hc
    | weak f =>
      dsimp! [Tg.sort, n_wp]
      refine fun l1 hl1 => ⟨by decide, fun l2 hl2 => ?_⟩
      exact cells_end (mid := []) rfl rfl hf f3 hT1 hl1 hl2 (fun y hy => (nomatch hy)) (by simp) fun r cs H' s3 hr3 hr4 hc => q r cs H' (s1.trans s3) (s1.free hr3) hr4 hc
    | pair k v =>
      dsimp! [Tg.sort, n_pp]
      refine fun l1 hl1 => ⟨by decide, fun l2 hl2 => ?_⟩
      exact cells_end (mid := []) rfl rfl hf f3 hT1 hl1 hl2 (fun y hy => (nomatch hy)) (by simp) fun r cs H' s3 hr3 hr4 hc => q r cs H' (s1.trans s3) (s1.free hr3) hr4 hc
def sp_Memory_init (a : Adr) : Sp := fun vs H Q _ => ∃ p dx m c, vs = [.ref p, .int (m : Nat), .int (c : Nat)] ∧ H p = some (.ins a.c_Memory dx []) ∧ 0 < m ∧ 0 < c ∧ m * c ≤ 1000 ∧
  ∀ M H', M.p = p → M.m = m → M.c = c → MemAt a H' M (List.replicate (m * c) .non) [] → Keep p H H' → (∀ b, M.own b → H b = none) → H M.lb = none → H M.pr = none → Q .non H'
theorem ok_Memory_init (T : Txt K mg a) : FnOk P w K mg base CX0 4 a.a_Memory_init a.d_Memory_init ["self", "many", "cells"] (sp_Memory_init a) := by
  refine T.f_Memory_init.ok sc_Memory_init (fun vs H Q E h => ?_) (fun cdv A outer s H vs Q E hr h => ?_)
  · obtain ⟨_, _, _, _, rfl, _⟩ := h
    rfl
  · obtain ⟨p, dx, m, c, rfl, h1, hm, hc, hmc, q⟩ := h
    refine ⟨_, (pss_cons (ps_fld (pv 0) (pe_make T.mk_Rooms (ok_Rooms_init T) (hr.mono (by decide)) rfl T.mc_Rooms T.b_Rooms_init .nil pass0 (pa_cons (pv 1) (pa_cons (pv 2) pa_nil))) rfl) (pss_one (ps_fld (pv 0) (pe_lc rfl (lcok (x := "room") (ns := []) (fr := []) rfl (by decide +kernel) rfl (by decide +kernel) rfl (List.forall_mem_nil _) rfl rfl (List.forall_mem_nil _) (by decide +kernel)) (pi_range1 rfl T.n_range (pa_cons (pv 1) pa_nil)) (fun _ _ _ _ => pe_dnewK) (fun _ _ _ _ => .nil)) rfl))), ?_⟩
    dsimp! [h1, HO.ins.injEq]
    refine fun x dx2 hx hdx2 ne => ⟨x, dx2, m, c, rfl, upd_same, hm, hc, hmc, fun H2 d R2 k2 hd2 => ?_⟩
    have hm1000 : m ≤ 1000 := Nat.le_trans (Nat.le_mul_of_pos_right m hc) hmc
    have kH : Same H H2 := fun b o e => k2 b o (ne_of_none e hx) (by rw [upd_ne (ne_of_none e hx), upd_ne (ne_of_none e hdx2)]; exact e)
    have hp2 := kH _ _ h1
    have hd0 : H d = none := none_up (none_up hd2)
    refine ⟨rfl, _, _, _, hp2, T.cl_Memory, T.na_Memory_rooms, by decide, by omega, by omega, fun D hD => ?_⟩
    have hDp : D ≠ p := fun z => by rw [z, upd_same] at hD; cases hD
    have kp3 : Keep p H2 (upd H2 p (.ins a.c_Memory dx (putF "rooms" (.ref x) []))) := (Keep.refl p H2).set
    have hp3 : upd H2 p (.ins a.c_Memory dx (putF "rooms" (.ref x) [])) p = some (.ins a.c_Memory dx (putF "rooms" (.ref x) [])) := upd_same
    have n3 : ∀ b, upd H2 p (.ins a.c_Memory dx (putF "rooms" (.ref x) [])) b = none → H b = none := fun b hb => by
      have h0 := none_up hb
      cases e : H b with
      | none => rfl
      | some o =>
        rw [kH b o e] at h0
        cases h0
    generalize upd H2 p (.ins a.c_Memory dx (putF "rooms" (.ref x) [])) = H3 at hD kp3 hp3 n3
    have hdp : d ≠ p := ne_of R2.li hp2 (by intro z; cases z)
    have hxp : x ≠ p := (ne_of_none h1 hx).symm
    have R3 : RoomsAt a.c_Rooms H3 x d m c (List.replicate (m * c) V.non) := by
      obtain ⟨dx5, h5⟩ := R2.ob
      exact ⟨⟨dx5, kp3 _ _ hxp h5⟩, kp3 _ _ hdp R2.li, R2.len, R2.m0, R2.c0, R2.sm⟩
    refine lcr (fun i ys H4 => ∃ bs : List Addr, ys = bs.map V.ref ∧ bs.length = i ∧ bs.Nodup ∧ H4 D = some (.lst ys) ∧ (∀ b ∈ bs, H4 b = some (.dK []) ∧ H3 b = none ∧ b ≠ D) ∧ Same H3 H4)
      ⟨[], rfl, rfl, List.nodup_nil, upd_same, fun b hb => (nomatch hb), Same.put hD⟩ ?_ ?_
    · rintro i m' ys H4 hmm hi ⟨bs, rfl, hbl, hnd, hD4, hb4, k4⟩
      dsimp! [lcSlots]
      refine fun b hb => lcS.mk hmm (by rw [upd_ne (ne_of_none hD4 hb)]; exact hD4) (by rw [List.length_map]; omega) ⟨bs ++ [b], by rw [List.map_append]; rfl, by simp [hbl], ?_, upd_same, fun b' hb' => ?_, ?_⟩
      · refine nd_snoc hnd fun z => ?_
        rw [(hb4 b z).1] at hb
        cases hb
      · have nb : b ≠ D := (ne_of_none hD4 hb).symm
        have h3b : H3 b = none := by
          cases e : H3 b with
          | none => rfl
          | some o =>
            rw [k4 b o e] at hb
            cases hb
        rcases List.mem_append.mp hb' with z | z
        · obtain ⟨z1, z2, z3⟩ := hb4 b' z
          refine ⟨?_, z2, z3⟩
          rw [upd_ne z3, upd_ne (ne_of_none z1 hb)]
          exact z1
        · rw [List.mem_singleton.mp z]
          refine ⟨?_, h3b, nb⟩
          rw [upd_ne nb]
          exact upd_same
      · intro b' o e
        rw [upd_ne (ne_of_none e hD), upd_ne (ne_of_none (k4 b' o e) hb)]
        exact k4 b' o e
    · rintro ys H4 ⟨bs, rfl, hbl, hnd, hD4, hb4, k4⟩
      have hp4 := k4 _ _ hp3
      refine ⟨_, _, _, hp4, T.cl_Memory, T.na_Memory_begins, Nat.lt_of_le_of_lt (length_putF _ _ _) (by decide), ?_⟩
      have kp5 : Keep p H4 (upd H4 p (.ins a.c_Memory dx (putF "begins" (.ref D) (putF "rooms" (.ref x) [])))) := (Keep.refl p H4).set
      refine q ⟨p, x, d, D, bs, m, c⟩ _ rfl rfl rfl ⟨⟨dx, upd_same⟩, ?_, kp5 _ _ hDp hD4, ?_, hbl, fun r b hr2 => ?_, hnd, Lay.nil _ _, Nat.zero_le _⟩ ?_ ?_ (n3 D hD) hx
      · have R4 := R3.same k4
        obtain ⟨dx5, h5⟩ := R4.ob
        exact ⟨⟨dx5, kp5 _ _ hxp h5⟩, kp5 _ _ hdp R4.li, R4.len, R4.m0, R4.c0, R4.sm⟩
      · exact (ne_of_none R3.li hD).symm
      · have hb := hb4 b (List.mem_of_getElem? hr2)
        exact kp5 _ _ (ne_of hb.1 hp4 (by intro z; cases z)) hb.1
      · intro b o hb e
        exact kp5 b o hb (k4 b o (kp3 b o hb (kH b o e)))
      · rintro b (rfl | hb)
        · exact hd0
        · exact n3 b (hb4 b hb).2.1
theorem nodup_at {α : Type} {l : List α} (h : l.Nodup) {i j : Nat} (hi : i < l.length) (hj : j < l.length) (e : l[i] = l[j]) : i = j := by
  rcases Nat.lt_trichotomy i j with q | q | q
  · exact absurd e (List.pairwise_iff_getElem.mp h i j hi hj q)
  · exact q
  · exact absurd e.symm (List.pairwise_iff_getElem.mp h j i hj hi q)
def sp_Memory_fill_from (a : Adr) : Sp := fun vs H Q _ => ∃ M xs es g l cs, vs = [.ref M.p, .int (g : Nat), .ref l] ∧ MemAt a H M xs es ∧ H l = some (.lst cs) ∧ l ≠ M.d ∧ Fits xs M.c cs.length g ∧ 0 < cs.length ∧ (∀ v ∈ cs, v ≠ .non) ∧ es.length < 1000 ∧
  ∀ H', Kp M.own H H' → MemAt a H' M (setAll xs g cs) (es ++ [(g, cs)]) → Q .non H'
theorem ok_Memory_fill_from (T : Txt K mg a) : FnOk P w K mg base CX0 2 a.a_Memory_fill_from a.d_Memory_fill_from ["self", "place", "some"] (sp_Memory_fill_from a) := by
  refine T.f_Memory_fill_from.ok sc_Memory_fill_from (fun vs H Q E h => ?_) (fun cdv A outer s H vs Q E hr h => ?_)
  · obtain ⟨_, _, _, _, _, _, rfl, _⟩ := h
    rfl
  · obtain ⟨M, xs, es, g, l, cs, rfl, hM, hl, nld, hF, hcs, hnn, hes, q⟩ := h
    obtain ⟨dx, h1⟩ := hM.ob
    obtain ⟨dx2, h2⟩ := hM.R.ob
    refine ⟨_, (pss_cons (ps_expr (pe_meth (pe_fld (pv 0) rfl) T.cl_Rooms T.me_Rooms_fill_in (ok_Rooms_fill_in T) (hr.mono (by decide)) T.b_Rooms_fill_in .nil pass0 (pa_cons (pv 1) (pa_cons (pv 2) pa_nil)))) (pss_one (ps_dput (hu_of hr) (pe_ix ix_list (pe_fld (pv 0) rfl) (pe_meth (pe_fld (pv 0) rfl) T.cl_Rooms T.me_Rooms_room_of (ok_Rooms_room_of T) (hr.mono (by decide)) T.b_Rooms_room_of .nil pass0 (pa_cons (pv 1) pa_nil)) (fun _ _ => rfl)) (pv 1) pe_bl rfl))), ?_⟩
    have f1 := flM_no (pr := M.pr) (lb := M.lb) (n := "fill_in")
    dsimp! [h1, h2, HO.ins.injEq, T.cl_Memory, T.na_Memory_rooms, flM_rooms, fl_fill_in]
    have hR := hM.R
    have hdl := hR.li
    refine ⟨M.pr, M.d, M.m, M.c, xs, g, l, cs, rfl, hR, hl, nld, hF.1, fun H1 k1 hd1 => ?_⟩
    have npd : M.p ≠ M.d := ne_of h1 hdl (by intro z; cases z)
    have h1' := k1 _ _ npd h1
    have h2' := k1 _ _ hR.ne h2
    have R1 := hR.keep k1 hd1 (setAll_length cs xs g)
    have hlb := k1 _ _ hM.nl hM.li
    have hroom : g / M.c < M.m := by
      rw [Nat.div_lt_iff_lt_mul hR.c0, ← hR.len]
      have := hF.1
      omega
    have hbs : g / M.c < M.bs.length := by rw [hM.bl]; exact hroom
    have hgb : M.bs[g / M.c]? = some M.bs[g / M.c] := List.getElem?_eq_getElem hbs
    have hbd := hM.bd _ _ hgb
    have nbd : M.bs[g / M.c] ≠ M.d := ne_of hbd hdl (by intro z; cases z)
    have hbd1 := k1 _ _ nbd hbd
    refine ⟨_, _, _, h1', T.cl_Memory, T.na_Memory_begins, _, flM_begins _ _, _, _, _, h1', T.cl_Memory, T.na_Memory_rooms, _, flM_rooms _ _, _, rfl, _, _, h2', fl_room_of _ _ _, M.pr, M.d, M.m, M.c, setAll xs g cs, g, rfl, R1, ?_⟩
    have hno : valV (begK es M.c (g / M.c)) (Sum.inl (g : Int)) = none := begK_no fun ⟨b, hb, e1, _⟩ => by
      have h3 := hM.lay.apart hb hF.2.2 hcs
      have h4 := (hM.lay.one b hb).1
      omega
    refine ⟨M.lb, _, _, .ref M.bs[g / M.c], rfl, rfl, SqL.of hlb, atI_nat (by rw [List.getElem?_map, hgb]; rfl), _, rfl, _, DPut.k (k := Sum.inl (g : Int)) hbd1 (small1000 (Nat.le_trans begK_len (Nat.le_of_lt hes))), ?_⟩
    rw [putK_new _ hno]
    refine q _ ?_ ⟨⟨dx, ?_⟩, ?_, ?_, hM.nl, hM.bl, fun r b hb => ?_, hM.bi, hM.lay.put hF hcs hnn, by simp; omega⟩
    · exact (Keep.kp k1 (.inl rfl)).set (.inr (List.getElem_mem hbs))
    · rw [upd_ne (ne_of h1' hbd1 (by intro z; cases z))]
      exact h1'
    · exact ⟨⟨dx2, by rw [upd_ne (ne_of h2' hbd1 (by intro z; cases z))]; exact h2'⟩, by rw [upd_ne nbd.symm]; exact hd1, R1.len, R1.m0, R1.c0, R1.sm⟩
    · rw [upd_ne (ne_of hlb hbd1 (by intro z; cases z))]
      exact hlb
    · rw [begK_add]
      by_cases hr2 : g / M.c = r
      · subst hr2
        rw [hgb] at hb
        cases hb
        rw [if_pos rfl, upd_same]
      · have hrl := (List.getElem?_eq_some_iff.mp hb).1
        have hrb := (List.getElem?_eq_some_iff.mp hb).2
        have nb : b ≠ M.bs[g / M.c] := fun z => by
          rw [← hrb] at z
          exact hr2 (nodup_at hM.bi hrl hbs z).symm
        have h5 := hM.bd r b hb
        rw [if_neg hr2, upd_ne nb]
        exact k1 _ _ (ne_of h5 hdl (by intro z; cases z)) h5
def sp_Memory_put_in (a : Adr) (K : PySem.W.Frag) : Sp := fun vs H Q _ => ∃ M xs es p d t ser mk, vs = [.ref M.p, .ref p, .int ser, .bl mk] ∧ MemAt a H M xs es ∧ ThAt a K H p d t ∧ t.fs.length ≤ 900 ∧ es.length < 1000 ∧
  (∀ g cs H', IsGap xs M.c t.size (some g) → Kp M.own H H' → MemAt a H' M (setAll xs g cs) (es ++ [(g, cs)]) → Cells K H' cs (⟨t, ser, mk⟩ : En) → Q (.int (g : Nat)) H') ∧ (∀ H', IsGap xs M.c t.size none → Same H H' → Q .non H')
theorem ok_Memory_put_in (T : Txt K mg a) : FnOk P w K mg base CX0 5 a.a_Memory_put_in a.d_Memory_put_in ["self", "thing", "serial", "marked"] (sp_Memory_put_in a K) := by
  refine T.f_Memory_put_in.ok sc_Memory_put_in (fun vs H Q E h => ?_) (fun cdv A outer s H vs Q E hr h => ?_)
  · obtain ⟨_, _, _, _, _, _, _, _, rfl, _⟩ := h
    rfl
  · obtain ⟨M, xs, es, p, d, t, ser, mk, rfl, hM, hT, hf, hes, q1, q2⟩ := h
    obtain ⟨dx, h1⟩ := hM.ob
    obtain ⟨dx2, h2⟩ := hM.R.ob
    refine ⟨_, (pss_cons (ps_set (i := 4) sc_Memory_put_in.nd rfl (Or.inl rfl) (pe_meth (pe_fld (pv 0) rfl) T.cl_Rooms T.me_Rooms_gap (ok_Rooms_gap T) (hr.mono (by decide)) T.b_Rooms_gap .nil pass0 (pa_cons (pe_call (ok_size_of T) (hr.mono (by decide)) rfl T.m_size_of T.f_size_of.kp T.b_size_of .nil pass0 (pa_cons (pv 1) pa_nil)) pa_nil))) (pss_cons (ps_if (pt_cmpR op_notN (pv 4) pe_non (nomark _)) (pss_one (ps_expr (pe_meth (pv 0) T.cl_Memory T.me_Memory_fill_from (ok_Memory_fill_from T) (hr.mono (by decide)) T.b_Memory_fill_from .nil pass0 (pa_cons (pv 4) (pa_cons (pe_call (ok_cells_of T) (hr.mono (by decide)) rfl T.m_cells_of T.f_cells_of.kp T.b_cells_of .nil pass0 (pa_cons (pv 1) (pa_cons (pv 2) (pa_cons (pv 3) pa_nil)))) pa_nil))))) pss_nil) (pss_one (ps_ret (pv 4))))), ?_⟩
    dsimp! [h1, h2, HO.ins.injEq, T.cl_Memory, T.na_Memory_rooms, flM_rooms, fl_gap]
    have hpos : 0 < t.size := by
      unfold Tg.size
      have := t.f2.1
      omega
    refine ⟨p, d, t, rfl, hT, fun H1 s1 => ?_⟩
    have hM1 := hM.same s1
    refine ⟨M.pr, M.d, M.m, M.c, xs, t.size, rfl, hM1.R, hpos, fun r hg => ?_⟩
    cases r with
    | none =>
      dsimp! [optV]
      exact q2 H1 hg s1
    | some g =>
      dsimp! [optV]
      refine ⟨_, _, s1 _ _ h1, flM_no, p, d, t, ser, mk, rfl, hT.same s1, hf, fun r cs H2 s2 hr2 hr2' hc => ?_⟩
      have hM2 := hM1.same s2
      have hl := hc.len
      refine ⟨M, xs, es, g, r, cs, rfl, hM2, hr2', ?_, by rw [hl]; exact hg.1, hc.pos, hc.nn, hes, fun H3 k3 hM3 => ?_⟩
      · exact (ne_of_none hM1.R.li hr2).symm
      · exact q1 g cs H3 hg ((Same.kp (s1.trans s2)).trans k3) hM3 (hc.kp k3 hM2.mu)
def sp_Memory_head_at (a : Adr) : Sp := fun vs H Q _ => ∃ M xs es i v, vs = [.ref M.p, .int (i : Nat)] ∧ MemAt a H M xs es ∧ xs[i]? = some v ∧ Q v H
theorem ok_Memory_head_at (T : Txt K mg a) : FnOk P w K mg base CX0 2 a.a_Memory_head_at a.d_Memory_head_at ["self", "place"] (sp_Memory_head_at a) := by
  refine T.f_Memory_head_at.ok sc_Memory_head_at (fun vs H Q E h => ?_) (fun cdv A outer s H vs Q E hr h => ?_)
  · obtain ⟨_, _, _, _, _, rfl, _⟩ := h
    rfl
  · obtain ⟨M, xs, es, i, v, rfl, hM, hv, q⟩ := h
    obtain ⟨dx, h1⟩ := hM.ob
    obtain ⟨dx2, h2⟩ := hM.R.ob
    refine ⟨_, (pss_one (ps_ret (pe_meth (pe_fld (pv 0) rfl) T.cl_Rooms T.me_Rooms_read (ok_Rooms_read T) (hr.mono (by decide)) T.b_Rooms_read .nil pass0 (pa_cons (pv 1) pa_nil)))), ?_⟩
    dsimp! [h1, h2, HO.ins.injEq, T.cl_Memory, T.na_Memory_rooms, flM_rooms, fl_read]
    exact ⟨M.pr, M.d, M.m, M.c, xs, i, v, rfl, hM.R, hv, q⟩
structure There (a : Adr) (K : PySem.W.Frag) (H : Hp) (M : MA) (xs : List V) (es : List (Nat × List V)) (pl : Nat) (e : En) : Prop where
  mem : MemAt a H M xs es
  has : ∃ cs, (pl, cs) ∈ es ∧ Cells K H cs e
theorem There.head {H : Hp} {M : MA} {xs : List V} {es : List (Nat × List V)} {pl : Nat} {e : En} (h : There a K H M xs es pl e) : xs[pl]? = some (.int (hd e.t.kind e.mkd e.t.words.isSome (e.t.size : Nat))) := by
  obtain ⟨cs, h1, h2⟩ := h.has
  obtain ⟨mid, fx, rfl, _⟩ := h2.ex
  exact (h.mem.lay.at_ _ h1 0 _ rfl).2
theorem There.serial {H : Hp} {M : MA} {xs : List V} {es : List (Nat × List V)} {pl : Nat} {e : En} (h : There a K H M xs es pl e) : xs[pl + 1]? = some (.int e.ser) := by
  obtain ⟨cs, h1, h2⟩ := h.has
  obtain ⟨mid, fx, rfl, _⟩ := h2.ex
  exact (h.mem.lay.at_ _ h1 1 _ rfl).2
theorem There.words {H : Hp} {M : MA} {xs : List V} {es : List (Nat × List V)} {pl : Nat} {e : En} (h : There a K H M xs es pl e) (hp : e.t.first = 3) : ∃ x, xs[pl + 2]? = some x ∧ IsVl K H x (wVl e.t.words) := by
  obtain ⟨cs, h1, h2⟩ := h.has
  obtain ⟨mid, fx, rfl, _, h3, h4⟩ := h2.ex
  cases mid with
  | nil => simp at h3; omega
  | cons x r => exact ⟨x, (h.mem.lay.at_ _ h1 2 x rfl).2, h4 x List.mem_cons_self⟩
theorem There.field {H : Hp} {M : MA} {xs : List V} {es : List (Nat × List V)} {pl : Nat} {e : En} (h : There a K H M xs es pl e) {i : Nat} (hi : i < e.t.fs.length) : ∃ x, xs[pl + e.t.first + i]? = some x ∧ IsVl K H x e.t.fs[i] := by
  obtain ⟨cs, h1, h2⟩ := h.has
  obtain ⟨mid, fx, rfl, hv, h3, h4⟩ := h2.ex
  have hl : i < fx.length := by
    have := hv.1
    omega
  refine ⟨fx[i], ?_, hv.2 i _ _ (List.getElem?_eq_getElem hl) (List.getElem?_eq_getElem hi)⟩
  have := (h.mem.lay.at_ _ h1 (e.t.first + i) fx[i] ?_).2
  · rw [Nat.add_assoc]
    exact this
  · show (V.int _ :: V.int _ :: (mid ++ fx))[e.t.first + i]? = _
    rw [show e.t.first + i = mid.length + i + 1 + 1 by omega, List.getElem?_cons_succ, List.getElem?_cons_succ, List.getElem?_append_right (by omega)]
    rw [show mid.length + i - mid.length = i by omega]
    exact List.getElem?_eq_getElem hl
theorem There.same {H H' : Hp} {M : MA} {xs : List V} {es : List (Nat × List V)} {pl : Nat} {e : En} (h : There a K H M xs es pl e) (k : Same H H') : There a K H' M xs es pl e := by
  obtain ⟨cs, h1, h2⟩ := h.has
  exact ⟨h.mem.same k, cs, h1, h2.same k⟩
theorem There.room {H : Hp} {M : MA} {xs : List V} {es : List (Nat × List V)} {pl : Nat} {e : En} (h : There a K H M xs es pl e) : pl / M.c < M.m := by
  obtain ⟨cs, h1, h2⟩ := h.has
  have h3 := h.mem.lay.le h1
  have h4 := h2.pos
  rw [h.mem.R.len] at h3
  rw [Nat.div_lt_iff_lt_mul h.mem.R.c0]
  dsimp only at h3
  omega
def sp_Memory_serial_at (a : Adr) (K : PySem.W.Frag) : Sp := fun vs H Q _ => ∃ M xs es pl e, vs = [.ref M.p, .int (pl : Nat)] ∧ There a K H M xs es pl e ∧ Q (.int e.ser) H
theorem ok_Memory_serial_at (T : Txt K mg a) : FnOk P w K mg base CX0 2 a.a_Memory_serial_at a.d_Memory_serial_at ["self", "place"] (sp_Memory_serial_at a K) := by
  refine T.f_Memory_serial_at.ok sc_Memory_serial_at (fun vs H Q E h => ?_) (fun cdv A outer s H vs Q E hr h => ?_)
  · obtain ⟨_, _, _, _, _, rfl, _⟩ := h
    rfl
  · obtain ⟨M, xs, es, pl, e, rfl, h, q⟩ := h
    obtain ⟨dx, h1⟩ := h.mem.ob
    obtain ⟨dx2, h2⟩ := h.mem.R.ob
    refine ⟨_, (pss_one (ps_ret (pe_meth (pe_fld (pv 0) rfl) T.cl_Rooms T.me_Rooms_read (ok_Rooms_read T) (hr.mono (by decide)) T.b_Rooms_read .nil pass0 (pa_cons (pe_op op_add (pv 1) (pe_glob (v := .int 1) rfl T.c_SERIAL_AT ⟨_, rfl⟩)) pa_nil)))), ?_⟩
    dsimp! [h1, h2, HO.ins.injEq, T.cl_Memory, T.na_Memory_rooms, flM_rooms, fl_read]
    exact ⟨M.pr, M.d, M.m, M.c, xs, pl + 1, _, by simp, h.mem.R, h.serial, q⟩
def sp_Memory_size_at (a : Adr) (K : PySem.W.Frag) : Sp := fun vs H Q _ => ∃ M xs es pl e, vs = [.ref M.p, .int (pl : Nat)] ∧ There a K H M xs es pl e ∧ Q (.int (e.t.size : Nat)) H
theorem ok_Memory_size_at (T : Txt K mg a) : FnOk P w K mg base CX0 3 a.a_Memory_size_at a.d_Memory_size_at ["self", "place"] (sp_Memory_size_at a K) := by
  refine T.f_Memory_size_at.ok sc_Memory_size_at (fun vs H Q E h => ?_) (fun cdv A outer s H vs Q E hr h => ?_)
  · obtain ⟨_, _, _, _, _, rfl, _⟩ := h
    rfl
  · obtain ⟨M, xs, es, pl, e, rfl, h, q⟩ := h
    obtain ⟨dx, h1⟩ := h.mem.ob
    refine ⟨_, (pss_one (ps_ret (pe_call (ok_size_in T) (hr.mono (by decide)) rfl T.m_size_in T.f_size_in.kp T.b_size_in .nil pass0 (pa_cons (by exact (pe_meth (pv 0) T.cl_Memory T.me_Memory_head_at (ok_Memory_head_at T) (hr.mono (by decide)) T.b_Memory_head_at .nil pass0 (pa_cons (pv 1) pa_nil))) pa_nil)))), ?_⟩
    have f1 := flM_no (pr := M.pr) (lb := M.lb) (n := "head_at")
    dsimp! [h1, HO.ins.injEq, f1]
    refine ⟨M, xs, es, pl, _, rfl, h.mem, h.head, _, rfl, ?_⟩
    rw [hd_size e.t.k0.1 e.t.k0.2]
    exact q
def sp_Memory_sort_at (a : Adr) (K : PySem.W.Frag) : Sp := fun vs H Q _ => ∃ M xs es pl e, vs = [.ref M.p, .int (pl : Nat)] ∧ There a K H M xs es pl e ∧ Q (.str e.t.sort) H
theorem ok_Memory_sort_at (T : Txt K mg a) : FnOk P w K mg base CX0 3 a.a_Memory_sort_at a.d_Memory_sort_at ["self", "place"] (sp_Memory_sort_at a K) := by
  refine T.f_Memory_sort_at.ok sc_Memory_sort_at (fun vs H Q E h => ?_) (fun cdv A outer s H vs Q E hr h => ?_)
  · obtain ⟨_, _, _, _, _, rfl, _⟩ := h
    rfl
  · obtain ⟨M, xs, es, pl, e, rfl, h, q⟩ := h
    obtain ⟨dx, h1⟩ := h.mem.ob
    refine ⟨_, (pss_one (ps_ret (pe_ix ix_tup (pe_glob (v := .ref a.t_SORTS) rfl T.c_SORTS rfl) (pe_call (ok_kind_in T) (hr.mono (by decide)) rfl T.m_kind_in T.f_kind_in.kp T.b_kind_in .nil pass0 (pa_cons (by exact (pe_meth (pv 0) T.cl_Memory T.me_Memory_head_at (ok_Memory_head_at T) (hr.mono (by decide)) T.b_Memory_head_at .nil pass0 (pa_cons (pv 1) pa_nil))) pa_nil)) (fun _ _ => rfl)))), ?_⟩
    have f1 := flM_no (pr := M.pr) (lb := M.lb) (n := "head_at")
    dsimp! [h1, HO.ins.injEq, f1]
    refine ⟨M, xs, es, pl, _, rfl, h.mem, h.head, _, rfl, ?_⟩
    rw [hd_kind e.t.k0.1 e.t.k0.2]
    refine ⟨_, _, _, .str e.t.sort, rfl, rfl, T.q_SORTS H, ?_, q⟩
    cases e.t <;> rfl
def sp_Memory_words_at (a : Adr) (K : PySem.W.Frag) : Sp := fun vs H Q _ => ∃ M xs es pl e, vs = [.ref M.p, .int (pl : Nat)] ∧ There a K H M xs es pl e ∧ e.t.first = 3 ∧ Q (wV e.t.words) H
theorem ok_Memory_words_at (T : Txt K mg a) : FnOk P w K mg base CX0 3 a.a_Memory_words_at a.d_Memory_words_at ["self", "place"] (sp_Memory_words_at a K) := by
  refine T.f_Memory_words_at.ok sc_Memory_words_at (fun vs H Q E h => ?_) (fun cdv A outer s H vs Q E hr h => ?_)
  · obtain ⟨_, _, _, _, _, rfl, _⟩ := h
    rfl
  · obtain ⟨M, xs, es, pl, e, rfl, h, h3, q⟩ := h
    obtain ⟨dx, h1⟩ := h.mem.ob
    obtain ⟨dx2, h2⟩ := h.mem.R.ob
    refine ⟨_, (pss_one (ps_ret (pe_ifExp (pt_val (pe_call (ok_has_words T) (hr.mono (by decide)) rfl T.m_has_words T.f_has_words.kp T.b_has_words .nil pass0 (pa_cons (by exact (pe_meth (pv 0) T.cl_Memory T.me_Memory_head_at (ok_Memory_head_at T) (hr.mono (by decide)) T.b_Memory_head_at .nil pass0 (pa_cons (pv 1) pa_nil))) pa_nil))) (pe_ix ix_tup (pe_meth (pe_fld (pv 0) rfl) T.cl_Rooms T.me_Rooms_read (ok_Rooms_read T) (hr.mono (by decide)) T.b_Rooms_read .nil pass0 (pa_cons (pe_op op_add (pv 1) (pe_glob (v := .int 2) rfl T.c_WORDS_AT ⟨_, rfl⟩)) pa_nil)) pe_int (fun _ _ => rfl)) pe_non))), ?_⟩
    have f1 := flM_no (pr := M.pr) (lb := M.lb) (n := "head_at")
    dsimp! [h1, h2, HO.ins.injEq, f1, T.cl_Memory, T.na_Memory_rooms, flM_rooms, fl_read]
    refine ⟨M, xs, es, pl, _, rfl, h.mem, h.head, _, rfl, ?_⟩
    rw [hd_words e.t.k0.1 e.t.k0.2]
    obtain ⟨x, hx, t, rfl, ht⟩ := h.words h3
    cases ew : e.t.words with
    | none =>
      rw [ew] at q
      refine ⟨_, rfl, iteF q⟩
    | some n =>
      rw [ew] at q ht
      refine ⟨_, rfl, iteT ⟨_, _, _, h1, T.cl_Memory, T.na_Memory_rooms, _, flM_rooms _ _, _, rfl, _, _, h2, fl_read _ _ _, M.pr, M.d, M.m, M.c, xs, pl + 2, _, by simp, h.mem.R, hx, t, _, _, _, rfl, rfl, ht, rfl, q⟩⟩
def sp_Memory_marked_at (a : Adr) (K : PySem.W.Frag) : Sp := fun vs H Q _ => ∃ M xs es pl e, vs = [.ref M.p, .int (pl : Nat)] ∧ There a K H M xs es pl e ∧ Q (.bl e.mkd) H
theorem ok_Memory_marked_at (T : Txt K mg a) : FnOk P w K mg base CX0 3 a.a_Memory_marked_at a.d_Memory_marked_at ["self", "place"] (sp_Memory_marked_at a K) := by
  refine T.f_Memory_marked_at.ok sc_Memory_marked_at (fun vs H Q E h => ?_) (fun cdv A outer s H vs Q E hr h => ?_)
  · obtain ⟨_, _, _, _, _, rfl, _⟩ := h
    rfl
  · obtain ⟨M, xs, es, pl, e, rfl, h, q⟩ := h
    obtain ⟨dx, h1⟩ := h.mem.ob
    obtain ⟨dx2, h2⟩ := h.mem.R.ob
    refine ⟨_, (pss_one (ps_ret (pe_and (pe_cmp (pc_din (hu_of hr) (pv 1) (pe_ix ix_list (pe_fld (pv 0) rfl) (pe_meth (pe_fld (pv 0) rfl) T.cl_Rooms T.me_Rooms_room_of (ok_Rooms_room_of T) (hr.mono (by decide)) T.b_Rooms_room_of .nil pass0 (pa_cons (pv 1) pa_nil)) (fun _ _ => rfl)))) (pe_one (pe_call (ok_is_marked T) (hr.mono (by decide)) rfl T.m_is_marked T.f_is_marked.kp T.b_is_marked .nil pass0 (pa_cons (by exact (pe_meth (pv 0) T.cl_Memory T.me_Memory_head_at (ok_Memory_head_at T) (hr.mono (by decide)) T.b_Memory_head_at .nil pass0 (pa_cons (pv 1) pa_nil))) pa_nil)))))), ?_⟩
    have f1 := flM_no (pr := M.pr) (lb := M.lb) (n := "head_at")
    dsimp! [h1, h2, HO.ins.injEq, f1, T.cl_Memory, T.na_Memory_rooms, T.na_Memory_begins, flM_rooms, flM_begins, fl_room_of]
    obtain ⟨cs, hcs, hc⟩ := h.has
    have hroom := h.room
    have hbs : pl / M.c < M.bs.length := by rw [h.mem.bl]; exact hroom
    have hgb : M.bs[pl / M.c]? = some M.bs[pl / M.c] := List.getElem?_eq_getElem hbs
    have hin : (valV (begK es M.c (pl / M.c)) (Sum.inl (pl : Int))).isSome = true := begK_has.mpr ⟨(pl, cs), hcs, rfl, rfl⟩
    refine ⟨M.pr, M.d, M.m, M.c, xs, pl, rfl, h.mem.R, M.lb, _, _, .ref M.bs[pl / M.c], rfl, rfl, SqL.of h.mem.li, atI_nat (by rw [List.getElem?_map, hgb]; rfl), _, rfl, _, DGet.k (k := Sum.inl (pl : Int)) (h.mem.bd _ _ hgb), ?_⟩
    rw [hin]
    refine iteT ⟨_, _, h1, f1, M, xs, es, pl, _, rfl, h.mem, h.head, _, rfl, ?_⟩
    rw [hd_mark e.t.k0.1 e.t.k0.2]
    exact q
def sp_Memory_thing_at (a : Adr) (K : PySem.W.Frag) : Sp := fun vs H Q _ => ∃ M xs es pl e, vs = [.ref M.p, .int (pl : Nat)] ∧ There a K H M xs es pl e ∧ ∀ p d H', Same H H' → H p = none → H d = none → ThAt a K H' p d e.t → Q (.ref p) H'
theorem ok_Memory_thing_at (T : Txt K mg a) : FnOk P w K mg base CX0 10 a.a_Memory_thing_at a.d_Memory_thing_at ["self", "place"] (sp_Memory_thing_at a K) := by
  refine T.f_Memory_thing_at.ok sc_Memory_thing_at (fun vs H Q E h => ?_) (fun cdv A outer s H vs Q E hr h => ?_)
  · obtain ⟨_, _, _, _, _, rfl, _⟩ := h
    rfl
  · obtain ⟨M, xs, es, pl, e, rfl, h, q⟩ := h
    obtain ⟨dx, h1⟩ := h.mem.ob
    refine ⟨_, (pss_cons (ps_set (i := 2) sc_Memory_thing_at.nd rfl (Or.inl rfl) (pe_meth (pv 0) T.cl_Memory T.me_Memory_sort_at (ok_Memory_sort_at T) (hr.mono (by decide)) T.b_Memory_sort_at .nil pass0 (pa_cons (pv 1) pa_nil))) (pss_cons (ps_lc (j := 3) rfl sc_Memory_thing_at.nd rfl rfl (lcok (x := "at") (ns := ["self"]) (fr := [0]) rfl (by decide +kernel) rfl (by decide +kernel) rfl (List.forall_mem_cons.mpr ⟨rfl, List.forall_mem_nil _⟩) rfl rfl (List.forall_mem_cons.mpr ⟨⟨rfl, rfl, .inl rfl⟩, List.forall_mem_nil _⟩) (by decide +kernel)) (pi_range2 rfl T.n_range (pa_cons (pe_op op_add (pv 1) (pe_call (ok_first_field T) (hr.mono (by decide)) rfl T.m_first_field T.f_first_field.kp T.b_first_field .nil pass0 (pa_cons (pv 2) pa_nil))) (pa_cons (pe_op op_add (pv 1) (pe_meth (pv 0) T.cl_Memory T.me_Memory_size_at (ok_Memory_size_at T) (hr.mono (by decide)) T.b_Memory_size_at .nil pass0 (pa_cons (pv 1) pa_nil))) pa_nil))) (fun _ _ _ _ => (pe_meth (pe_fldC (K := K) rfl (pv 1) rfl) T.cl_Rooms T.me_Rooms_read (ok_Rooms_read T) (hr.mono (by decide)) T.b_Rooms_read .nil pass0 (pa_cons (pv 0) pa_nil))) (fun _ _ _ _ => .nil)) (pss_cons (ps_if (pt_cmpR op_eq (pv 2) pe_str (nomark _)) (pss_one (ps_ret (pe_call (ok_plain T) (hr.mono (by decide)) rfl T.m_plain T.f_plain.kp T.b_plain .nil pass0 (pa_cons (pv 3) (pa_cons (by exact (pe_meth (pv 0) T.cl_Memory T.me_Memory_words_at (ok_Memory_words_at T) (hr.mono (by decide)) T.b_Memory_words_at .nil pass0 (pa_cons (pv 1) pa_nil))) pa_nil))))) pss_nil) (pss_one (ps_ret (pe_ifExp (pt_cmpR op_eq (pv 2) pe_str (nomark _)) (pe_call (ok_weak T) (hr.mono (by decide)) rfl T.m_weak T.f_weak.kp T.b_weak .nil pass0 (pa_cons (pe_ix ix_list (pv 3) pe_int (fun _ _ => rfl)) pa_nil)) (pe_call (ok_pair T) (hr.mono (by decide)) rfl T.m_pair T.f_pair.kp T.b_pair .nil pass0 (pa_cons (pe_ix ix_list (pv 3) pe_int (fun _ _ => rfl)) (pa_cons (pe_ix ix_list (pv 3) pe_int (fun _ _ => rfl)) pa_nil))))))))), ?_⟩
    have f1 := flM_no (pr := M.pr) (lb := M.lb) (n := "sort_at")
    have f2 := flM_no (pr := M.pr) (lb := M.lb) (n := "size_at")
    dsimp! [h1, HO.ins.injEq, f1, f2]
    have hsz : e.t.size ≤ 1000 := by
      obtain ⟨cs, hcs, hc⟩ := h.has
      have h3 := h.mem.lay.le hcs
      have h4 := h.mem.R.sm
      rw [h.mem.R.len, hc.len] at h3
      dsimp only at h3
      omega
    have hpl : pl ≤ 1000 := by
      obtain ⟨cs, hcs, hc⟩ := h.has
      have h3 := h.mem.lay.le hcs
      have h4 := h.mem.R.sm
      rw [h.mem.R.len] at h3
      dsimp only at h3
      omega
    have hf2 := e.t.f2
    have esz : e.t.size = e.t.first + e.t.fs.length := rfl
    refine ⟨M, xs, es, pl, e, rfl, h, e.t, rfl, _, rfl, _, _, h1, f2, M, xs, es, pl, e, rfl, h, _, rfl, by omega, by omega, by omega, by omega, fun D hD => ?_⟩
    rw [show ((pl : Int) + (e.t.size : Int) - ((pl : Int) + (e.t.first : Int))).toNat = e.t.fs.length by omega]
    refine lcr (fun i ys H4 => Same H H4 ∧ H4 D = some (.lst ys) ∧ ys.length = i ∧ ∀ (j : Nat) x v, ys[j]? = some x → e.t.fs[j]? = some v → IsVl K H4 x v) ⟨Same.put hD, upd_same, rfl, fun j x v h => by simp at h⟩ ?_ ?_
    · rintro i m' ys H4 hmm hi ⟨k4, hD4, hy4, ok4⟩
      have h4 := h.same k4
      have h14 := k4 _ _ h1
      obtain ⟨dx5, h5⟩ := h4.mem.R.ob
      obtain ⟨x, hx, hv⟩ := h4.field hi
      dsimp! [lcSlots, Option.join_some, h14, h5, HO.ins.injEq, T.cl_Memory, T.na_Memory_rooms, flM_rooms, fl_read]
      refine ⟨M.pr, M.d, M.m, M.c, xs, pl + e.t.first + i, x, ?_, h4.mem.R, hx, lcS.mk hmm hD4 (by omega) ⟨?_, upd_same, by simp [hy4], fun j y v hj hv2 => ?_⟩⟩
      · simp
      · intro b o e2
        rw [upd_ne (ne_of_none e2 hD)]
        exact k4 b o e2
      · have kD : Kp (· = D) H4 (upd H4 D (.lst (ys ++ [x]))) := (Kp.refl _ _).set rfl
        have mu : ∀ b, b = D → Mu H4 b := fun b e => .inl ⟨ys, by rw [e]; exact hD4⟩
        by_cases hjl : j < ys.length
        · rw [List.getElem?_append_left hjl] at hj
          exact (ok4 j y v hj hv2).kp kD mu
        · have ej : j = ys.length := by
            have := (List.getElem?_eq_some_iff.mp hj).1
            simp at this
            omega
          subst ej
          rw [List.getElem?_append_right (Nat.le_refl _), Nat.sub_self] at hj
          cases hj
          have ev : e.t.fs[i] = v := by
            rw [hy4, List.getElem?_eq_getElem hi] at hv2
            exact Option.some.inj hv2
          rw [← ev]
          exact hv.kp kD mu
    · rintro ys H4 ⟨k4, hD4, hy4, ok4⟩
      have vl : VlL K H4 ys e.t.fs := ⟨hy4.symm, ok4⟩
      have h4 := h.same k4
      have h14 := k4 _ _ h1
      have hys : ys.length ≤ 1000 := by omega
      cases et : e.t with
      | plain fs w =>
        rw [et] at vl
        dsimp! [Tg.sort, h14, HO.ins.injEq]
        refine ⟨flM_no, M, xs, es, pl, e, rfl, h4, by rw [et]; rfl, D, ys, fs, e.t.words, rfl, SqL.of hD4, vl, hys, fun p d H' s5 hp hd hT => q p d H' (k4.trans s5) (k4.free hp) (k4.free hd) ?_⟩
        rw [et] at hT ⊢
        exact hT
      | weak f =>
        rw [et] at vl
        dsimp! [Tg.sort, n_wp]
        have hl1 : 0 < ys.length := by rw [← vl.1]; show 0 < 1; decide
        have g0 : ys[0]? = some ys[0] := List.getElem?_eq_getElem hl1
        refine ⟨D, ys, _, ys[0], rfl, rfl, SqL.of hD4, atI_nat (j := 0) g0, _, f, rfl, vl.2 0 _ _ g0 rfl, fun p d H' s5 hp hd hT => q p d H' (k4.trans s5) (k4.free hp) (k4.free hd) ?_⟩
        rw [et]
        exact hT
      | pair k v =>
        rw [et] at vl
        dsimp! [Tg.sort, n_pp, n_pw]
        have hl2 : 1 < ys.length := by rw [← vl.1]; show 1 < 2; decide
        have g0 : ys[0]? = some ys[0] := List.getElem?_eq_getElem (by omega)
        have g1 : ys[1]? = some ys[1] := List.getElem?_eq_getElem hl2
        refine ⟨D, ys, _, ys[0], rfl, rfl, SqL.of hD4, atI_nat (j := 0) g0, D, ys, _, ys[1], rfl, rfl, SqL.of hD4, atI_nat (j := 1) g1, _, _, k, v, rfl, vl.2 0 _ _ g0 rfl, vl.2 1 _ _ g1 rfl, fun p d H' s5 hp hd hT => q p d H' (k4.trans s5) (k4.free hp) (k4.free hd) ?_⟩
        rw [et]
        exact hT
def sp_law_whole : Sp := fun vs H Q _ => ∃ n, vs = [.int n] ∧ Q (.bl true) H
theorem ok_law_whole (T : Txt K mg a) : FnOk P w K mg base CX0 1 a.a_law_whole a.d_law_whole ["_law_found"] sp_law_whole := by
  refine T.f_law_whole.ok sc_law_whole (fun vs H Q E h => ?_) (fun cdv A outer s H vs Q E hr h => ?_)
  · obtain ⟨_, rfl, _⟩ := h
    rfl
  · obtain ⟨n, rfl, q⟩ := h
    refine ⟨_, (pss_one (ps_ret (pe_and (pe_callB call_isinst rfl T.n_isinstance bt_isinstance (pa_cons (pv 0) (pa_cons (pe_bltn (v := .ty "int") rfl T.n_int bt_int rfl) pa_nil))) (pe_one (pe_not (pe_callB call_isinst rfl T.n_isinstance bt_isinstance (pa_cons (pv 0) (pa_cons (pe_bltn (v := .ty "bool") rfl T.n_bool bt_bool rfl) pa_nil)))))))), ?_⟩
    refine ⟨_, rfl, _, _, _, _, rfl, .int n, kit_same K _, true, rfl, ?_⟩
    exact iteT ⟨_, rfl, _, _, _, _, rfl, .int n, kit_int_bool K, _, rfl, q⟩
def sp_law_cell_at (K : PySem.W.Frag) : Sp := fun vs H Q _ => ∃ (p : Addr) (ns : List Int) (k : Int), vs = [.ref p, .int k] ∧ SqL K H p (ns.map V.int) ∧ 0 ≤ k ∧ ∀ z, Q (.int z) H
theorem ok_law_cell_at (T : Txt K mg a) : FnOk P w K mg base CX0 1 a.a_law_cell_at a.d_law_cell_at ["_law_script", "_law_k"] (sp_law_cell_at K) := by
  refine T.f_law_cell_at.ok sc_law_cell_at (fun vs H Q E h => ?_) (fun cdv A outer s H vs Q E hr h => ?_)
  · obtain ⟨_, _, _, rfl, _⟩ := h
    rfl
  · obtain ⟨p, ns, k, rfl, hS, hk, q⟩ := h
    refine ⟨_, (pss_cons (ps_if (pt_cmpR op_lt (pv 1) (pe_callB call_len_seq rfl T.n_len bt_len (pa_cons (pv 0) pa_nil)) (nomark _)) (pss_one (ps_ret (pe_ix ix_list (pv 0) (pv 1) (fun _ _ => rfl)))) pss_nil) (pss_one (ps_ret pe_int))), ?_⟩
    dsimp! []
    refine ⟨_, .inl hS, ite2 (fun h => ?_) fun _ => q 0⟩
    have hlt : k.toNat < ns.length := by
      have := of_decide_eq_true h
      rw [List.length_map] at this
      omega
    have e : k = ((k.toNat : Nat) : Int) := by omega
    have hx : (ns.map V.int)[k.toNat]? = some (V.int ns[k.toNat]) := by simp [hlt]
    exact ⟨p, _, k, _, rfl, rfl, hS, (congrArg (atI _) e).trans (atI_nat hx), q _⟩
def Sizes (zs : List Int) : Prop := ∀ z ∈ zs, DivOk z
def Below (rs zs : List Int) : Prop := rs.length = zs.length ∧ ∀ (i : Nat) r z, rs[i]? = some r → zs[i]? = some z → 0 ≤ r ∧ r < z
theorem Below.snoc {rs zs : List Int} {r z : Int} (h : Below rs zs) (h0 : 0 ≤ r) (h1 : r < z) : Below (rs ++ [r]) (zs ++ [z]) := ⟨by simp [h.1], fun i x y a b => by
  by_cases hi : i < rs.length
  · rw [List.getElem?_append_left hi] at a
    rw [List.getElem?_append_left (by rw [← h.1]; exact hi)] at b
    exact h.2 i x y a b
  · have e : i = rs.length := by
      have := (List.getElem?_eq_some_iff.mp a).1
      simp at this
      omega
    subst e
    rw [List.getElem?_append_right (Nat.le_refl _), Nat.sub_self] at a
    rw [h.1, List.getElem?_append_right (Nat.le_refl _), Nat.sub_self] at b
    cases a
    cases b
    exact ⟨h0, h1⟩⟩
def sp_law_drawn : Sp := fun vs H Q _ => ∃ c p zs f, vs = [.int c, .ref p, .bl f] ∧ H p = some (.lst (zs.map V.int)) ∧ Sizes zs ∧ zs.length ≤ 100 ∧
  ∀ rs q, Below rs zs → H q = none → Q (.ref q) (upd H q (.lst (rs.map V.int)))
theorem ok_law_drawn (T : Txt K mg a) : FnOk P w K mg base CX0 1 a.a_law_drawn a.d_law_drawn ["_law_cell", "_law_sizes", "_law_free"] sp_law_drawn := by
  refine T.f_law_drawn.ok sc_law_drawn (fun vs H Q E h => ?_) (fun cdv A outer s H vs Q E hr h => ?_)
  · obtain ⟨_, _, _, _, rfl, _⟩ := h
    rfl
  · obtain ⟨c, p, zs, f, rfl, hp, hz, hl, k⟩ := h
    refine ⟨_, (pss_cons (ps_set (i := 3) sc_law_drawn.nd rfl (Or.inl rfl) (pe_lst pa_nil)) (pss_cons (ps_set (i := 4) sc_law_drawn.nd rfl (Or.inl rfl) (pe_callB call_abs rfl T.n_abs bt_abs (pa_cons (pv 0) pa_nil))) (pss_cons ps_stT pss_bodyT))), ?_⟩
    dsimp! []
    refine fun q hq => ?_
    have npq : p ≠ q := ne_of_none hp hq
    refine joinW (fun σ' H' => H' = upd H q (.lst []) ∧ ∃ n : Int, 0 ≤ n ∧ (f = false → n < 2305843009213693951) ∧ σ' = [some (.int c), some (.ref p), some (.bl f), some (.ref q), some (.int n), none]) (stT.of (ps_if (pt_not (pt_val (pv 2))) (pss_one (ps_set (i := 4) sc_law_drawn.nd rfl (Or.inl rfl) (pe_op op_mod (pe_op op_add (pe_op op_mul (pv 0) pe_int) pe_int) pe_int))) pss_nil) ?_) ?_
    · cases f
      · dsimp! []
        refine ⟨.inr ⟨by decide, by decide⟩, by decide, ?_⟩
        exact ⟨_, Int.emod_nonneg _ (by decide), fun _ => Int.emod_lt_of_pos _ (by decide), rfl⟩
      · dsimp! []
        refine ⟨_, ?_, fun h => h.elim, rfl⟩
        split <;> omega
    · rintro σ' H' ⟨rfl, n0, h0, h1, rfl⟩
      refine bodyT.of (pss_cons (ps_forW PassesOwn.never rfl (pi_list (pv 1)) (pg_name (i := 5) sc_law_drawn.nd rfl (Or.inl rfl)) pss_bodyT) pss_bodyT) ?_
      dsimp! []
      refine ⟨⟨_, SqL.of (by rw [upd_ne npq]; exact hp)⟩, fw_list (zs.map V.int) (fun i σ H2 => ∃ (n : Int) (l : List Int) (o6 : Option V), 0 ≤ n ∧ (f = false → n < 2305843009213693951) ∧
        σ = [some (.int c), some (.ref p), some (.bl f), some (.ref q), some (.int n), o6] ∧ H2 = upd H q (.lst (l.map V.int)) ∧ Below l (zs.take i))
        ⟨n0, [], none, h0, h1, rfl, rfl, by rw [List.take_zero]; exact ⟨rfl, fun i r z h => by simp at h⟩⟩ ?_ ?_ ?_⟩
      · rintro i σ H2 _ ⟨n, l, o6, _, _, rfl, rfl, _⟩
        exact SqL.of (by rw [upd_ne npq]; exact hp)
      · rintro i x σ H2 hi ⟨n, l, o6, hn0, hn1, rfl, rfl, hb⟩
        rw [List.getElem?_map] at hi
        cases ez : zs[i]? with
        | none =>
          rw [ez] at hi
          cases hi
        | some z =>
          rw [ez] at hi
          cases hi
          have hzz := hz z (List.mem_of_getElem? ez)
          have et : zs.take (i + 1) = zs.take i ++ [z] := by rw [List.take_add_one, ez]; rfl
          have hll : l.length ≤ 100 := by
            have := hb.1
            have := List.length_take_le i zs
            rw [List.length_take] at *
            omega
          refine bodyT.of (pss_one (ps_if (pt_val (pv 2)) (pss_cons (ps_expr (pe_bm PySem.F.plainAttrs_list PySem.F.slot_list_append PySem.F.type_list_append mt_append (pv 3) (pa_cons (pe_op op_mod (pv 4) (pv 5)) pa_nil))) (pss_one (ps_set (i := 4) sc_law_drawn.nd rfl (Or.inl rfl) (pe_op op_fdivL (pv 4) (pv 5))))) (pss_cons (ps_set (i := 4) sc_law_drawn.nd rfl (Or.inl rfl) (pe_op op_mod (pe_op op_add (pe_op op_mul (pv 4) pe_int) pe_int) pe_int)) (pss_one (ps_expr (pe_bm PySem.F.plainAttrs_list PySem.F.slot_list_append PySem.F.type_list_append mt_append (pv 3) (pa_cons (pe_op op_mod (pe_op op_fdivL (pv 4) pe_int) (pv 5)) pa_nil))))))) ?_
          have hz1 := hzz.1
          cases f
          · dsimp! []
            refine ⟨.inr ⟨by decide, by decide⟩, by decide, .inl ⟨rfl, _, SqL.of upd_same⟩, .small (by decide) (by decide), hz1, q, l.map V.int, _, rfl, rfl, upd_same, small1000 (by rw [List.length_map]; omega), _, Int.emod_nonneg _ (by decide), fun _ => Int.emod_lt_of_pos _ (by decide), rfl, l ++ [(n * 982451653 + 12345) % 2305843009213693951 / 1009 % z], ?_, ?_⟩
            · rw [upd_upd, List.map_append]
              rfl
            · rw [et]
              exact hb.snoc (Int.emod_nonneg _ (by omega)) (Int.emod_lt_of_pos _ hz1)
          · dsimp! []
            refine ⟨.inl ⟨rfl, _, SqL.of upd_same⟩, hz1, q, l.map V.int, _, rfl, rfl, upd_same, small1000 (by rw [List.length_map]; omega), hzz, _, Int.ediv_nonneg hn0 (by omega), fun h => h.elim, rfl, l ++ [n % z], ?_, ?_⟩
            · rw [upd_upd, List.map_append]
              rfl
            · rw [et]
              exact hb.snoc (Int.emod_nonneg _ (by omega)) (Int.emod_lt_of_pos _ hz1)
      · rintro σ H2 ⟨n, l, o6, _, _, rfl, rfl, hb⟩
        rw [List.length_map, List.take_length] at hb
        refine bodyT.of (pss_one (ps_ret (pv 3))) ?_
        dsimp! []
        exact k l q hb hq
def ShAt (K : PySem.W.Frag) (H : Hp) (sh fl : Addr) (t : Tg) : Prop := H sh = some (.tup [.str t.sort, .ref fl, wV t.words]) ∧ ∃ fx, H fl = some (.lst fx) ∧ VlL K H fx t.fs ∧ fx.length ≤ 8
theorem ShAt.same {K : PySem.W.Frag} {H H' : Hp} {sh fl : Addr} {t : Tg} (h : ShAt K H sh fl t) (k : Same H H') : ShAt K H' sh fl t := by
  obtain ⟨h1, fx, h2, h3, h4⟩ := h
  exact ⟨k _ _ h1, fx, k _ _ h2, h3.same k, h4⟩
theorem ShAt.kp {K : PySem.W.Frag} {S : Addr → Prop} {H H' : Hp} {sh fl : Addr} {t : Tg} (h : ShAt K H sh fl t) (k : Kp S H H') (mu : ∀ b, S b → Mu H b) (n : ¬ S fl) : ShAt K H' sh fl t := by
  obtain ⟨h1, fx, h2, h3, h4⟩ := h
  exact ⟨k _ _ (fun z => (mu _ z).ntup (.inl h1)) h1, fx, k _ _ n h2, h3.kp k mu, h4⟩
theorem ShAt.few {K : PySem.W.Frag} {H : Hp} {sh fl : Addr} {t : Tg} (h : ShAt K H sh fl t) : t.fs.length ≤ 8 := by
  obtain ⟨_, fx, _, h3, h4⟩ := h
  rw [h3.1]
  exact h4
def sp_law_value (K : PySem.W.Frag) : Sp := fun vs H Q _ => ∃ pa th way num at_ ns, vs = [.ref pa, .ref th] ∧ SqL K H pa [.int way, .int num, .int at_] ∧ SqL K H th (List.map V.int ns) ∧ 0 ≤ way ∧ way < 6 ∧ ns.length ≤ 1000 ∧
  ∀ v x H', Same H H' → IsVl K H' x v → Q x H'
theorem ok_law_value (T : Txt K mg a) : FnOk P w K mg base CX0 1 a.a_law_value a.d_law_value ["_law_parts", "_law_there"] (sp_law_value K) := by
  refine T.f_law_value.ok sc_law_value (fun vs H Q E h => ?_) (fun cdv A outer s H vs Q E hr h => ?_)
  · obtain ⟨_, _, _, _, _, _, rfl, _⟩ := h
    rfl
  · obtain ⟨pa, th, way, num, at_, ns, rfl, hpa, hth, w0, w1, hz, q⟩ := h
    refine ⟨_, (pss_cons (ps_asg (pv 0) (pg_lst (n := 3) rfl (pgs_cons (pg_name (i := 2) sc_law_value.nd rfl (Or.inl rfl)) (pgs_cons (pg_name (i := 3) sc_law_value.nd rfl (Or.inl rfl)) (pgs_cons (pg_name (i := 4) sc_law_value.nd rfl (Or.inl rfl)) pgs_nil))))) (pss_cons (ps_if (PW.pt (pw_and (pt_cmpR op_eq (pe_op op_mod (pv 2) pe_int) pe_int (nomark _)) (pw_and1 (pt_cmpR (op_neD hr.units) (pv 1) (pe_lst pa_nil) (nomark _))))) (pss_one (ps_ret (pe_tup (pa_cons pe_str (pa_cons (pe_ix ix_list (pv 1) (pe_op op_mod (pv 4) (pe_callB call_len_seq rfl T.n_len bt_len (pa_cons (pv 1) pa_nil))) (fun _ _ => rfl)) pa_nil))))) pss_nil) (pss_cons (ps_if (pt_cmpR op_eq (pe_op op_mod (pv 2) pe_int) pe_int (nomark _)) (pss_one (ps_ret (pe_tup (pa_cons pe_str (pa_cons (pe_ix ix_list (pe_lst (pa_cons (pe_op op_mod (pv 3) pe_int) (pa_cons (pv 3) pa_nil))) (pe_op op_fdivL (pv 2) pe_int) (fun _ _ => rfl)) pa_nil))))) pss_nil) (pss_one (ps_ret (pe_tup (pa_cons pe_str pa_nil))))))), ?_⟩
    dsimp! []
    refine ⟨_, hpa, rfl, _, _, rfl, _, _, rfl, _, _, rfl, rfl, ?_⟩
    dsimp! []
    have tail : ∀ H', Same H H' → if decide (way % 3 = 1) = true then 0 < (7 : Int) ∧ 2 ≤ sizeLine ∧ ∀ p, H' p = none → DivOk 3 ∧ rIxL K (.ref p) (.int (way / 3)) (upd H' p (.lst [.int (num % 7), .int num])) fun x H1 => 2 ≤ sizeLine ∧ ∀ p, H1 p = none → Q (.ref p) (upd H1 p (.tup [.str "number", x]))
        else 1 ≤ sizeLine ∧ ∀ p, H' p = none → Q (.ref p) (upd H' p (.tup [.str "nothing"])) := by
      intro H' s'
      refine ite2 (fun _ => ⟨by decide, by decide, fun p hp => ⟨.small (by decide) (by decide), ?_⟩⟩) fun _ => ⟨by decide, fun p hp => q .no _ _ (s'.trans (Same.put hp)) ⟨p, rfl, SqT.of upd_same⟩⟩
      have hv : ∃ n, atI [V.int (num % 7), V.int num] (way / 3) = some (V.int n) := by
        rcases (by omega : way / 3 = 0 ∨ way / 3 = 1) with e | e <;> rw [e]
        · exact ⟨_, rfl⟩
        · exact ⟨_, rfl⟩
      obtain ⟨n, hn⟩ := hv
      exact ⟨p, _, _, _, rfl, rfl, SqL.of upd_same, hn, by decide, fun p2 hp2 => q (.num n) _ _ ((s'.trans (Same.put hp)).trans (Same.put hp2)) ⟨p2, rfl, SqT.of upd_same⟩⟩
    refine ⟨by decide, ite2 (fun _ => fun p hp => ?_) fun _ => ⟨by decide, tail H (.refl H)⟩⟩
    have hth2 := (Same.put (o := .lst []) hp).seq hth
    have ff : ∀ x ∈ ns.map V.int, flatV x = true := fun x hx => by
      obtain ⟨z, _, rfl⟩ := List.mem_map.mp hx
      rfl
    refine ⟨_, _, .flatL hth2 ff, .flatL (SqL.of upd_same) (fun x hx => (nomatch hx)), by rw [D.dep, deps_flat]; decide, ?_⟩
    rw [if_pos rfl]
    cases ns with
    | nil =>
      refine ⟨false, by simp [deq, deqs], iteF ⟨by decide, tail _ (Same.put hp)⟩⟩
    | cons n0 nr =>
      have hl : 0 < (List.map V.int (n0 :: nr)).length := by simp
      generalize hns : n0 :: nr = ms at hth2 hl
      refine ⟨true, by subst hns; simp [deq, deqs], iteT ⟨_, .inl hth2, by omega, ?_⟩⟩
      have e0 := Int.emod_nonneg at_ (show ((List.map V.int ms).length : Int) ≠ 0 by omega)
      have e1 := Int.emod_lt_of_pos at_ (show (0 : Int) < ((List.map V.int ms).length : Int) by omega)
      obtain ⟨j, ej, hj⟩ : ∃ j : Nat, at_ % ((List.map V.int ms).length : Int) = (j : Int) ∧ j < (List.map V.int ms).length := ⟨(at_ % ((List.map V.int ms).length : Int)).toNat, by omega, by omega⟩
      rw [ej]
      have hj2 : j < ms.length := by rw [List.length_map] at hj; exact hj
      exact ⟨th, _, _, .int ms[j], rfl, rfl, hth2, atI_nat (by rw [List.getElem?_map, List.getElem?_eq_getElem hj2]; rfl), by decide, fun p2 hp2 => q (.th ms[j]) _ _ ((Same.put hp).trans (Same.put hp2)) ⟨p2, rfl, SqT.of upd_same⟩⟩
theorem e60 : (10 : Int) ^ Int.toNat 60 = 1000000000000000000000000000000000000000000000000000000000000 := by decide +kernel
def zs30 : List Int := [4, 9, 4, 1000000000000000000000000000000000000000000000000000000000000, 6, 1000000000000000000000000000000000000000000000000000000000000, 500, 6, 1000000000000000000000000000000000000000000000000000000000000, 500, 6, 1000000000000000000000000000000000000000000000000000000000000, 500, 6, 1000000000000000000000000000000000000000000000000000000000000, 500, 6, 1000000000000000000000000000000000000000000000000000000000000, 500, 6, 1000000000000000000000000000000000000000000000000000000000000, 500, 6, 1000000000000000000000000000000000000000000000000000000000000, 500, 6, 1000000000000000000000000000000000000000000000000000000000000, 500]
theorem zs30_ok : Sizes zs30 := by
  intro z hz
  have h : z = 4 ∨ z = 9 ∨ z = 6 ∨ z = 500 ∨ z = 1000000000000000000000000000000000000000000000000000000000000 := by
    simp only [zs30, List.mem_cons, List.not_mem_nil, or_false] at hz
    omega
  rcases h with rfl | rfl | rfl | rfl | rfl
  · exact .small (by decide) (by decide)
  · exact .small (by decide) (by decide)
  · exact .small (by decide) (by decide)
  · exact .small (by decide) (by decide)
  · exact ⟨by decide, .inr (by decide +kernel)⟩
theorem cut3 {rs : List Int} {lo : Nat} (h : lo + 3 ≤ rs.length) : cutV (rs.map V.int) (some ((lo : Nat) : Int)) (some ((lo + 3 : Nat) : Int)) = [V.int rs[lo], V.int rs[lo + 1], V.int rs[lo + 2]] := by
  have hl : (rs.map V.int).length = rs.length := List.length_map _
  unfold cutV
  rw [HT.sIx_nat, HT.sIx_nat, hl, Nat.min_eq_left (by omega), Nat.min_eq_left (by omega), Nat.add_sub_cancel_left, List.drop_eq_getElem_cons (by omega), List.drop_eq_getElem_cons (by omega), List.drop_eq_getElem_cons (by omega)]
  simp
theorem cut0 {ys : List V} {m : Nat} : cutV ys none (some ((m : Nat) : Int)) = ys.take m := by
  unfold cutV
  rw [HT.sIx_none, HT.sIx_nat, List.drop_zero, Nat.sub_zero]
  by_cases h : m ≤ ys.length
  · rw [Nat.min_eq_left h]
  · rw [Nat.min_eq_right (by omega), List.take_of_length_le (Nat.le_refl _), List.take_of_length_le (by omega)]
theorem VlL.snoc {H : Hp} {xs : List V} {vl : List Vl} {x : V} {v : Vl} (h : VlL K H xs vl) (hx : IsVl K H x v) : VlL K H (xs ++ [x]) (vl ++ [v]) := ⟨by simp [h.1], fun i y u a b => by
  have hl := h.1
  by_cases hi : i < xs.length
  · rw [List.getElem?_append_left hi] at a
    rw [List.getElem?_append_left (by omega)] at b
    exact h.2 i y u a b
  · have e : i = xs.length := by
      have := (List.getElem?_eq_some_iff.mp a).1
      simp at this
      omega
    subst e
    rw [List.getElem?_append_right (Nat.le_refl _), Nat.sub_self] at a
    rw [← hl, List.getElem?_append_right (Nat.le_refl _), Nat.sub_self] at b
    cases a
    cases b
    exact hx⟩
theorem VlL.take {H : Hp} {xs : List V} {vl : List Vl} (h : VlL K H xs vl) (m : Nat) : VlL K H (xs.take m) (vl.take m) := ⟨by simp [h.1], fun i y u a b => by
  by_cases hi : i < m
  · rw [List.getElem?_take_of_lt hi] at a b
    exact h.2 i y u a b
  · have := (List.getElem?_eq_some_iff.mp a).1
    rw [List.length_take] at this
    omega⟩
def vD (v : Vl) : D := .tup (v.items.map fD)
theorem IsVl.isD {H : Hp} {x : V} {v : Vl} (h : IsVl K H x v) : IsD K H x (vD v) := by
  obtain ⟨t, rfl, ht⟩ := h
  refine .flatT ht fun x hx => ?_
  cases v with
  | no =>
    rw [List.mem_singleton.mp hx]
    rfl
  | num n =>
    simp only [Vl.items, List.mem_cons, List.not_mem_nil, or_false] at hx
    rcases hx with rfl | rfl <;> rfl
  | th n =>
    simp only [Vl.items, List.mem_cons, List.not_mem_nil, or_false] at hx
    rcases hx with rfl | rfl <;> rfl
theorem vD_dep (v : Vl) : (vD v).dep = 1 := by rw [vD, D.dep, deps_flat]
theorem vDs_dep : ∀ vl : List Vl, deps (vl.map vD) ≤ 1
  | [] => by rw [List.map_nil, deps]; exact Nat.zero_le _
  | v :: vl => by
    rw [List.map_cons, deps, vD_dep]
    have := vDs_dep vl
    omega
theorem VlL.isD {H : Hp} {l : Addr} {xs : List V} {vl : List Vl} (h : SqL K H l xs) (hv : VlL K H xs vl) : IsD K H (.ref l) (.lst (vl.map vD)) := by
  refine .lst h (by rw [List.length_map]; exact hv.1.symm) fun i x d hx hd => ?_
  rw [List.getElem?_map] at hd
  cases e : vl[i]? with
  | none => rw [e] at hd; cases hd
  | some v =>
    rw [e] at hd
    cases hd
    exact (hv.2 i x v hx e).isD
theorem wV_flat (w : Option Int) : flatV (wV w) = true := by cases w <;> rfl
theorem lst_dep (vl : List Vl) : (D.lst (vl.map vD)).dep ≤ 60 := by
  rw [D.dep]
  have := vDs_dep vl
  omega
theorem zw : ∀ i, i < 8 → zs30[4 + 3 * i]? = some 6 := by decide
def sp_law_shape (K : PySem.W.Frag) : Sp := fun vs H Q _ => ∃ c th ns f, vs = [.int c, .ref th, .bl f] ∧ SqL K H th (List.map V.int ns) ∧ ns.length ≤ 1000 ∧
  ∀ t sh fl H', Same H H' → H sh = none → H fl = none → ShAt K H' sh fl t → Q (.ref sh) H'
theorem ok_law_shape (T : Txt K mg a) : FnOk P w K mg base CX0 2 a.a_law_shape a.d_law_shape ["_law_cell", "_law_there", "_law_free"] (sp_law_shape K) := by
  refine T.f_law_shape.ok sc_law_shape (fun vs H Q E h => ?_) (fun cdv A outer s H vs Q E hr h => ?_)
  · obtain ⟨_, _, _, _, rfl, _⟩ := h
    rfl
  · obtain ⟨c, th, ns, f, rfl, hth, hz, q⟩ := h
    refine ⟨_, (pss_cons (ps_set (i := 3) sc_law_shape.nd rfl (Or.inl rfl) (pe_call (ok_law_drawn T) (hr.mono (by decide)) rfl T.m_law_drawn T.f_law_drawn.kp T.b_law_drawn .nil pass0 (pa_cons (pv 0) (pa_cons (pe_op op_catS (@pe_lst _ _ _ _ (@pa_cons _ _ _ _ _ pe_int (@pa_cons _ _ _ _ _ pe_int (@pa_cons _ _ _ _ _ pe_int (@pa_cons _ _ _ _ _ (pe_op op_pow pe_int pe_int) pa_nil rfl) rfl) rfl) rfl)) (pe_op op_rep (pe_lst (pa_cons pe_int (pa_cons (pe_op op_pow pe_int pe_int) (pa_cons pe_int pa_nil)))) pe_int)) (pa_cons (pv 2) pa_nil))))) (pss_cons (ps_set (i := 4) sc_law_shape.nd rfl (Or.inl rfl) (pe_lst pa_nil)) (pss_cons (ps_forW PassesOwn.never rfl (pi_range1 rfl T.n_range (pa_cons pe_int pa_nil)) (pg_name (i := 5) sc_law_shape.nd rfl (Or.inl rfl)) pss_bodyT) pss_bodyT))), ?_⟩
    dsimp! [e60]
    refine ⟨⟨by decide, by decide, by decide⟩, by decide, fun l1 hl1 => ⟨⟨by decide, by decide, by decide⟩, by decide, fun l2 hl2 => ?_⟩⟩
    have ez : ([V.int 4, V.int 9, V.int 4, V.int 1000000000000000000000000000000000000000000000000000000000000] ++ (List.replicate (Int.toNat 8) [V.int 6, V.int 1000000000000000000000000000000000000000000000000000000000000, V.int 500]).flatten) = zs30.map V.int := by rfl
    have n12 : l1 ≠ l2 := ne_of_none upd_same hl2
    have k2 := (Same.put (o := .lst [V.int 4, V.int 9, V.int 4, V.int 1000000000000000000000000000000000000000000000000000000000000]) hl1).trans (Same.put (o := .lst [V.int 6, V.int 1000000000000000000000000000000000000000000000000000000000000, V.int 500]) hl2)
    refine ⟨l2, _, _, rfl, rfl, upd_same, by decide, by decide, by decide, fun l3 hl3 => ?_⟩
    refine ⟨l1, l3, _, _, rfl, rfl, SqL.of (Same.put hl3 _ _ (by rw [upd_ne n12]; exact upd_same)), SqL.of upd_same, by decide, fun l4 hl4 => ?_⟩
    rw [ez]
    have k4 := (k2.trans (Same.put hl3)).trans (Same.put (o := .lst (zs30.map V.int)) hl4)
    refine ⟨c, l4, zs30, f, rfl, upd_same, zs30_ok, by decide, fun rs q5 hb hq5 => ?_⟩
    have k5 := k4.trans (Same.put (o := .lst (rs.map V.int)) hq5)
    have h5 : upd (upd (upd (upd (upd H l1 (.lst [V.int 4, V.int 9, V.int 4, V.int 1000000000000000000000000000000000000000000000000000000000000])) l2 (.lst [V.int 6, V.int 1000000000000000000000000000000000000000000000000000000000000, V.int 500])) l3 (.lst (List.replicate (Int.toNat 8) [V.int 6, V.int 1000000000000000000000000000000000000000000000000000000000000, V.int 500]).flatten)) l4 (.lst (zs30.map V.int))) q5 (.lst (rs.map V.int)) q5 = some (.lst (rs.map V.int)) := upd_same
    generalize upd (upd (upd (upd (upd H l1 (.lst [V.int 4, V.int 9, V.int 4, V.int 1000000000000000000000000000000000000000000000000000000000000])) l2 (.lst [V.int 6, V.int 1000000000000000000000000000000000000000000000000000000000000, V.int 500])) l3 (.lst (List.replicate (Int.toNat 8) [V.int 6, V.int 1000000000000000000000000000000000000000000000000000000000000, V.int 500]).flatten)) l4 (.lst (zs30.map V.int))) q5 (.lst (rs.map V.int)) = H5 at k5 h5
    have hrl : rs.length = 28 := hb.1
    refine fun l6 hl6 => ⟨by decide, by decide, fw_range (fun i σ H7 => ∃ (o5 : Option V) (ys : List V) (vl : List Vl), σ = [some (.int c), some (.ref th), some (.bl f), some (.ref q5), some (.ref l6), o5, none, none] ∧ Same H5 H7 ∧ H7 l6 = some (.lst ys) ∧ ys.length = i ∧ VlL K H7 ys vl)
      ⟨none, [], [], rfl, Same.put hl6, upd_same, rfl, .nil _ _⟩ ?_ ?_⟩
    · rintro i σ H7 hi ⟨o5, ys, vl, rfl, k7, hl7, hy7, hv7⟩
      have hi8 : i < 8 := hi
      refine gN ?_
      refine bodyT.of (pss_one (ps_expr (pe_bm PySem.F.plainAttrs_list PySem.F.slot_list_append PySem.F.type_list_append mt_append (pv 4) (pa_cons (pe_call (ok_law_value T) (hr.mono (by decide)) rfl T.m_law_value T.f_law_value.kp T.b_law_value .nil pass0 (pa_cons (pe_slice sl_list (pv 3) (po_some (pe_op op_add pe_int (pe_op op_mul pe_int (pv 5)))) (po_some (pe_op op_add pe_int (pe_op op_mul pe_int (pv 5))))) (pa_cons (pv 1) pa_nil))) pa_nil)))) ?_
      dsimp! []
      have hq7 := k7 _ _ h5
      refine ⟨.inl ⟨rfl, _, SqL.of hl7⟩, .inl ⟨by decide, by decide⟩, .inl ⟨by decide, by decide⟩, q5, _, rfl, SqL.of hq7, fun r hr2 => ?_⟩
      rw [show (4 : Int) + 3 * (0 + (i : Int)) = ((4 + 3 * i : Nat) : Int) by omega, show (7 : Int) + 3 * (0 + (i : Int)) = ((4 + 3 * i + 3 : Nat) : Int) by omega, cut3 (by omega)]
      obtain ⟨w0, w1⟩ := hb.2 (4 + 3 * i) _ _ (List.getElem?_eq_getElem (by omega)) (zw i hi8)
      refine ⟨r, th, _, _, _, ns, rfl, SqL.of upd_same, ((k5.trans k7).trans (Same.put hr2)).seq hth, w0, w1, hz, fun v x H8 s8 hx => ?_⟩
      have s78 := (Same.put hr2).trans s8
      have hl8 := s78 _ _ hl7
      have kD : Kp (· = l6) H8 (upd H8 l6 (.lst (ys ++ [x]))) := (Kp.refl _ _).set rfl
      have mu : ∀ b, b = l6 → Mu H8 b := fun b e => .inl ⟨ys, by rw [e]; exact hl8⟩
      refine ⟨l6, ys, x, rfl, rfl, hl8, small1000 (by omega), ?_, _, upd_same, by simp [hy7], vl ++ [v], ((hv7.same s78).snoc hx).kp kD mu⟩
      intro b o e
      rw [upd_ne (ne_of_none e hl6)]
      exact s78 b o (k7 b o e)
    · rintro σ H7 ⟨o5, ys, vl, rfl, k7, hl7, hy7, hv7⟩
      have hy8 : ys.length = 8 := hy7
      refine bodyT.of (pss_cons (ps_set (i := 6) sc_law_shape.nd rfl (Or.inl rfl) (pe_ix ix_list (@pe_lst _ _ _ _ (@pa_cons _ _ _ _ _ pe_non (@pa_cons _ _ _ _ _ (pe_ix ix_list (pv 3) pe_int (fun _ _ => rfl)) (@pa_cons _ _ _ _ _ (pe_op op_mod (pe_ix ix_list (pv 3) pe_int (fun _ _ => rfl)) pe_int) (@pa_cons _ _ _ _ _ pe_non pa_nil rfl) rfl) rfl) rfl)) (pe_ix ix_list (pv 3) pe_int (fun _ _ => rfl)) (fun _ _ => rfl))) (pss_cons (ps_if (pt_cmpR op_lt (pe_ix ix_list (pv 3) pe_int (fun _ _ => rfl)) pe_int (nomark _)) (pss_one (ps_ret (pe_tup (pa_cons pe_str (pa_cons (pe_slice sl_list (pv 4) po_none (po_some (pe_ix ix_list (pe_lst (pa_cons (pe_ix ix_list (pv 3) pe_int (fun _ _ => rfl)) (pa_cons (pe_op op_mod (pe_ix ix_list (pv 3) pe_int (fun _ _ => rfl)) pe_int) pa_nil))) (pe_ix ix_list (pv 3) pe_int (fun _ _ => rfl)) (fun _ _ => rfl)))) (pa_cons (pv 6) pa_nil)))))) pss_nil) (pss_cons (ps_set (i := 7) sc_law_shape.nd rfl (Or.inl rfl) (pe_ix ix_list (pv 4) pe_int (fun _ _ => rfl))) (pss_cons (ps_if (pt_cmpR op_ne (pe_ix ix_tup (pv 7) pe_int (fun _ _ => rfl)) pe_str (nomark _)) (pss_one (ps_set (i := 7) sc_law_shape.nd rfl (Or.inl rfl) (pe_tup (pa_cons pe_str pa_nil)))) pss_nil) (pss_cons (ps_if (pt_cmpR op_eq (pe_ix ix_list (pv 3) pe_int (fun _ _ => rfl)) pe_int (nomark _)) (pss_one (ps_ret (pe_tup (pa_cons pe_str (pa_cons (pe_lst (pa_cons (pv 7) pa_nil)) (pa_cons pe_non pa_nil)))))) pss_nil) (pss_one (ps_ret (pe_tup (pa_cons pe_str (pa_cons (pe_lst (pa_cons (pv 7) (pa_cons (pe_ix ix_list (pv 4) pe_int (fun _ _ => rfl)) pa_nil))) (pa_cons pe_non pa_nil))))))))))) ?_
      dsimp! []
      clear hl4 hq5 k4 hl3 k2 ez hl2 n12
      have hq7 := k7 _ _ h5
      have hH7 := k5.trans k7
      have hl60 : H l6 = none := k5.free hl6
      have g0 : (rs.map V.int)[0]? = some (V.int rs[0]) := by simp
      have g1 : (rs.map V.int)[1]? = some (V.int rs[1]) := by simp
      have g2 : (rs.map V.int)[2]? = some (V.int rs[2]) := by simp
      have g3 : (rs.map V.int)[3]? = some (V.int rs[3]) := by simp
      have b0 := hb.2 0 rs[0] 4 (List.getElem?_eq_getElem (by omega)) rfl
      have b1 := hb.2 1 rs[1] 9 (List.getElem?_eq_getElem (by omega)) rfl
      have b2 := hb.2 2 rs[2] 4 (List.getElem?_eq_getElem (by omega)) rfl
      generalize rs[0] = r0 at g0 b0
      generalize rs[1] = r1 at g1 b1
      generalize rs[2] = r2 at g2 b2
      generalize rs[3] = r3 at g3
      obtain ⟨w, hw⟩ : ∃ w, atI [V.non, V.int r3, V.int (r3 % 5), V.non] r2 = some (wV w) := by
        rcases (by omega : r2 = 0 ∨ r2 = 1 ∨ r2 = 2 ∨ r2 = 3) with e | e | e | e <;> rw [e]
        · exact ⟨none, rfl⟩
        · exact ⟨some _, rfl⟩
        · exact ⟨some _, rfl⟩
        · exact ⟨none, rfl⟩
      refine ⟨q5, _, _, _, rfl, rfl, SqL.of hq7, atI_nat (j := 3) g3, q5, _, _, _, rfl, rfl, SqL.of hq7, atI_nat (j := 3) g3, _, rfl, by decide, by simp [sizeLine_eq], fun p hp => ?_⟩
      have s8 := Same.put (o := .lst [V.non, V.int r3, V.int (r3 % 5), V.non]) hp
      have h8p : upd H7 p (.lst [V.non, V.int r3, V.int (r3 % 5), V.non]) p = some (.lst [V.non, V.int r3, V.int (r3 % 5), V.non]) := upd_same
      generalize upd H7 p (.lst [V.non, V.int r3, V.int (r3 % 5), V.non]) = H8 at s8 h8p
      have hq8 := s8 _ _ hq7
      have hl8 := s8 _ _ hl7
      have hv8 := hv7.same s8
      have hH8 := hH7.trans s8
      refine ⟨q5, _, _, _, rfl, rfl, SqL.of hq8, atI_nat (j := 2) g2, p, _, _, _, rfl, rfl, SqL.of h8p, hw, q5, _, _, _, rfl, rfl, SqL.of hq8, atI_nat (j := 0) g0, _, rfl, ite2 (fun h => ?_) fun h => ?_⟩
      · obtain ⟨m, hm, hm8⟩ : ∃ m : Nat, atI [V.int r1, V.int (r1 % 3)] r0 = some (V.int (m : Int)) ∧ m ≤ 8 := by
          have hr := of_decide_eq_true h
          rcases (by omega : r0 = 0 ∨ r0 = 1) with e | e <;> rw [e]
          · exact ⟨r1.toNat, by rw [show ((r1.toNat : Nat) : Int) = r1 by omega]; rfl, by omega⟩
          · exact ⟨(r1 % 3).toNat, by rw [show (((r1 % 3).toNat : Nat) : Int) = r1 % 3 by omega]; rfl, by omega⟩
        refine ⟨q5, _, _, _, rfl, rfl, SqL.of hq8, atI_nat (j := 1) g1, q5, _, _, _, rfl, rfl, SqL.of hq8, atI_nat (j := 1) g1, _, rfl, by decide, by simp [sizeLine_eq], fun p2 hp2 => ?_⟩
        have s9 := Same.put (o := .lst [V.int r1, V.int (r1 % 3)]) hp2
        refine ⟨q5, _, _, _, rfl, rfl, SqL.of (s9 _ _ hq8), atI_nat (j := 0) g0, p2, _, _, _, rfl, rfl, SqL.of upd_same, hm, _, rfl, l6, _, rfl, SqL.of (s9 _ _ hl8), fun p3 hp3 => ⟨by simp [sizeLine_eq], fun p4 hp4 => ?_⟩⟩
        rw [cut0] at hp4 ⊢
        have s10 := Same.put (o := .lst (ys.take m)) hp3
        have s11 := Same.put (o := .tup [V.str "plain", V.ref p3, wV w]) hp4
        refine q (.plain (vl.take m) w) p4 p3 _ (((hH8.trans s9).trans s10).trans s11) (hH8.free (s9.free (s10.free hp4))) (hH8.free (s9.free hp3)) ⟨upd_same, _, s11 _ _ upd_same, ((hv8.same s9).take m).same (s10.trans s11), ?_⟩
        rw [List.length_take]
        omega
      · have hvl : vl.length = 8 := by rw [hv8.1]; exact hy8
        have gy0 : ys[0]? = some ys[0] := List.getElem?_eq_getElem (by omega)
        have gy1 : ys[1]? = some ys[1] := List.getElem?_eq_getElem (by omega)
        have gv0 : vl[0]? = some vl[0] := List.getElem?_eq_getElem (by omega)
        have gv1 : vl[1]? = some vl[1] := List.getElem?_eq_getElem (by omega)
        have i0 := hv8.2 0 _ _ gy0 gv0
        have i1 := hv8.2 1 _ _ gy1 gv1
        generalize ys[0] = y0 at gy0 i0
        generalize ys[1] = y1 at gy1 i1
        generalize vl[0] = u0 at gv0 i0
        generalize vl[1] = u1 at gv1 i1
        have fin : ∀ x kv H1, Same H8 H1 → IsVl K H1 x kv → rIxL K (.ref q5) (.int 0) H1 fun x_2 H1 => scal x_2 (.int 2) = true ∧ if decide (x_2 = V.int 2) = true then 1 ≤ sizeLine ∧ ∀ p, H1 p = none → 3 ≤ sizeLine ∧ ∀ p_1, upd H1 p (.lst [x]) p_1 = none → Q (.ref p_1) (upd (upd H1 p (.lst [x])) p_1 (.tup [.str "weak", .ref p, .non]))
            else rIxL K (.ref l6) (.int 1) H1 fun x_3 H1 => 2 ≤ sizeLine ∧ ∀ p, H1 p = none → 3 ≤ sizeLine ∧ ∀ p_1, upd H1 p (.lst [x, x_3]) p_1 = none → Q (.ref p_1) (upd (upd H1 p (.lst [x, x_3])) p_1 (.tup [.str "pair", .ref p, .non])) := by
          intro x kv H1 s9 hx
          refine ⟨q5, _, _, _, rfl, rfl, SqL.of (s9 _ _ hq8), atI_nat (j := 0) g0, rfl, ite2 (fun _ => ⟨by simp [sizeLine_eq], fun p hp => ⟨by simp [sizeLine_eq], fun p1 hp1 => ?_⟩⟩) fun _ => ⟨l6, _, _, y1, rfl, rfl, SqL.of (s9 _ _ hl8), atI_nat (j := 1) gy1, by simp [sizeLine_eq], fun p hp => ⟨by simp [sizeLine_eq], fun p1 hp1 => ?_⟩⟩⟩
          · have s10 := Same.put (o := .lst [x]) hp
            have s11 := Same.put (o := .tup [V.str "weak", V.ref p, V.non]) hp1
            exact q (.weak kv) p1 p _ ((hH8.trans s9).trans (s10.trans s11)) (hH8.free (s9.free (s10.free hp1))) (hH8.free (s9.free hp)) ⟨upd_same, [x], s11 _ _ upd_same, .cons (hx.same (s10.trans s11)) (.nil _ _), by simp⟩
          · have s10 := Same.put (o := .lst [x, y1]) hp
            have s11 := Same.put (o := .tup [V.str "pair", V.ref p, V.non]) hp1
            exact q (.pair kv u1) p1 p _ ((hH8.trans s9).trans (s10.trans s11)) (hH8.free (s9.free (s10.free hp1))) (hH8.free (s9.free hp)) ⟨upd_same, [x, y1], s11 _ _ upd_same, .cons (hx.same (s10.trans s11)) (.cons (i1.same (s9.trans (s10.trans s11))) (.nil _ _)), by simp⟩
        obtain ⟨t0, rfl, ht0⟩ := id i0
        exact ⟨l6, _, _, _, rfl, rfl, SqL.of hl8, atI_nat (j := 0) gy0, t0, _, _, _, rfl, rfl, ht0, u0.hd, rfl, ite2 (fun _ => ⟨by simp [sizeLine_eq], fun p hp => fin _ .no _ (Same.put hp) ⟨p, rfl, SqT.of upd_same⟩⟩) fun _ => fin _ u0 H8 (.refl H8) i0⟩
def sp_law_thing (a : Adr) (K : PySem.W.Frag) : Sp := fun vs H Q _ => ∃ sh fl t, vs = [.ref sh] ∧ ShAt K H sh fl t ∧ ∀ p d H', Same H H' → H p = none → H d = none → ThAt a K H' p d t → Q (.ref p) H'
theorem ok_law_thing (T : Txt K mg a) : FnOk P w K mg base CX0 9 a.a_law_thing a.d_law_thing ["_law_shape_here"] (sp_law_thing a K) := by
  refine T.f_law_thing.ok sc_law_thing (fun vs H Q E h => ?_) (fun cdv A outer s H vs Q E hr h => ?_)
  · obtain ⟨_, _, _, rfl, _⟩ := h
    rfl
  · obtain ⟨sh, fl, t, rfl, hs, q⟩ := h
    refine ⟨_, (pss_cons (ps_if (pt_cmpR op_eq (pe_ix ix_tup (pv 0) pe_int (fun _ _ => rfl)) pe_str (nomark _)) (pss_one (ps_ret (pe_call (ok_plain T) (hr.mono (by decide)) rfl T.m_plain T.f_plain.kp T.b_plain .nil pass0 (pa_cons (pe_callTy call_list_of rfl T.n_list bt_list (pa_cons (pe_ix ix_tup (pv 0) pe_int (fun _ _ => rfl)) pa_nil)) (pa_cons (pe_ix ix_tup (pv 0) pe_int (fun _ _ => rfl)) pa_nil))))) pss_nil) (pss_cons (ps_if (pt_cmpR op_eq (pe_ix ix_tup (pv 0) pe_int (fun _ _ => rfl)) pe_str (nomark _)) (pss_one (ps_ret (pe_call (ok_weak T) (hr.mono (by decide)) rfl T.m_weak T.f_weak.kp T.b_weak .nil pass0 (pa_cons (pe_ix ix_list (pe_ix ix_tup (pv 0) pe_int (fun _ _ => rfl)) pe_int (fun _ _ => rfl)) pa_nil)))) pss_nil) (pss_one (ps_ret (pe_call (ok_pair T) (hr.mono (by decide)) rfl T.m_pair T.f_pair.kp T.b_pair .nil pass0 (pa_cons (pe_ix ix_list (pe_ix ix_tup (pv 0) pe_int (fun _ _ => rfl)) pe_int (fun _ _ => rfl)) (pa_cons (pe_ix ix_list (pe_ix ix_tup (pv 0) pe_int (fun _ _ => rfl)) pe_int (fun _ _ => rfl)) pa_nil))))))), ?_⟩
    obtain ⟨h1, fx, h2, h3, h4⟩ := id hs
    dsimp! []
    refine ⟨sh, _, _, _, rfl, rfl, SqT.of h1, rfl, ?_⟩
    cases t with
    | plain fs w =>
      dsimp! [Tg.sort]
      refine ⟨sh, _, _, _, rfl, rfl, SqT.of h1, rfl, fl, rfl, fx, .inl (SqL.of h2), fun l hl => ?_⟩
      have k1 := Same.put (o := .lst fx) hl
      exact ⟨sh, _, _, _, rfl, rfl, SqT.of (k1 _ _ h1), rfl, l, fx, fs, w, rfl, SqL.of upd_same, h3.same k1, by omega, fun p d H' s5 hp hd hT => q p d H' (k1.trans s5) (k1.free hp) (k1.free hd) hT⟩
    | weak f =>
      dsimp! [Tg.sort, n_wp]
      have hl1 : 0 < fx.length := by rw [← h3.1]; show 0 < 1; decide
      have g0 : fx[0]? = some fx[0] := List.getElem?_eq_getElem hl1
      refine ⟨sh, _, _, _, rfl, rfl, SqT.of h1, rfl, ?_⟩
      dsimp! [Tg.sort, n_wp]
      exact ⟨sh, _, _, _, rfl, rfl, SqT.of h1, rfl, fl, fx, _, fx[0], rfl, rfl, SqL.of h2, atI_nat (j := 0) g0, _, f, rfl, h3.2 0 _ _ g0 rfl, q⟩
    | pair k v =>
      dsimp! [Tg.sort, n_pp]
      have hl2 : 1 < fx.length := by rw [← h3.1]; show 1 < 2; decide
      have g0 : fx[0]? = some fx[0] := List.getElem?_eq_getElem (by omega)
      have g1 : fx[1]? = some fx[1] := List.getElem?_eq_getElem hl2
      refine ⟨sh, _, _, _, rfl, rfl, SqT.of h1, rfl, ?_⟩
      dsimp! [Tg.sort, n_pw]
      exact ⟨sh, _, _, _, rfl, rfl, SqT.of h1, rfl, fl, fx, _, fx[0], rfl, rfl, SqL.of h2, atI_nat (j := 0) g0, sh, _, _, _, rfl, rfl, SqT.of h1, rfl, fl, fx, _, fx[1], rfl, rfl, SqL.of h2, atI_nat (j := 1) g1, _, _, k, v, rfl, h3.2 0 _ _ g0 rfl, h3.2 1 _ _ g1 rfl, q⟩
def sp_law_size (K : PySem.W.Frag) : Sp := fun vs H Q _ => ∃ sh fl t, vs = [.ref sh] ∧ ShAt K H sh fl t ∧ ∀ H', Same H H' → Q (.int (t.size : Nat)) H'
theorem ok_law_size (T : Txt K mg a) : FnOk P w K mg base CX0 1 a.a_law_size a.d_law_size ["_law_shape_here"] (sp_law_size K) := by
  refine T.f_law_size.ok sc_law_size (fun vs H Q E h => ?_) (fun cdv A outer s H vs Q E hr h => ?_)
  · obtain ⟨_, _, _, rfl, _⟩ := h
    rfl
  · obtain ⟨sh, fl, t, rfl, hs, q⟩ := h
    refine ⟨_, (pss_one (ps_ret (pe_op op_add (pe_callB call_len_seq rfl T.n_len bt_len (pa_cons (pe_ix ix_tup (pv 0) pe_int (fun _ _ => rfl)) pa_nil)) (pe_ix ix_list (pe_lst (pa_cons pe_int (pa_cons pe_int pa_nil))) (pe_callTy call_int1 rfl T.n_int bt_int (pa_cons (pe_cmpR op_eq (pe_ix ix_tup (pv 0) pe_int (fun _ _ => rfl)) pe_str (nomark _)) pa_nil)) (fun _ _ => rfl))))), ?_⟩
    obtain ⟨h1, fx, h2, h3, h4⟩ := id hs
    dsimp! []
    refine ⟨sh, _, _, _, rfl, rfl, SqT.of h1, rfl, fl, rfl, fx, .inl (SqL.of h2), by decide, fun l hl => ?_⟩
    have k1 := Same.put (o := .lst [V.int 2, V.int 3]) hl
    refine ⟨sh, _, _, _, rfl, rfl, SqT.of (k1 _ _ h1), rfl, rfl, ?_⟩
    have hq := q _ k1
    cases t with
    | plain fs w =>
      refine ⟨l, _, _, .int 3, rfl, rfl, SqL.of upd_same, rfl, _, rfl, ?_⟩
      have e : ((Tg.plain fs w).size : Int) = (fx.length : Int) + 3 := by
        rw [← h3.1]
        simp [Tg.size, Tg.first, Tg.fs]
        omega
      rw [← e]
      exact hq
    | weak f =>
      rw [if_neg (by simp only [Tg.sort, V.str.injEq, n_wp, decide_false]; exact Bool.false_ne_true)]
      refine ⟨l, _, _, .int 2, rfl, rfl, SqL.of upd_same, rfl, _, rfl, ?_⟩
      have e : ((Tg.weak f).size : Int) = (fx.length : Int) + 2 := by
        rw [← h3.1]
        simp [Tg.size, Tg.first, Tg.fs]
      rw [← e]
      exact hq
    | pair k v =>
      rw [if_neg (by simp only [Tg.sort, V.str.injEq, n_pp, decide_false]; exact Bool.false_ne_true)]
      refine ⟨l, _, _, .int 2, rfl, rfl, SqL.of upd_same, rfl, _, rfl, ?_⟩
      have e : ((Tg.pair k v).size : Int) = (fx.length : Int) + 2 := by
        rw [← h3.1]
        simp [Tg.size, Tg.first, Tg.fs]
      rw [← e]
      exact hq
def RowOk (K : PySem.W.Frag) (H : Hp) (S : Addr → Prop) (x : V) (e : En) : Prop := ∃ tr sh fl, x = .ref tr ∧ H tr = some (.tup [.ref sh, .int e.ser, .bl e.mkd]) ∧ ShAt K H sh fl e.t ∧ ¬ S fl
theorem RowOk.same {K : PySem.W.Frag} {H H' : Hp} {S : Addr → Prop} {x : V} {e : En} (h : RowOk K H S x e) (k : Same H H') : RowOk K H' S x e := by
  obtain ⟨tr, sh, fl, e1, h1, h2, h3⟩ := h
  exact ⟨tr, sh, fl, e1, k _ _ h1, h2.same k, h3⟩
theorem RowOk.kp {K : PySem.W.Frag} {H H' : Hp} {S S' : Addr → Prop} {x : V} {e : En} (h : RowOk K H S x e) (k : Kp S' H H') (mu : ∀ b, S' b → Mu H b) (n : ∀ fl xs, H fl = some (.lst xs) → ¬ S fl → ¬ S' fl) : RowOk K H' S x e := by
  obtain ⟨tr, sh, fl, e1, h1, h2, h3⟩ := h
  obtain ⟨_, fx, h4, _⟩ := id h2
  exact ⟨tr, sh, fl, e1, k _ _ (fun z => (mu _ z).ntup (.inl h1)) h1, h2.kp k mu (n fl fx h4 h3), h3⟩
def sp_law_held (a : Adr) (K : PySem.W.Frag) : Sp := fun vs H Q _ => ∃ M xs es pl e x S, vs = [.ref M.p, .int (pl : Nat), x] ∧ There a K H M xs es pl e ∧ RowOk K H S x e ∧ ∀ H', Same H H' → Q (.bl true) H'
theorem ok_law_held (T : Txt K mg a) : FnOk P w K mg base CX0 11 a.a_law_held a.d_law_held ["_law_memory", "_law_place", "_law_row"] (sp_law_held a K) := by
  refine T.f_law_held.ok sc_law_held (fun vs H Q E h => ?_) (fun cdv A outer s H vs Q E hr h => ?_)
  · obtain ⟨_, _, _, _, _, _, _, rfl, _⟩ := h
    rfl
  · obtain ⟨M, xs, es, pl, e, x, S, rfl, h, ho, q⟩ := h
    refine ⟨_, (pss_cons (ps_asg (pv 2) (pg_tup (n := 3) rfl (pgs_cons (pg_name (i := 3) sc_law_held.nd rfl (Or.inl rfl)) (pgs_cons (pg_name (i := 4) sc_law_held.nd rfl (Or.inl rfl)) (pgs_cons (pg_name (i := 5) sc_law_held.nd rfl (Or.inl rfl)) pgs_nil))))) (pss_cons (ps_set (i := 6) sc_law_held.nd rfl (Or.inl rfl) (pe_meth (pv 0) T.cl_Memory T.me_Memory_thing_at (ok_Memory_thing_at T) (hr.mono (by decide)) T.b_Memory_thing_at .nil pass0 (pa_cons (pv 1) pa_nil))) (pss_cons (ps_if (PW.pt (pw_or (pt_not (pt_val (pe_callB call_isinstC rfl T.n_isinstance bt_isinstance (pa_cons (pv 6) (pa_cons (pe_glob (v := .ref a.c_Thing) rfl T.mc_Thing rfl) pa_nil))))) (pw_or (pt_cmpR op_ne (pe_methV0 (L := [(a.c_Thing, sp_Thing_sort_of a K), (a.c_PlainThing, sp_Thing_sort_of a K), (a.c_PairThing, sp_Thing_sort_of a K)]) (pv 6) (List.forall_mem_cons.mpr ⟨⟨_, _, _, _, T.cl_Thing, T.me_Thing_sort_of, ok_Thing_sort_of T, hr.mono (by decide), T.b_Thing_sort_of⟩, List.forall_mem_cons.mpr ⟨⟨_, _, _, _, T.cl_PlainThing, T.me_PlainThing_sort_of, ok_Thing_sort_of T, hr.mono (by decide), T.b_Thing_sort_of⟩, List.forall_mem_cons.mpr ⟨⟨_, _, _, _, T.cl_PairThing, T.me_PairThing_sort_of, ok_Thing_sort_of T, hr.mono (by decide), T.b_Thing_sort_of⟩, List.forall_mem_nil _⟩⟩⟩) .nil pass0) (pe_ix ix_tup (pv 3) pe_int (fun _ _ => rfl)) (nomark _)) (pw_or1 (pt_cmpR (op_neD hr.units) (pe_methV0 (L := [(a.c_Thing, sp_Thing_fields a K), (a.c_PlainThing, sp_Thing_fields a K), (a.c_PairThing, sp_Thing_fields a K)]) (pv 6) (List.forall_mem_cons.mpr ⟨⟨_, _, _, _, T.cl_Thing, T.me_Thing_fields, ok_Thing_fields T, hr.mono (by decide), T.b_Thing_fields⟩, List.forall_mem_cons.mpr ⟨⟨_, _, _, _, T.cl_PlainThing, T.me_PlainThing_fields, ok_Thing_fields T, hr.mono (by decide), T.b_Thing_fields⟩, List.forall_mem_cons.mpr ⟨⟨_, _, _, _, T.cl_PairThing, T.me_PairThing_fields, ok_Thing_fields T, hr.mono (by decide), T.b_Thing_fields⟩, List.forall_mem_nil _⟩⟩⟩) .nil pass0) (pe_ix ix_tup (pv 3) pe_int (fun _ _ => rfl)) (nomark _)))))) (pss_one (ps_ret pe_bl)) pss_nil) (pss_cons (ps_if (PW.pt (pw_or (pt_cmpR (op_neD hr.units) (pe_methV0 (L := [(a.c_Thing, sp_Thing_words), (a.c_PlainThing, sp_PlainThing_words a K), (a.c_PairThing, sp_Thing_words)]) (pv 6) (List.forall_mem_cons.mpr ⟨⟨_, _, _, _, T.cl_Thing, T.me_Thing_words, ok_Thing_words T, hr.mono (by decide), T.b_Thing_words⟩, List.forall_mem_cons.mpr ⟨⟨_, _, _, _, T.cl_PlainThing, T.me_PlainThing_words, ok_PlainThing_words T, hr.mono (by decide), T.b_PlainThing_words⟩, List.forall_mem_cons.mpr ⟨⟨_, _, _, _, T.cl_PairThing, T.me_PairThing_words, ok_Thing_words T, hr.mono (by decide), T.b_Thing_words⟩, List.forall_mem_nil _⟩⟩⟩) .nil pass0) (pe_ix ix_tup (pv 3) pe_int (fun _ _ => rfl)) (nomark _)) (pw_or1 (pt_cmpR op_ne (pe_meth (pv 0) T.cl_Memory T.me_Memory_sort_at (ok_Memory_sort_at T) (hr.mono (by decide)) T.b_Memory_sort_at .nil pass0 (pa_cons (pv 1) pa_nil)) (pe_ix ix_tup (pv 3) pe_int (fun _ _ => rfl)) (nomark _))))) (pss_one (ps_ret pe_bl)) pss_nil) (pss_cons (ps_if (PW.pt (pw_or (pt_not (pt_val (pe_call (ok_law_whole T) (hr.mono (by decide)) rfl T.m_law_whole T.f_law_whole.kp T.b_law_whole .nil pass0 (pa_cons (by exact (pe_meth (pv 0) T.cl_Memory T.me_Memory_serial_at (ok_Memory_serial_at T) (hr.mono (by decide)) T.b_Memory_serial_at .nil pass0 (pa_cons (pv 1) pa_nil))) pa_nil)))) (pw_or1 (pt_cmpR op_ne (pe_meth (pv 0) T.cl_Memory T.me_Memory_serial_at (ok_Memory_serial_at T) (hr.mono (by decide)) T.b_Memory_serial_at .nil pass0 (pa_cons (pv 1) pa_nil)) (pv 4) (nomark _))))) (pss_one (ps_ret pe_bl)) pss_nil) (pss_cons (ps_if (PW.pt (pw_or (pt_not (pt_val (pe_call (ok_law_whole T) (hr.mono (by decide)) rfl T.m_law_whole T.f_law_whole.kp T.b_law_whole .nil pass0 (pa_cons (by exact (pe_meth (pv 0) T.cl_Memory T.me_Memory_size_at (ok_Memory_size_at T) (hr.mono (by decide)) T.b_Memory_size_at .nil pass0 (pa_cons (pv 1) pa_nil))) pa_nil)))) (pw_or1 (pt_cmpR op_ne (pe_meth (pv 0) T.cl_Memory T.me_Memory_size_at (ok_Memory_size_at T) (hr.mono (by decide)) T.b_Memory_size_at .nil pass0 (pa_cons (pv 1) pa_nil)) (pe_call (ok_law_size T) (hr.mono (by decide)) rfl T.m_law_size T.f_law_size.kp T.b_law_size .nil pass0 (pa_cons (pv 3) pa_nil)) (nomark _))))) (pss_one (ps_ret pe_bl)) pss_nil) (pss_one (ps_ret (pe_and (pe_callB call_isinst rfl T.n_isinstance bt_isinstance (pa_cons (by exact (pe_meth (pv 0) T.cl_Memory T.me_Memory_marked_at (ok_Memory_marked_at T) (hr.mono (by decide)) T.b_Memory_marked_at .nil pass0 (pa_cons (pv 1) pa_nil))) (pa_cons (pe_bltn (v := .ty "bool") rfl T.n_bool bt_bool rfl) pa_nil))) (pe_one (pe_cmpR op_eq (pe_meth (pv 0) T.cl_Memory T.me_Memory_marked_at (ok_Memory_marked_at T) (hr.mono (by decide)) T.b_Memory_marked_at .nil pass0 (pa_cons (pv 1) pa_nil)) (pv 5) (nomark _)))))))))))), ?_⟩
    obtain ⟨tr, sh, fl, rfl, htr, hs, _⟩ := ho
    obtain ⟨h1, fx, h2, h3, h4⟩ := id hs
    obtain ⟨dx, hM1⟩ := h.mem.ob
    dsimp! []
    refine ⟨_, SqT.of htr, rfl, _, _, rfl, _, _, rfl, _, _, rfl, rfl, _, _, hM1, flM_no, M, xs, es, pl, e, rfl, h, fun p d H1 s1 hp hd hT => ?_⟩
    obtain ⟨dxT, hT1⟩ := hT.ob
    have hk : PySem.W.kitOne K (.ref (e.t.cls a)) (.ref a.c_Thing) = some true := by
      cases e.t
      · exact T.ki_PlainThing_Thing
      · exact T.ki_Thing_Thing
      · exact T.ki_PairThing_Thing
    have hty : TyOf K H1 (.ref p) (.ref (e.t.cls a)) := by
      cases et : e.t with
      | plain fs w =>
        rw [et] at hT1
        exact T.ty_PlainThing.ty T.cl_PlainThing hT1
      | weak f =>
        rw [et] at hT1
        exact T.ty_Thing.ty T.cl_Thing hT1
      | pair k v =>
        rw [et] at hT1
        exact T.ty_PairThing.ty T.cl_PairThing hT1
    refine ⟨_, hty, true, hk, iteF ⟨p, rfl, _, _, _, hT1, e.t.no d, _, e.t.mem _, p, d, e.t, rfl, hT, ?_⟩⟩
    have h11 := s1 _ _ h1
    refine ⟨sh, _, _, _, rfl, rfl, SqT.of h11, rfl, rfl, ?_⟩
    rw [decide_eq_true rfl]
    refine iteF ⟨p, rfl, _, _, _, hT1, e.t.no d, _, e.t.mem _, p, d, e.t, rfl, hT, fun r ys hr2 hv hz => ?_⟩
    have s2 := Same.put (o := .lst ys) hr2
    have hT2 := hT.same s2
    have h12 := s2 _ _ h11
    refine ⟨sh, _, _, _, rfl, rfl, SqT.of h12, rfl, _, _, VlL.isD (SqL.of upd_same) (hv.same s2), VlL.isD (SqL.of (s2 _ _ (s1 _ _ h2))) (h3.same (s1.trans s2)), lst_dep _, ?_⟩
    rw [if_pos rfl, deq_refl]
    have hh2 := h.same (s1.trans s2)
    have sA := s1.trans s2
    generalize upd H1 r (.lst ys) = H2 at hT2 h12 hh2 sA
    obtain ⟨dxT2, hT12⟩ := hT2.ob
    obtain ⟨dx2, hM2⟩ := hh2.mem.ob
    refine ⟨false, rfl, iteF ⟨p, rfl, _, _, _, hT12, e.t.no d, words_mem e.t hT2 ⟨sh, _, _, _, rfl, rfl, SqT.of h12, rfl, _, _, .flat (wV_flat _), .flat (wV_flat _), by rw [dep_flat]; decide, ?_⟩⟩⟩
    rw [if_pos rfl, deq_refl]
    refine ⟨false, rfl, iteF ⟨_, _, hM2, flM_no, M, xs, es, pl, e, rfl, hh2, sh, _, _, _, rfl, rfl, SqT.of h12, rfl, rfl, ?_⟩⟩
    rw [decide_eq_true rfl]
    refine iteF ⟨_, _, hM2, flM_no, M, xs, es, pl, e, rfl, hh2, e.ser, rfl, true, rfl, iteF ⟨_, _, hM2, flM_no, M, xs, es, pl, e, rfl, hh2, rfl, ?_⟩⟩
    rw [decide_eq_true rfl]
    refine iteF ⟨_, _, hM2, flM_no, M, xs, es, pl, e, rfl, hh2, _, rfl, true, rfl, iteF ⟨_, _, hM2, flM_no, M, xs, es, pl, e, rfl, hh2, sh, fl, e.t, rfl, hs.same sA, fun H3 s3 => ⟨rfl, ?_⟩⟩⟩
    rw [decide_eq_true rfl]
    have hh3 := hh2.same s3
    have hM3 := s3 _ _ hM2
    exact iteF ⟨_, _, hM3, flM_no, M, xs, es, pl, e, rfl, hh3, _, .bl _, true, kit_same K _, iteT ⟨_, _, hM3, flM_no, M, xs, es, pl, e, rfl, hh3, rfl, by rw [decide_eq_true rfl]; exact q _ (sA.trans s3)⟩⟩
def repl (es : List (Nat × List V)) (pl : Nat) (cs : List V) : List (Nat × List V) := es.map fun b => if b.1 = pl then (pl, cs) else b
theorem begK_repl (es : List (Nat × List V)) (pl c r : Nat) (cs : List V) : begK (repl es pl cs) c r = begK es c r := by
  unfold begK repl
  rw [List.filter_map, List.map_map]
  have e : (fun b : Nat × List V => decide (b.1 / c = r)) ∘ (fun b => if b.1 = pl then (pl, cs) else b) = fun b => decide (b.1 / c = r) := by
    funext b
    show decide ((if b.1 = pl then (pl, cs) else b).1 / c = r) = decide (b.1 / c = r)
    split
    · rename_i h
      rw [h]
    · rfl
  rw [e]
  refine List.map_congr_left fun b _ => ?_
  show ((Sum.inl (((if b.1 = pl then (pl, cs) else b).1 : Nat) : Int) : Key), V.bl true) = _
  split
  · rename_i h
    rw [h]
  · rfl
theorem repl_repl (es : List (Nat × List V)) (pl : Nat) (cs ds : List V) : repl (repl es pl cs) pl ds = repl es pl ds := by
  unfold repl
  rw [List.map_map]
  refine List.map_congr_left fun b _ => ?_
  show (if (if b.1 = pl then (pl, cs) else b).1 = pl then (pl, ds) else (if b.1 = pl then (pl, cs) else b)) = _
  by_cases h : b.1 = pl
  · rw [if_pos h, if_pos h, if_pos rfl]
  · rw [if_neg h, if_neg h]
theorem repl_mem {es : List (Nat × List V)} {pl : Nat} {cs ds : List V} (h : (pl, cs) ∈ es) : (pl, ds) ∈ repl es pl ds := List.mem_map.mpr ⟨_, h, if_pos rfl⟩
theorem Lay.write {xs : List V} {c : Nat} {es : List (Nat × List V)} (L : Lay xs c es) {pl : Nat} {cs : List V} (hb : (pl, cs) ∈ es) {i : Nat} {v : V} (hi : i < cs.length) (hv : v ≠ .non) : Lay (xs.set (pl + i) v) c (repl es pl (cs.set i v)) := by
  have h := L.set hb (i := i) (v := v) hi hv
  have e : (es.map fun d => if d.1 = pl then (d.1, d.2.set i v) else d) = repl es pl (cs.set i v) := by
    unfold repl
    refine List.map_congr_left fun b hb2 => ?_
    by_cases z : b.1 = pl
    · rw [if_pos z, if_pos z]
      have := L.same hb2 hb z
      rw [this]
    · rw [if_neg z, if_neg z]
  rw [← e]
  exact h
theorem MemAt.write {H : Hp} {M : MA} {xs : List V} {es : List (Nat × List V)} (h : MemAt a H M xs es) {pl : Nat} {cs : List V} (hb : (pl, cs) ∈ es) {i : Nat} {v : V} (hi : i < cs.length) (hv : v ≠ .non) :
    MemAt a (upd H M.d (.lst (xs.set (pl + i) v))) M (xs.set (pl + i) v) (repl es pl (cs.set i v)) where
  ob := by
    obtain ⟨dx, e⟩ := h.ob
    exact ⟨dx, by rw [upd_ne (ne_of e h.R.li (by intro z; cases z))]; exact e⟩
  R := h.R.keep (fun b o hb e => by rw [upd_ne hb]; exact e) upd_same (List.length_set ..)
  li := by rw [upd_ne h.nl]; exact h.li
  nl := h.nl
  bl := h.bl
  bd := fun r b e => by
    have := h.bd r b e
    rw [begK_repl, upd_ne (ne_of this h.R.li (by intro z; cases z))]
    exact this
  bi := h.bi
  lay := h.lay.write hb hi hv
  few := by unfold repl; rw [List.length_map]; exact h.few
def Tg.setF : Tg → Nat → Vl → Tg
  | .plain fs w, i, v => .plain (fs.set i v) w
  | .weak _, _, v => .weak v
  | .pair _ u, 0, v => .pair v u
  | .pair k _, _ + 1, v => .pair k v
theorem Tg.setF_fs {t : Tg} {i : Nat} {v : Vl} (h : i < t.fs.length) : (t.setF i v).fs = t.fs.set i v := by
  cases t with
  | plain fs w => rfl
  | weak f =>
    have : i = 0 := Nat.lt_one_iff.mp h
    subst this
    rfl
  | pair k u =>
    have h2 : i < 2 := h
    match i, h2 with
    | 0, _ => rfl
    | 1, _ => rfl
theorem Tg.setF_sort (t : Tg) (i : Nat) (v : Vl) : (t.setF i v).sort = t.sort ∧ (t.setF i v).words = t.words ∧ (t.setF i v).first = t.first ∧ (t.setF i v).kind = t.kind := by
  cases t with
  | plain fs w => exact ⟨rfl, rfl, rfl, rfl⟩
  | weak f => exact ⟨rfl, rfl, rfl, rfl⟩
  | pair k u => cases i <;> exact ⟨rfl, rfl, rfl, rfl⟩
theorem VlL.set {H : Hp} {xs : List V} {vl : List Vl} {i : Nat} {x : V} {v : Vl} (h : VlL K H xs vl) (hx : IsVl K H x v) : VlL K H (xs.set i x) (vl.set i v) := ⟨by simp [h.1], fun j y u a b => by
  by_cases e : i = j
  · subst e
    have hl := (List.getElem?_eq_some_iff.mp a).1
    rw [List.length_set] at hl
    have hl2 := h.1
    rw [List.getElem?_set_self hl] at a
    rw [List.getElem?_set_self (by omega)] at b
    cases a
    cases b
    exact hx
  · rw [List.getElem?_set_ne e] at a b
    exact h.2 j y u a b⟩
def sp_Memory_set_mark (a : Adr) (K : PySem.W.Frag) : Sp := fun vs H Q _ => ∃ M xs es pl e m', vs = [.ref M.p, .int (pl : Nat), .bl m'] ∧ There a K H M xs es pl e ∧ ∀ H' xs' cs', Kp (· = M.d) H H' → MemAt a H' M xs' (repl es pl cs') → Cells K H' cs' (⟨e.t, e.ser, m'⟩ : En) → Q .non H'
theorem ok_Memory_set_mark (T : Txt K mg a) : FnOk P w K mg base CX0 3 a.a_Memory_set_mark a.d_Memory_set_mark ["self", "place", "marked"] (sp_Memory_set_mark a K) := by
  refine T.f_Memory_set_mark.ok sc_Memory_set_mark (fun vs H Q E h => ?_) (fun cdv A outer s H vs Q E hr h => ?_)
  · obtain ⟨_, _, _, _, _, _, rfl, _⟩ := h
    rfl
  · obtain ⟨M, xs, es, pl, e, m', rfl, h, q⟩ := h
    obtain ⟨dx, h1⟩ := h.mem.ob
    obtain ⟨dx2, h2⟩ := h.mem.R.ob
    refine ⟨_, (pss_one (ps_expr (pe_meth (pe_fld (pv 0) rfl) T.cl_Rooms T.me_Rooms_write (ok_Rooms_write T) (hr.mono (by decide)) T.b_Rooms_write .nil pass0 (pa_cons (pv 1) (pa_cons (pe_call (ok_with_mark T) (hr.mono (by decide)) rfl T.m_with_mark T.f_with_mark.kp T.b_with_mark .nil pass0 (pa_cons (by exact (pe_meth (pv 0) T.cl_Memory T.me_Memory_head_at (ok_Memory_head_at T) (hr.mono (by decide)) T.b_Memory_head_at .nil pass0 (pa_cons (pv 1) pa_nil))) (pa_cons (pv 2) pa_nil))) pa_nil))))), ?_⟩
    have f1 := flM_no (pr := M.pr) (lb := M.lb) (n := "head_at")
    dsimp! [h1, h2, HO.ins.injEq, f1, T.cl_Memory, T.na_Memory_rooms, flM_rooms, fl_write]
    obtain ⟨cs, hcs, hc⟩ := h.has
    have hle := h.mem.lay.le hcs
    have hpos := hc.pos
    dsimp only at hle
    refine ⟨M, xs, es, pl, _, rfl, h.mem, h.head, _, _, rfl, M.pr, M.d, M.m, M.c, xs, pl, _, rfl, h.mem.R, by omega, ?_⟩
    rw [mk_set _ _ _ e.t.k0.1 e.t.k0.2]
    have kD : Kp (· = M.d) H (upd H M.d (.lst (xs.set pl (.int (hd e.t.kind m' e.t.words.isSome (e.t.size : Nat)))))) := (Kp.refl _ _).set rfl
    have hm := h.mem.write hcs (i := 0) (v := .int (hd e.t.kind m' e.t.words.isSome (e.t.size : Nat))) hpos (fun z => nomatch z)
    refine q _ _ _ kD hm ?_
    obtain ⟨mid, fx, rfl, b1, b2, b3⟩ := (hc.kp kD fun b eb => .inl ⟨xs, by rw [eb]; exact h.mem.R.li⟩).ex
    exact ⟨mid, fx, rfl, b1, b2, b3⟩
def sp_Memory_set_field (a : Adr) (K : PySem.W.Frag) : Sp := fun vs H Q _ => ∃ M xs es pl e at_ x v, vs = [.ref M.p, .int (pl : Nat), .int (at_ : Nat), x] ∧ There a K H M xs es pl e ∧ at_ < e.t.fs.length ∧ IsVl K H x v ∧
  ∀ H' xs' cs', Kp (· = M.d) H H' → MemAt a H' M xs' (repl es pl cs') → Cells K H' cs' (⟨e.t.setF at_ v, e.ser, e.mkd⟩ : En) → Q .non H'
theorem ok_Memory_set_field (T : Txt K mg a) : FnOk P w K mg base CX0 4 a.a_Memory_set_field a.d_Memory_set_field ["self", "place", "at", "value"] (sp_Memory_set_field a K) := by
  refine T.f_Memory_set_field.ok sc_Memory_set_field (fun vs H Q E h => ?_) (fun cdv A outer s H vs Q E hr h => ?_)
  · obtain ⟨_, _, _, _, _, _, _, _, rfl, _⟩ := h
    rfl
  · obtain ⟨M, xs, es, pl, e, at_, x, v, rfl, h, hat, hx, q⟩ := h
    obtain ⟨dx, h1⟩ := h.mem.ob
    obtain ⟨dx2, h2⟩ := h.mem.R.ob
    refine ⟨_, (pss_one (ps_expr (pe_meth (pe_fld (pv 0) rfl) T.cl_Rooms T.me_Rooms_write (ok_Rooms_write T) (hr.mono (by decide)) T.b_Rooms_write .nil pass0 (pa_cons (pe_op op_add (pe_op op_add (pv 1) (pe_call (ok_first_field T) (hr.mono (by decide)) rfl T.m_first_field T.f_first_field.kp T.b_first_field .nil pass0 (pa_cons (by exact (pe_meth (pv 0) T.cl_Memory T.me_Memory_sort_at (ok_Memory_sort_at T) (hr.mono (by decide)) T.b_Memory_sort_at .nil pass0 (pa_cons (pv 1) pa_nil))) pa_nil))) (pv 2)) (pa_cons (pv 3) pa_nil))))), ?_⟩
    have f1 := flM_no (pr := M.pr) (lb := M.lb) (n := "sort_at")
    dsimp! [h1, h2, HO.ins.injEq, f1, T.cl_Memory, T.na_Memory_rooms, flM_rooms, fl_write]
    obtain ⟨cs, hcs, hc⟩ := h.has
    have hle := h.mem.lay.le hcs
    have hlen := hc.len
    have esz : e.t.size = e.t.first + e.t.fs.length := rfl
    dsimp only at hle
    refine ⟨M, xs, es, pl, e, rfl, h, e.t, rfl, _, rfl, M.pr, M.d, M.m, M.c, xs, pl + (e.t.first + at_), x, ?_, h.mem.R, by omega, ?_⟩
    · simp
      omega
    have hi : e.t.first + at_ < cs.length := by omega
    have kD : Kp (· = M.d) H (upd H M.d (.lst (xs.set (pl + (e.t.first + at_)) x))) := (Kp.refl _ _).set rfl
    have mu : ∀ b, b = M.d → Mu H b := fun b eb => .inl ⟨xs, by rw [eb]; exact h.mem.R.li⟩
    have hm := h.mem.write hcs hi (v := x) (by
      obtain ⟨t, rfl, _⟩ := hx
      exact fun z => nomatch z)
    refine q _ _ _ kD hm ?_
    obtain ⟨mid, fx, rfl, b1, b2, b3⟩ := (hc.kp kD mu).ex
    obtain ⟨s1, s2, s3, s4⟩ := e.t.setF_sort at_ v
    have sf := Tg.setF_fs (v := v) hat
    have ssz : (e.t.setF at_ v).size = e.t.size := by
      unfold Tg.size
      rw [s3, sf, List.length_set]
    refine ⟨mid, fx.set at_ x, ?_, by dsimp only; rw [sf]; exact b1.set (hx.kp kD mu), by dsimp only; rw [s3]; exact b2, by dsimp only; rw [s2]; exact b3⟩
    dsimp only
    rw [s2, s4, ssz, show e.t.first + at_ = mid.length + at_ + 1 + 1 by omega, List.set_cons_succ, List.set_cons_succ, List.set_append_right _ _ (by omega), show mid.length + at_ - mid.length = at_ by omega]
def sp_Memory_set_words (a : Adr) (K : PySem.W.Frag) : Sp := fun vs H Q _ => ∃ M xs es pl fs w ser mk w', vs = [.ref M.p, .int (pl : Nat), wV w'] ∧ There a K H M xs es pl (⟨.plain fs w, ser, mk⟩ : En) ∧
  ∀ H' xs' cs', Kp (· = M.d) H H' → MemAt a H' M xs' (repl es pl cs') → Cells K H' cs' (⟨.plain fs w', ser, mk⟩ : En) → Q .non H'
theorem ok_Memory_set_words (T : Txt K mg a) : FnOk P w K mg base CX0 3 a.a_Memory_set_words a.d_Memory_set_words ["self", "place", "words"] (sp_Memory_set_words a K) := by
  refine T.f_Memory_set_words.ok sc_Memory_set_words (fun vs H Q E h => ?_) (fun cdv A outer s H vs Q E hr h => ?_)
  · obtain ⟨_, _, _, _, _, _, _, _, _, rfl, _⟩ := h
    rfl
  · obtain ⟨M, xs, es, pl, fs, w, ser, mk, w', rfl, h, q⟩ := h
    obtain ⟨dx, h1⟩ := h.mem.ob
    obtain ⟨dx2, h2⟩ := h.mem.R.ob
    refine ⟨_, (pss_cons (ps_expr (pe_meth (pe_fld (pv 0) rfl) T.cl_Rooms T.me_Rooms_write (ok_Rooms_write T) (hr.mono (by decide)) T.b_Rooms_write .nil pass0 (pa_cons (pv 1) (pa_cons (pe_call (ok_with_words T) (hr.mono (by decide)) rfl T.m_with_words T.f_with_words.kp T.b_with_words .nil pass0 (pa_cons (by exact (pe_meth (pv 0) T.cl_Memory T.me_Memory_head_at (ok_Memory_head_at T) (hr.mono (by decide)) T.b_Memory_head_at .nil pass0 (pa_cons (pv 1) pa_nil))) (pa_cons (pe_cmpR op_notN (pv 2) pe_non (nomark _)) pa_nil))) pa_nil)))) (pss_one (ps_expr (pe_meth (pe_fld (pv 0) rfl) T.cl_Rooms T.me_Rooms_write (ok_Rooms_write T) (hr.mono (by decide)) T.b_Rooms_write .nil pass0 (pa_cons (pe_op op_add (pv 1) (pe_glob (v := .int 2) rfl T.c_WORDS_AT ⟨_, rfl⟩)) (pa_cons (pe_call (ok_words_cell T) (hr.mono (by decide)) rfl T.m_words_cell T.f_words_cell.kp T.b_words_cell .nil pass0 (pa_cons (pv 2) pa_nil)) pa_nil)))))), ?_⟩
    have f1 := flM_no (pr := M.pr) (lb := M.lb) (n := "head_at")
    dsimp! [h1, h2, HO.ins.injEq, f1, T.cl_Memory, T.na_Memory_rooms, flM_rooms, fl_write, wV_some]
    obtain ⟨cs, hcs, hc⟩ := h.has
    have hle := h.mem.lay.le hcs
    have hlen := hc.len
    have hl3 : 3 ≤ cs.length := by
      rw [hlen]
      show 3 ≤ 3 + fs.length
      omega
    dsimp only at hle
    refine ⟨M, xs, es, pl, _, rfl, h.mem, h.head, _, _, rfl, M.pr, M.d, M.m, M.c, xs, pl, _, rfl, h.mem.R, by omega, ?_⟩
    rw [wd_set _ _ _ (Tg.k0 _).1 (Tg.k0 _).2]
    have kD : Kp (· = M.d) H (upd H M.d (.lst (xs.set pl (.int (hd (Tg.plain fs w).kind mk w'.isSome ((Tg.plain fs w).size : Nat)))))) := (Kp.refl _ _).set rfl
    have mu : ∀ b, b = M.d → Mu H b := fun b eb => .inl ⟨xs, by rw [eb]; exact h.mem.R.li⟩
    have hm := h.mem.write hcs (i := 0) (v := .int (hd (Tg.plain fs w).kind mk w'.isSome ((Tg.plain fs w).size : Nat))) (by omega) (fun z => nomatch z)
    have hc1 := hc.kp kD mu
    dsimp only
    generalize hv0 : V.int (hd (Tg.plain fs w).kind mk w'.isSome ((Tg.plain fs w).size : Nat)) = v0 at kD hm hc1
    have hxl : (xs.set (pl + 0) v0).length = xs.length := List.length_set ..
    generalize upd H M.d (.lst (xs.set pl v0)) = H1 at kD hm hc1
    obtain ⟨dx', h1'⟩ := hm.ob
    obtain ⟨dx2', h2'⟩ := hm.R.ob
    refine ⟨_, _, _, h1', T.cl_Memory, T.na_Memory_rooms, _, flM_rooms _ _, _, rfl, _, _, h2', fl_write _ _ _, w', rfl, fun x H2 s2 hx => ?_⟩
    have hm2 := hm.same s2
    refine ⟨M.pr, M.d, M.m, M.c, _, pl + 2, x, by simp, hm2.R, by omega, ?_⟩
    have hm3 := hm2.write (repl_mem hcs) (i := 2) (v := x) (by rw [List.length_set]; omega) (by
      obtain ⟨t, rfl, _⟩ := hx
      exact fun z => nomatch z)
    rw [repl_repl] at hm3
    have k2 : Kp (· = M.d) H H2 := kD.trans (Same.kp s2)
    have k3 : Kp (· = M.d) H2 (upd H2 M.d (.lst ((xs.set (pl + 0) v0).set (pl + 2) x))) := (Kp.refl _ _).set rfl
    have mu2 : ∀ b, b = M.d → Mu H2 b := fun b eb => .inl ⟨((xs.set (pl + 0) v0)), by rw [eb]; exact hm2.R.li⟩
    refine q _ _ _ (k2.trans k3) hm3 ?_
    obtain ⟨mid, fx, rfl, b1, b2, b3⟩ := ((hc1.same s2).kp k3 mu2).ex
    have hx3 := hx.kp k3 mu2
    cases mid with
    | nil =>
      have : 0 + 2 = 3 := b2
      omega
    | cons y r =>
      have hr0 : r = [] := by
        have : r.length + 1 + 2 = 3 := b2
        exact List.eq_nil_of_length_eq_zero (by omega)
      subst hr0
      exact ⟨[x], fx, by rw [← hv0]; rfl, b1, rfl, fun z hz => by rw [List.mem_singleton.mp hz]; exact hx3⟩
def roomP (es : List (Nat × List V)) (c r : Nat) : List Int := (es.filter fun b => decide (b.1 / c = r)).map fun b => (b.1 : Int)
theorem keys_begK (es : List (Nat × List V)) (c r : Nat) : keysV (begK es c r) = (roomP es c r).map V.int := by
  unfold keysV begK roomP
  rw [List.map_map, List.map_map]
  rfl
def sp_Memory_places_in (a : Adr) : Sp := fun vs H Q _ => ∃ M xs es r, vs = [.ref M.p, .int (r : Nat)] ∧ MemAt a H M xs es ∧ r < M.m ∧ es.length < 64 ∧ ∀ (l : Addr) (ns' : List Int), H l = none → ns'.Perm (roomP es M.c r) → ns'.Pairwise (· ≤ ·) → Q (.ref l) (upd H l (.lst (ns'.map V.int)))
theorem ok_Memory_places_in (T : Txt K mg a) : FnOk P w K mg base CX0 1 a.a_Memory_places_in a.d_Memory_places_in ["self", "room"] (sp_Memory_places_in a) := by
  refine T.f_Memory_places_in.ok sc_Memory_places_in (fun vs H Q E h => ?_) (fun cdv A outer s H vs Q E hr h => ?_)
  · obtain ⟨_, _, _, _, rfl, _⟩ := h
    rfl
  · obtain ⟨M, xs, es, r, rfl, hM, hrm, h64, q⟩ := h
    obtain ⟨dx, h1⟩ := hM.ob
    refine ⟨_, (pss_one (ps_ret (pe_callB (call_sortedD rfl) rfl T.n_sorted bt_sorted (pa_cons (pe_ix ix_list (pe_fld (pv 0) rfl) (pv 1) (fun _ _ => rfl)) pa_nil)))), ?_⟩
    dsimp! [h1, HO.ins.injEq, T.cl_Memory, T.na_Memory_begins, flM_begins]
    have hbs : r < M.bs.length := by rw [hM.bl]; exact hrm
    have hgb : M.bs[r]? = some M.bs[r] := List.getElem?_eq_getElem hbs
    refine ⟨M.lb, _, _, .ref M.bs[r], rfl, rfl, SqL.of hM.li, atI_nat (by rw [List.getElem?_map, hgb]; rfl), _, rfl, _, .inl (hM.bd _ _ hgb), roomP es M.c r, keys_begK _ _ _, ?_, q⟩
    unfold roomP
    rw [List.length_map]
    have := List.length_filter_le (fun b : Nat × List V => decide (b.1 / M.c = r)) es
    omega
def belowP (es : List (Nat × List V)) (c r : Nat) : List Int := (es.filter fun b => decide (b.1 / c < r)).map fun b => (b.1 : Int)
theorem belowP_succ (c r : Nat) : ∀ es : List (Nat × List V), (belowP es c (r + 1)).Perm (belowP es c r ++ roomP es c r)
  | [] => .refl _
  | b :: es => by
    have ih := belowP_succ c r es
    unfold belowP roomP at ih ⊢
    rw [List.filter_cons, List.filter_cons, List.filter_cons]
    by_cases h1 : b.1 / c < r
    · rw [if_pos (decide_eq_true (by omega)), if_pos (decide_eq_true h1), if_neg (by simp; omega)]
      exact ih.cons _
    · by_cases h2 : b.1 / c = r
      · rw [if_pos (decide_eq_true (by omega)), if_neg (by simpa using h1), if_pos (decide_eq_true h2)]
        exact (ih.cons _).trans List.perm_middle.symm
      · rw [if_neg (by simp; omega), if_neg (by simpa using h1), if_neg (by simpa using h2)]
        exact ih
def allP (es : List (Nat × List V)) : List Int := es.map fun b => (b.1 : Int)
theorem belowP_all {es : List (Nat × List V)} {c m : Nat} (h : ∀ b ∈ es, b.1 / c < m) : belowP es c m = allP es := by
  unfold belowP allP
  rw [List.filter_eq_self.mpr fun b hb => decide_eq_true (h b hb)]
def sp_Memory_places (a : Adr) : Sp := fun vs H Q _ => ∃ M xs es, vs = [.ref M.p] ∧ MemAt a H M xs es ∧ es.length < 64 ∧ ∀ (l : Addr) (ns' : List Int) H', Same H H' → H l = none → H' l = some (.lst (ns'.map V.int)) → ns'.Perm (allP es) → ns'.Pairwise (· ≤ ·) → Q (.ref l) H'
theorem ok_Memory_places (T : Txt K mg a) : FnOk P w K mg base CX0 2 a.a_Memory_places a.d_Memory_places ["self"] (sp_Memory_places a) := by
  refine T.f_Memory_places.ok sc_Memory_places (fun vs H Q E h => ?_) (fun cdv A outer s H vs Q E hr h => ?_)
  · obtain ⟨_, _, _, rfl, _⟩ := h
    rfl
  · obtain ⟨M, xs, es, rfl, hM, h64, q⟩ := h
    obtain ⟨dx, h1⟩ := hM.ob
    refine ⟨_, (pss_cons (ps_set (i := 1) sc_Memory_places.nd rfl (Or.inl rfl) (pe_lst pa_nil)) (pss_cons (ps_forW PassesOwn.never rfl (pi_range1 rfl T.n_range (pa_cons (pe_callB call_len_seq rfl T.n_len bt_len (pa_cons (pe_fld (pv 0) rfl) pa_nil)) pa_nil)) (pg_name (i := 2) sc_Memory_places.nd rfl (Or.inl rfl)) pss_bodyT) pss_bodyT)), ?_⟩
    dsimp! [h1, HO.ins.injEq, T.cl_Memory, T.na_Memory_begins, flM_begins]
    refine fun l hl => ?_
    have s1 := Same.put (o := .lst []) hl
    have hM1 := hM.same s1
    have hm1000 : M.m ≤ 1000 := Nat.le_trans (Nat.le_mul_of_pos_right M.m hM.R.c0) hM.R.sm
    have hbl : (M.bs.map V.ref).length = M.m := by rw [List.length_map]; exact hM.bl
    refine ⟨_, _, _, s1 _ _ h1, T.cl_Memory, T.na_Memory_begins, _, flM_begins _ _, M.lb, rfl, _, .inl (SqL.of (s1 _ _ hM.li)), by omega, by omega, ?_⟩
    rw [hbl]
    have b0 : belowP es M.c 0 = [] := by
      unfold belowP
      rw [List.filter_eq_nil_iff.mpr fun b _ => by simp]
      rfl
    refine fw_range (fun i σ H2 => ∃ (o2 : Option V) (L : List Int), σ = [some (.ref M.p), some (.ref l), o2] ∧ Same H H2 ∧ H2 l = some (.lst (L.map V.int)) ∧ L.Perm (belowP es M.c i) ∧ L.Pairwise (· ≤ ·)) ⟨none, [], rfl, s1, upd_same, by rw [b0], .nil⟩ ?_ ?_
    · rintro i σ H2 hi ⟨o2, L, rfl, k2, hl2, hp2, hs2⟩
      have hM2 := hM.same k2
      obtain ⟨dx2, h12⟩ := hM2.ob
      refine gN ?_
      refine bodyT.of (pss_one (ps_expr (pe_bm PySem.F.plainAttrs_list PySem.F.slot_list_extend PySem.F.type_list_extend mt_extend (pv 1) (pa_cons (by exact (pe_meth (pv 0) T.cl_Memory T.me_Memory_places_in (ok_Memory_places_in T) (hr.mono (by decide)) T.b_Memory_places_in .nil pass0 (pa_cons (pv 2) pa_nil))) pa_nil)))) ?_
      have f1 := flM_no (pr := M.pr) (lb := M.lb) (n := "places_in")
      dsimp! [h12, HO.ins.injEq, f1]
      refine ⟨.inl ⟨rfl, _, SqL.of hl2⟩, M, xs, es, i, by simp, hM2, hi, h64, fun l3 ns' hl3 hp3 hs3 => ?_⟩
      have hLl : L.length ≤ 64 := by
        rw [hp2.length_eq]
        unfold belowP
        rw [List.length_map]
        have := List.length_filter_le (fun b : Nat × List V => decide (b.1 / M.c < i)) es
        omega
      have hnl : ns'.length ≤ 64 := by
        rw [hp3.length_eq]
        unfold roomP
        rw [List.length_map]
        have := List.length_filter_le (fun b : Nat × List V => decide (b.1 / M.c = i)) es
        omega
      refine ⟨l, l3, _, _, rfl, rfl, Same.put hl3 _ _ hl2, upd_same, Nat.le_of_lt (small1000 (by simp only [List.length_map]; omega)), ?_⟩
      rw [← List.map_append]
      refine ⟨fun b o e => ?_, _, upd_same, (hp2.append hp3).trans (belowP_succ _ _ _).symm, ?_⟩
      · rw [upd_ne (ne_of_none e hl)]
        exact Same.put hl3 b o (k2 b o e)
      · refine List.pairwise_append.mpr ⟨hs2, hs3, fun x hx y hy => ?_⟩
        have hx2 := hp2.mem_iff.mp hx
        have hy2 := hp3.mem_iff.mp hy
        unfold belowP at hx2
        unfold roomP at hy2
        obtain ⟨b, hb, rfl⟩ := List.mem_map.mp hx2
        obtain ⟨d, hd, rfl⟩ := List.mem_map.mp hy2
        have h5 : b.1 / M.c < i := of_decide_eq_true (List.mem_filter.mp hb).2
        have h6 : d.1 / M.c = i := of_decide_eq_true (List.mem_filter.mp hd).2
        have h7 : b.1 < i * M.c := (Nat.div_lt_iff_lt_mul hM.R.c0).mp h5
        have h8 : i * M.c ≤ d.1 := by
          rw [← h6]
          exact Nat.div_mul_le_self _ _
        omega
    · rintro σ H2 ⟨o2, L, rfl, k2, hl2, hp2, hs2⟩
      refine bodyT.of (pss_one (ps_ret (pv 1))) ?_
      dsimp! []
      refine q l L H2 k2 hl hl2 ?_ hs2
      rw [belowP_all fun b hb => ?_] at hp2
      · exact hp2
      · rw [Nat.div_lt_iff_lt_mul hM.R.c0]
        have h3 := hM.lay.le hb
        have h4 := (hM.lay.one b hb).1
        rw [hM.R.len] at h3
        omega
theorem begK_drop {es : List (Nat × List V)} {c r pl : Nat} : begK (es.filter fun d => decide (d.1 ≠ pl)) c r = dropK (begK es c r) (Sum.inl (pl : Int)) := by
  unfold begK dropK
  rw [List.filter_map, List.filter_filter, List.filter_filter]
  congr 1
  apply List.filter_congr
  intro b _
  rw [Bool.and_comm]
  congr 1
  have : ((Sum.inl (b.1 : Int) : Key) ≠ Sum.inl (pl : Int)) ↔ b.1 ≠ pl := by
    constructor
    · intro h z
      exact h (by rw [z])
    · intro h z
      exact h (by have := Sum.inl.inj z; omega)
  simp only [Function.comp, decide_eq_decide]
  exact this.symm
theorem begK_off {es : List (Nat × List V)} {c r pl : Nat} (h : pl / c ≠ r) : dropK (begK es c r) (Sum.inl (pl : Int)) = begK es c r := by
  refine dropK_no fun z => ?_
  obtain ⟨kv, hkv, e⟩ := List.mem_map.mp z
  unfold begK at hkv
  obtain ⟨b, hb, rfl⟩ := List.mem_map.mp hkv
  have h2 : b.1 / c = r := of_decide_eq_true (List.mem_filter.mp hb).2
  have e2 : (b.1 : Int) = (pl : Int) := Sum.inl.inj e
  have e3 : b.1 = pl := by omega
  rw [e3] at h2
  exact h h2
def outE (es : List (Nat × List V)) (pl : Nat) : List (Nat × List V) := es.filter fun d => decide (d.1 ≠ pl)
theorem outE_len (es : List (Nat × List V)) (pl : Nat) : (outE es pl).length ≤ es.length := List.length_filter_le _ _
def sp_Memory_take_out (a : Adr) (K : PySem.W.Frag) : Sp := fun vs H Q _ => ∃ M xs es pl e, vs = [.ref M.p, .int (pl : Nat)] ∧ There a K H M xs es pl e ∧
  ∀ H', Kp M.own H H' → MemAt a H' M (setAll xs pl (List.replicate e.t.size .non)) (outE es pl) → Q .non H'
theorem ok_Memory_take_out (T : Txt K mg a) : FnOk P w K mg base CX0 4 a.a_Memory_take_out a.d_Memory_take_out ["self", "place"] (sp_Memory_take_out a K) := by
  refine T.f_Memory_take_out.ok sc_Memory_take_out (fun vs H Q E h => ?_) (fun cdv A outer s H vs Q E hr h => ?_)
  · obtain ⟨_, _, _, _, _, rfl, _⟩ := h
    rfl
  · obtain ⟨M, xs, es, pl, e, rfl, h, q⟩ := h
    have hM := h.mem
    obtain ⟨dx, h1⟩ := hM.ob
    obtain ⟨dx2, h2⟩ := hM.R.ob
    refine ⟨_, (pss_cons (ps_expr (pe_meth (pe_fld (pv 0) rfl) T.cl_Rooms T.me_Rooms_set_free (ok_Rooms_set_free T) (hr.mono (by decide)) T.b_Rooms_set_free .nil pass0 (pa_cons (pv 1) (pa_cons (by exact (pe_meth (pv 0) T.cl_Memory T.me_Memory_size_at (ok_Memory_size_at T) (hr.mono (by decide)) T.b_Memory_size_at .nil pass0 (pa_cons (pv 1) pa_nil))) pa_nil)))) (pss_one (ps_expr (pe_dpop1 (pe_ix ix_list (pe_fld (pv 0) rfl) (pe_meth (pe_fld (pv 0) rfl) T.cl_Rooms T.me_Rooms_room_of (ok_Rooms_room_of T) (hr.mono (by decide)) T.b_Rooms_room_of .nil pass0 (pa_cons (pv 1) pa_nil)) (fun _ _ => rfl)) (pv 1) ⟨rfl, rfl, rfl, rfl⟩)))), ?_⟩
    have f1 := flM_no (pr := M.pr) (lb := M.lb) (n := "size_at")
    dsimp! [h1, h2, HO.ins.injEq, f1, T.cl_Memory, T.na_Memory_rooms, flM_rooms, fl_set_free]
    obtain ⟨cs, hcs, hc⟩ := h.has
    have hle := hM.lay.le hcs
    have hlen := hc.len
    have hR := hM.R
    have hdl := hR.li
    dsimp only at hle
    refine ⟨M, xs, es, pl, e, rfl, h, M.pr, M.d, M.m, M.c, xs, pl, e.t.size, rfl, hR, by omega, fun H1 k1 hd1 => ?_⟩
    have npd : M.p ≠ M.d := ne_of h1 hdl (by intro z; cases z)
    have h1' := k1 _ _ npd h1
    have h2' := k1 _ _ hR.ne h2
    have R1 := hR.keep k1 hd1 (setAll_length _ xs pl)
    have hlb := k1 _ _ hM.nl hM.li
    have hroom := h.room
    have hbs : pl / M.c < M.bs.length := by rw [hM.bl]; exact hroom
    have hgb : M.bs[pl / M.c]? = some M.bs[pl / M.c] := List.getElem?_eq_getElem hbs
    have hbd := hM.bd _ _ hgb
    have nbd : M.bs[pl / M.c] ≠ M.d := ne_of hbd hdl (by intro z; cases z)
    have hbd1 := k1 _ _ nbd hbd
    obtain ⟨v, hv⟩ : ∃ v, valV (begK es M.c (pl / M.c)) (Sum.inl (pl : Int)) = some v := by
      have := (begK_has (es := es) (c := M.c) (r := pl / M.c) (p := pl)).mpr ⟨_, hcs, rfl, rfl⟩
      exact Option.isSome_iff_exists.mp this
    refine ⟨_, _, _, h1', T.cl_Memory, T.na_Memory_begins, _, flM_begins _ _, _, _, _, h1', T.cl_Memory, T.na_Memory_rooms, _, flM_rooms _ _, _, rfl, _, _, h2', fl_room_of _ _ _, M.pr, M.d, M.m, M.c, _, pl, rfl, R1, ?_⟩
    refine ⟨M.lb, _, _, .ref M.bs[pl / M.c], rfl, rfl, SqL.of hlb, atI_nat (by rw [List.getElem?_map, hgb]; rfl), _, rfl, .inl ⟨_, .inl hbd1⟩, _, hbd1, Sum.inl (pl : Int), rfl, v, hv, ?_⟩
    have hl2 : Lay (setAll xs pl (List.replicate e.t.size V.non)) M.c (outE es pl) := by
      have := hM.lay.take hcs
      rw [hlen] at this
      exact this
    refine q _ ?_ ⟨⟨dx, ?_⟩, ?_, ?_, hM.nl, hM.bl, fun r b hb => ?_, hM.bi, hl2, Nat.le_trans (outE_len _ _) hM.few⟩
    · exact (Keep.kp k1 (.inl rfl)).set (.inr (List.getElem_mem hbs))
    · rw [upd_ne (ne_of h1' hbd1 (by intro z; cases z))]
      exact h1'
    · exact ⟨⟨dx2, by rw [upd_ne (ne_of h2' hbd1 (by intro z; cases z))]; exact h2'⟩, by rw [upd_ne nbd.symm]; exact hd1, R1.len, R1.m0, R1.c0, R1.sm⟩
    · rw [upd_ne (ne_of hlb hbd1 (by intro z; cases z))]
      exact hlb
    · unfold outE
      rw [begK_drop]
      by_cases hr2 : pl / M.c = r
      · subst hr2
        rw [hgb] at hb
        cases hb
        rw [upd_same]
      · have hrl := (List.getElem?_eq_some_iff.mp hb).1
        have hrb := (List.getElem?_eq_some_iff.mp hb).2
        have nb : b ≠ M.bs[pl / M.c] := fun z => by
          rw [← hrb] at z
          exact hr2 (nodup_at hM.bi hrl hbs z).symm
        have h5 := hM.bd r b hb
        rw [begK_off hr2, upd_ne nb]
        exact k1 _ _ (ne_of h5 hdl (by intro z; cases z)) h5
structure Rw where
  pl : Nat
  cs : List V
  x : V
  e : En
def Rw.b (r : Rw) : Nat × List V := (r.pl, r.cs)
def Rw.kv (r : Rw) : Key × V := ((Sum.inl (r.pl : Int) : Key), r.x)
structure RM (a : Adr) (K : PySem.W.Frag) (H : Hp) (M : MA) (xs : List V) (R : List Rw) : Prop where
  mem : MemAt a H M xs (R.map Rw.b)
  ok : ∀ r ∈ R, Cells K H r.cs r.e
def RW (K : PySem.W.Frag) (H : Hp) (M : MA) (R : List Rw) : Prop := ∀ r ∈ R, RowOk K H M.own r.x r.e
structure RL (a : Adr) (K : PySem.W.Frag) (H : Hp) (M : MA) (rw_ : Addr) (xs : List V) (R : List Rw) : Prop where
  rm : RM a K H M xs R
  di : H rw_ = some (.dK (R.map Rw.kv))
  no : ¬ M.own rw_
  row : RW K H M R
theorem RM.same {H H' : Hp} {M : MA} {xs : List V} {R : List Rw} (h : RM a K H M xs R) (k : Same H H') : RM a K H' M xs R := ⟨h.mem.same k, fun r hr => (h.ok r hr).same k⟩
theorem RW.same {H H' : Hp} {M : MA} {R : List Rw} (h : RW K H M R) (k : Same H H') : RW K H' M R := fun r hr => (h r hr).same k
theorem RW.kp {S : Addr → Prop} {H H' : Hp} {M : MA} {R : List Rw} (h : RW K H M R) (k : Kp S H H') (mu : ∀ b, S b → Mu H b) (n : ∀ fl xs, H fl = some (.lst xs) → ¬ M.own fl → ¬ S fl) : RW K H' M R := fun r hr => (h r hr).kp k mu n
theorem RL.same {H H' : Hp} {M : MA} {rw_ : Addr} {xs : List V} {R : List Rw} (h : RL a K H M rw_ xs R) (k : Same H H') : RL a K H' M rw_ xs R := ⟨h.rm.same k, k _ _ h.di, h.no, h.row.same k⟩
def plsI (R : List Rw) : List Int := R.map fun r => (r.pl : Int)
theorem plsI_len (R : List Rw) : (plsI R).length = R.length := List.length_map _
theorem allP_b (R : List Rw) : allP (R.map Rw.b) = plsI R := by
  unfold allP plsI
  rw [List.map_map]
  rfl
theorem keys_kv (R : List Rw) : keysV (R.map Rw.kv) = (plsI R).map V.int := by
  unfold keysV plsI
  rw [List.map_map, List.map_map]
  rfl
theorem RM.there {H : Hp} {M : MA} {xs : List V} {R : List Rw} (h : RM a K H M xs R) {r : Rw} (hr : r ∈ R) : There a K H M xs (R.map Rw.b) r.pl r.e :=
  ⟨h.mem, r.cs, List.mem_map.mpr ⟨r, hr, rfl⟩, h.ok r hr⟩
def Apart (R : List Rw) : Prop := R.Pairwise fun r q => r.pl ≠ q.pl
theorem RM.nd {H : Hp} {M : MA} {xs : List V} {R : List Rw} (h : RM a K H M xs R) : Apart R := by
  have h1 := List.pairwise_map.mp h.mem.lay.dis
  refine h1.imp_of_mem fun {r q} hr hq z e => ?_
  have l1 := (h.mem.lay.one _ (List.mem_map.mpr ⟨r, hr, rfl⟩)).1
  have l2 := (h.mem.lay.one _ (List.mem_map.mpr ⟨q, hq, rfl⟩)).1
  dsimp only [Rw.b] at z l1 l2
  omega
theorem Apart.sub {R R' : List Rw} (h : Apart R) (s : R'.Sublist R) : Apart R' := h.sublist s
theorem Apart.same {R : List Rw} (h : Apart R) {r q : Rw} (hr : r ∈ R) (hq : q ∈ R) (e : r.pl = q.pl) : r = q := by
  obtain ⟨i, hi, rfl⟩ := List.mem_iff_getElem.mp hr
  obtain ⟨j, hj, rfl⟩ := List.mem_iff_getElem.mp hq
  rcases Nat.lt_trichotomy i j with z | z | z
  · exact absurd e (List.pairwise_iff_getElem.mp h i j hi hj z)
  · subst z
    rfl
  · exact absurd e.symm (List.pairwise_iff_getElem.mp h j i hj hi z)
theorem Apart.get {R : List Rw} (h : Apart R) {r : Rw} (hr : r ∈ R) : valV (R.map Rw.kv) (Sum.inl (r.pl : Int)) = some r.x := by
  cases e : valV (R.map Rw.kv) (Sum.inl (r.pl : Int)) with
  | none => exact absurd (List.mem_map.mpr ⟨_, List.mem_map.mpr ⟨r, hr, rfl⟩, rfl⟩) (valV_not e)
  | some v =>
    unfold valV at e
    cases e2 : (R.map Rw.kv).find? fun p => decide (p.1 = Sum.inl (r.pl : Int)) with
    | none => rw [e2] at e; cases e
    | some y =>
      rw [e2] at e
      have hp := List.find?_some e2
      obtain ⟨q, hq, rfl⟩ := List.mem_map.mp (List.mem_of_find?_eq_some e2)
      have ey : (q.pl : Int) = (r.pl : Int) := Sum.inl.inj (of_decide_eq_true hp)
      have := h.same hq hr (by omega)
      subst this
      exact (Option.some.inj e).symm ▸ rfl
theorem get_no {R : List Rw} {g : Nat} (h : ∀ r ∈ R, r.pl ≠ g) : valV (R.map Rw.kv) (Sum.inl (g : Int)) = none := by
  cases e : valV (R.map Rw.kv) (Sum.inl (g : Int)) with
  | none => rfl
  | some v =>
    obtain ⟨kv, hkv, e1⟩ := List.mem_map.mp (valV_in e)
    obtain ⟨r, hr, rfl⟩ := List.mem_map.mp hkv
    have : (r.pl : Int) = (g : Int) := Sum.inl.inj e1
    exact absurd (by omega) (h r hr)
theorem RM.gap_no {H : Hp} {M : MA} {xs : List V} {R : List Rw} (h : RM a K H M xs R) {c L g : Nat} (hg : Fits xs c L g) (hL : 0 < L) : ∀ r ∈ R, r.pl ≠ g := fun r hr e => by
  have h1 := h.mem.lay.apart (List.mem_map.mpr ⟨r, hr, rfl⟩) hg.2.2 hL
  have h2 := (h.mem.lay.one _ (List.mem_map.mpr ⟨r, hr, rfl⟩)).1
  dsimp only [Rw.b] at h1 h2
  omega
theorem MemAt.off2 {a : Adr} {S : Addr → Prop} {H H' : Hp} {M : MA} {xs : List V} {es : List (Nat × List V)} (h : MemAt a H M xs es) (k : Kp S H H') (mu : ∀ b, S b → Mu H b) (n3 : ¬ S M.lb) (n4 : ∀ b, M.own b → ¬ S b) : MemAt a H' M xs es := by
  obtain ⟨dx5, h5⟩ := h.ob
  obtain ⟨dx6, h6⟩ := h.R.ob
  refine h.off k (fun z => ?_) (fun z => ?_) n3 n4
  · rcases mu _ z with ⟨y, e⟩ | ⟨y, e⟩ <;> (rw [e] at h5; cases h5)
  · rcases mu _ z with ⟨y, e⟩ | ⟨y, e⟩ <;> (rw [e] at h6; cases h6)
theorem MemAt.dict {H H' : Hp} {M : MA} {xs : List V} {es : List (Nat × List V)} (h : MemAt a H M xs es) {r : Addr} {kvs : List (Key × V)} (k : Kp (· = r) H H') (hr : H r = some (.dK kvs)) (no : ¬ M.own r) : MemAt a H' M xs es :=
  h.off2 k (fun b e => .inr ⟨kvs, by rw [e]; exact hr⟩) (fun z => by
    have := h.li
    rw [z, hr] at this
    cases this) fun b hb z => no (z ▸ hb)
theorem ndict {H : Hp} {r : Addr} {kvs : List (Key × V)} (hr : H r = some (.dK kvs)) {b : Addr} {u : HO} (hb : H b = some u) (hu : ∀ kvs, u ≠ .dK kvs) : b ≠ r := fun z => by
  rw [z, hr] at hb
  cases hb
  exact hu _ rfl
theorem RM.dict {H H' : Hp} {M : MA} {xs : List V} {R : List Rw} (h : RM a K H M xs R) {r : Addr} {kvs : List (Key × V)} (k : Kp (· = r) H H') (hr : H r = some (.dK kvs)) (no : ¬ M.own r) : RM a K H' M xs R :=
  ⟨h.mem.dict k hr no, fun q hq => (h.ok q hq).kp k fun b e => .inr ⟨kvs, by rw [e]; exact hr⟩⟩
theorem RW.dict {H H' : Hp} {M : MA} {R : List Rw} (h : RW K H M R) {r : Addr} {kvs : List (Key × V)} (k : Kp (· = r) H H') (hr : H r = some (.dK kvs)) : RW K H' M R :=
  h.kp k (fun b e => .inr ⟨kvs, by rw [e]; exact hr⟩) fun fl xs h1 _ => ndict hr h1 fun _ z => nomatch z
theorem RL.frz {H : Hp} {M : MA} {rw_ : Addr} {xs : List V} {R : List Rw} (h : RL a K H M rw_ xs R) (o : Obj) : RM a K (upd H rw_ (.frz o (.dK (R.map Rw.kv)))) M xs R ∧ RW K (upd H rw_ (.frz o (.dK (R.map Rw.kv)))) M R :=
  ⟨h.rm.dict ((Kp.refl _ _).set rfl) h.di h.no, h.row.dict ((Kp.refl _ _).set rfl) h.di⟩
theorem thaw_kp {S : Addr → Prop} {H H4 : Hp} {r : Addr} {o : Obj} {kvs : List (Key × V)} (h : H r = some (.dK kvs)) (k : Kp S (upd H r (.frz o (.dK kvs))) H4) : Kp S H (upd H4 r (.dK kvs)) := fun b u n e => by
  by_cases z : b = r
  · subst z
    rw [upd_same, ← h]
    exact e
  · rw [upd_ne z]
    exact k b u n (by rw [upd_ne z]; exact e)
theorem get_at {R : List Rw} {i : Nat} {kv : Key × V} (h : (R.map Rw.kv)[i]? = some kv) : ∃ r ∈ R, kv = r.kv := by
  obtain ⟨r, hr, e⟩ := List.mem_map.mp (List.mem_of_getElem? h)
  exact ⟨r, hr, e.symm⟩
theorem MemAt.nown {H : Hp} {M : MA} {xs : List V} {es : List (Nat × List V)} (h : MemAt a H M xs es) {b : Addr} (hb : H b = none) : ¬ M.own b := fun z => by
  rcases h.mu _ z with ⟨y, e⟩ | ⟨y, e⟩ <;> (rw [e] at hb; cases hb)
theorem RL.put {H6 H7 H8 : Hp} {M : MA} {rw_ : Addr} {xs xs' : List V} {R : List Rw} {sh fl t1 : Addr} {t : Tg} {ser : Int} {mk : Bool} {g : Nat} {cs : List V} (h : RL a K H6 M rw_ xs R) (hs : ShAt K H6 sh fl t) (hfl : ¬ M.own fl)
    (k7 : Kp M.own H6 H7) (hM7 : MemAt a H7 M xs' (R.map Rw.b ++ [(g, cs)])) (hc7 : Cells K H7 cs ⟨t, ser, mk⟩) (s8 : Same H7 H8) (ht1 : H8 t1 = some (.tup [.ref sh, .int ser, .bl mk])) :
    H8 rw_ = some (.dK (R.map Rw.kv)) ∧ RL a K (upd H8 rw_ (.dK (R.map Rw.kv ++ [((Sum.inl (g : Int) : Key), V.ref t1)]))) M rw_ xs' (R ++ [⟨g, cs, .ref t1, ⟨t, ser, mk⟩⟩]) ∧
      Kp (fun b => M.own b ∨ b = rw_) H6 (upd H8 rw_ (.dK (R.map Rw.kv ++ [((Sum.inl (g : Int) : Key), V.ref t1)]))) := by
  have mu6 := h.rm.mem.mu
  have hdi8 : H8 rw_ = some (.dK (R.map Rw.kv)) := s8 _ _ (k7 _ _ h.no h.di)
  have k9 : Kp (· = rw_) H8 (upd H8 rw_ (.dK (R.map Rw.kv ++ [((Sum.inl (g : Int) : Key), V.ref t1)]))) := (Kp.refl _ _).set rfl
  have k78 : Kp M.own H6 H8 := k7.trans (Same.kp s8)
  have mu8 : ∀ b, b = rw_ → Mu H8 b := fun b e => .inr ⟨R.map Rw.kv, by rw [e]; exact hdi8⟩
  have hd9 : upd H8 rw_ (.dK (R.map Rw.kv ++ [((Sum.inl (g : Int) : Key), V.ref t1)])) rw_ = some (.dK (R.map Rw.kv ++ [((Sum.inl (g : Int) : Key), V.ref t1)])) := upd_same
  generalize upd H8 rw_ (.dK (R.map Rw.kv ++ [((Sum.inl (g : Int) : Key), V.ref t1)])) = H9 at k9 hd9
  have hc9 := (hc7.same s8).kp k9 mu8
  have hs8 := hs.kp k78 mu6 hfl
  have hs9 := hs8.kp k9 mu8 (by
    obtain ⟨_, fx8, h28, _⟩ := id hs8
    exact ndict hdi8 h28 fun _ z => nomatch z)
  refine ⟨hdi8, ⟨⟨?_, fun r hr => ?_⟩, ?_, h.no, fun r hr => ?_⟩, (k78.mono fun b z => .inl z).trans (k9.mono fun b z => .inr z)⟩
  · rw [List.map_append]
    exact (hM7.same s8).dict k9 hdi8 h.no
  · rcases List.mem_append.mp hr with hr | hr
    · exact ((h.rm.ok r hr).kp k78 mu6).kp k9 mu8
    · rw [List.mem_singleton.mp hr]
      exact hc9
  · rw [hd9, List.map_append]
    rfl
  · rcases List.mem_append.mp hr with hr | hr
    · exact ((h.row r hr).kp k78 mu6 fun fl xs h1 h2 => h2).kp k9 mu8 fun fl xs h1 _ => ndict hdi8 h1 fun _ z => nomatch z
    · rw [List.mem_singleton.mp hr]
      exact ⟨t1, sh, fl, rfl, k9 _ _ (ndict hdi8 ht1 fun _ z => nomatch z) ht1, hs9, hfl⟩
def off (R : List Rw) (pl : Nat) : List Rw := R.filter fun r => decide (r.pl ≠ pl)
theorem off_b (R : List Rw) (pl : Nat) : outE (R.map Rw.b) pl = (off R pl).map Rw.b := by
  unfold outE off
  rw [List.filter_map]
  rfl
theorem off_kv (R : List Rw) (pl : Nat) : dropK (R.map Rw.kv) (Sum.inl (pl : Int)) = (off R pl).map Rw.kv := by
  unfold dropK off
  rw [List.filter_map]
  congr 1
  apply List.filter_congr
  intro r _
  have : ((Sum.inl (r.pl : Int) : Key) ≠ Sum.inl (pl : Int)) ↔ r.pl ≠ pl := by
    constructor
    · intro h z
      exact h (by rw [z])
    · intro h z
      exact h (by have := Sum.inl.inj z; omega)
  show decide ((Sum.inl (r.pl : Int) : Key) ≠ Sum.inl (pl : Int)) = decide (r.pl ≠ pl)
  exact decide_eq_decide.mpr this
theorem off_len (R : List Rw) (pl : Nat) : (off R pl).length ≤ R.length := List.length_filter_le _ _
theorem RM.out {H H' : Hp} {M : MA} {xs xs' : List V} {R : List Rw} {pl : Nat} (h : RM a K H M xs R) (k : Kp M.own H H') (hM : MemAt a H' M xs' (outE (R.map Rw.b) pl)) : RM a K H' M xs' (off R pl) :=
  ⟨by rw [← off_b]; exact hM, fun r hr => (h.ok r (List.mem_filter.mp hr).1).kp k h.mem.mu⟩
theorem RM.few {H : Hp} {M : MA} {xs : List V} {R : List Rw} (h : RM a K H M xs R) : R.length ≤ 1000 := by
  have := h.mem.few
  rw [List.length_map] at this
  exact this
theorem perm_lift {α β : Type} {f : α → β} {l m : List β} (h : l.Perm m) : ∀ L : List α, m = L.map f → ∃ L' : List α, L'.Perm L ∧ L'.map f = l := by
  induction h with
  | nil =>
    intro L e
    exact ⟨L, .refl _, e.symm⟩
  | cons x h ih =>
    intro L e
    cases L with
    | nil => cases e
    | cons y L =>
      rw [List.map_cons] at e
      injection e with e1 e2
      obtain ⟨L', h1, h2⟩ := ih L e2
      exact ⟨y :: L', h1.cons y, by rw [List.map_cons, h2, e1]⟩
  | swap x y l =>
    intro L e
    match L, e with
    | [], e => cases e
    | [_], e => cases e
    | u :: v :: L, e =>
      rw [List.map_cons, List.map_cons] at e
      injection e with e1 e2
      injection e2 with e2 e3
      exact ⟨v :: u :: L, .swap _ _ _, by rw [List.map_cons, List.map_cons, e1, e2, e3]⟩
  | trans h1 h2 ih1 ih2 =>
    intro L e
    obtain ⟨L1, p1, q1⟩ := ih2 L e
    obtain ⟨L2, p2, q2⟩ := ih1 L1 q1.symm
    exact ⟨L2, p2.trans p1, q2⟩
theorem flat_ints (ns : List Int) : ∀ x ∈ ns.map V.int, flatV x = true := fun x hx => by
  obtain ⟨z, _, rfl⟩ := List.mem_map.mp hx
  rfl
theorem RL.out {H H1 : Hp} {M : MA} {rw_ : Addr} {xs xs' : List V} {R : List Rw} {pl : Nat} (h : RL a K H M rw_ xs R) (k : Kp M.own H H1) (hM : MemAt a H1 M xs' (outE (R.map Rw.b) pl)) :
    H1 rw_ = some (.dK (R.map Rw.kv)) ∧ RL a K (upd H1 rw_ (.dK (dropK (R.map Rw.kv) (Sum.inl (pl : Int))))) M rw_ xs' (off R pl) ∧ Kp (fun b => M.own b ∨ b = rw_) H (upd H1 rw_ (.dK (dropK (R.map Rw.kv) (Sum.inl (pl : Int))))) := by
  have hd1 := k _ _ h.no h.di
  have k2 : Kp (· = rw_) H1 (upd H1 rw_ (.dK (dropK (R.map Rw.kv) (Sum.inl (pl : Int))))) := (Kp.refl _ _).set rfl
  refine ⟨hd1, ⟨(h.rm.out k hM).dict k2 hd1 h.no, by rw [upd_same, off_kv], h.no, fun w hw => ?_⟩, (k.mono fun b z => .inl z).trans (k2.mono fun b z => .inr z)⟩
  exact ((h.row w (List.mem_filter.mp hw).1).kp k h.rm.mem.mu fun fl xs h1 h2 => h2).kp k2 (fun b e => .inr ⟨R.map Rw.kv, by rw [e]; exact hd1⟩) fun fl xs h1 _ => ndict hd1 h1 fun _ z => nomatch z
def chg (R : List Rw) (pl : Nat) (cs' : List V) (x' : V) (e' : En) : List Rw := R.map fun r => if r.pl = pl then ⟨pl, cs', x', e'⟩ else r
theorem chg_len (R : List Rw) (pl : Nat) (cs' : List V) (x' : V) (e' : En) : (chg R pl cs' x' e').length = R.length := List.length_map _
theorem chg_b (R : List Rw) (pl : Nat) (cs' : List V) (x' : V) (e' : En) : repl (R.map Rw.b) pl cs' = (chg R pl cs' x' e').map Rw.b := by
  unfold repl chg
  rw [List.map_map, List.map_map]
  refine List.map_congr_left fun r _ => ?_
  show (if r.b.1 = pl then (pl, cs') else r.b) = Rw.b (if r.pl = pl then ⟨pl, cs', x', e'⟩ else r)
  by_cases h : r.pl = pl
  · rw [if_pos h, if_pos (show r.b.1 = pl from h)]
    rfl
  · rw [if_neg h, if_neg (show ¬ r.b.1 = pl from h)]
theorem chg_kv {R : List Rw} {w : Rw} (hw : w ∈ R) (cs' : List V) (x' : V) (e' : En) : putK (R.map Rw.kv) (Sum.inl (w.pl : Int)) x' = (chg R w.pl cs' x' e').map Rw.kv := by
  have hin : ((R.map Rw.kv).any fun kv => decide (kv.1 = Sum.inl (w.pl : Int))) = true := List.any_eq_true.mpr ⟨_, List.mem_map.mpr ⟨w, hw, rfl⟩, decide_eq_true rfl⟩
  unfold putK chg
  rw [if_pos hin, List.map_map, List.map_map]
  refine List.map_congr_left fun r _ => ?_
  show (if r.kv.1 = Sum.inl (w.pl : Int) then (r.kv.1, x') else r.kv) = Rw.kv (if r.pl = w.pl then ⟨w.pl, cs', x', e'⟩ else r)
  by_cases h : r.pl = w.pl
  · have h2 : r.kv.1 = Sum.inl (w.pl : Int) := by
      show (Sum.inl (r.pl : Int) : Key) = _
      rw [h]
    rw [if_pos h, if_pos h2, h2]
    rfl
  · have h2 : ¬ r.kv.1 = Sum.inl (w.pl : Int) := fun z => h (by have := Sum.inl.inj z; omega)
    rw [if_neg h, if_neg h2]
theorem RL.change {H H1 H2 : Hp} {M : MA} {rw_ : Addr} {xs xs' : List V} {R : List Rw} {w : Rw} {cs' : List V} {x' : V} {e' : En} (h : RL a K H M rw_ xs R) (hw : w ∈ R) (k : Kp (· = M.d) H H1) (hM : MemAt a H1 M xs' (repl (R.map Rw.b) w.pl cs')) (hc : Cells K H1 cs' e') (s : Same H1 H2) (hr : RowOk K H2 M.own x' e') :
    H2 rw_ = some (.dK (R.map Rw.kv)) ∧ RL a K (upd H2 rw_ (.dK (putK (R.map Rw.kv) (Sum.inl (w.pl : Int)) x'))) M rw_ xs' (chg R w.pl cs' x' e') ∧ Kp (fun b => M.own b ∨ b = rw_) H (upd H2 rw_ (.dK (putK (R.map Rw.kv) (Sum.inl (w.pl : Int)) x'))) := by
  have hd2 := s _ _ (k _ _ (fun z => h.no (.inl z)) h.di)
  have k2 : Kp (· = rw_) H2 (upd H2 rw_ (.dK (putK (R.map Rw.kv) (Sum.inl (w.pl : Int)) x'))) := (Kp.refl _ _).set rfl
  have mu2 : ∀ b, b = rw_ → Mu H2 b := fun b e => .inr ⟨R.map Rw.kv, by rw [e]; exact hd2⟩
  have k02 : Kp (· = M.d) H H2 := k.trans (Same.kp s)
  have mu0 : ∀ b, b = M.d → Mu H b := fun b e => .inl ⟨xs, by rw [e]; exact h.rm.mem.R.li⟩
  refine ⟨hd2, ⟨⟨?_, fun r hr2 => ?_⟩, by rw [upd_same, chg_kv hw], h.no, fun r hr2 => ?_⟩, (k02.mono fun b z => .inl (.inl z)).trans (k2.mono fun b z => .inr z)⟩
  · rw [← chg_b]
    exact (hM.same s).dict k2 hd2 h.no
  · obtain ⟨q, hq, rfl⟩ := List.mem_map.mp hr2
    by_cases e : q.pl = w.pl
    · rw [if_pos e]
      exact (hc.same s).kp k2 mu2
    · rw [if_neg e]
      exact ((h.rm.ok q hq).kp k02 mu0).kp k2 mu2
  · obtain ⟨q, hq, rfl⟩ := List.mem_map.mp hr2
    by_cases e : q.pl = w.pl
    · rw [if_pos e]
      exact hr.kp k2 mu2 fun fl xs h1 _ => ndict hd2 h1 fun _ z => nomatch z
    · rw [if_neg e]
      exact ((h.row q hq).kp k02 mu0 fun fl xs h1 h2 z => h2 (.inl z)).kp k2 mu2 fun fl xs h1 _ => ndict hd2 h1 fun _ z => nomatch z
def Tkn (kvs : List (Key × V)) (S : Nat → Prop) : Prop := ∀ j : Nat, (valV kvs (Sum.inl (j : Int))).isSome = true ↔ S j
theorem Tkn.nil : Tkn [] fun _ => False := fun j => ⟨fun h => (by cases h), fun h => h.elim⟩
theorem Tkn.put {kvs : List (Key × V)} {S : Nat → Prop} (h : Tkn kvs S) (n : Nat) (v : V) : Tkn (putK kvs (Sum.inl (n : Int)) v) fun j => S j ∨ j = n := fun j => by
  rw [valV_put]
  by_cases e : j = n
  · subst e
    rw [if_pos rfl]
    exact ⟨fun _ => .inr rfl, fun _ => rfl⟩
  · rw [if_neg (fun z => e (by have := Sum.inl.inj z; omega)), h j]
    exact ⟨.inl, fun z => z.resolve_right e⟩
theorem Tkn.imp {kvs : List (Key × V)} {S S' : Nat → Prop} (h : Tkn kvs S) (e : ∀ j, S j ↔ S' j) : Tkn kvs S' := fun j => (h j).trans (e j)
theorem Lay.wide {xs : List V} {c : Nat} {es : List (Nat × List V)} (L : Lay xs c es) (hc : 0 < c) {b : Nat × List V} (hb : b ∈ es) : b.2.length ≤ c := by
  obtain ⟨h0, h1⟩ := L.one b hb
  by_cases h : b.2.length ≤ c
  · exact h
  · exfalso
    have h2 : (b.1 + c) / c ≤ (b.1 + b.2.length - 1) / c := Nat.div_le_div_right (by omega)
    rw [Nat.add_div_right _ hc] at h2
    omega
theorem RM.wide {H : Hp} {M : MA} {xs : List V} {R : List Rw} (h : RM a K H M xs R) {w : Rw} (hw : w ∈ R) : w.e.t.size ≤ M.c := by
  have := h.mem.lay.wide h.mem.R.c0 (List.mem_map.mpr ⟨w, hw, rfl⟩)
  rw [← (h.ok w hw).len]
  exact this
theorem RM.in_ {H : Hp} {M : MA} {xs : List V} {R : List Rw} (h : RM a K H M xs R) {w : Rw} (hw : w ∈ R) : w.pl + w.e.t.size ≤ xs.length ∧ 0 < w.e.t.size := by
  have h1 := h.mem.lay.le (List.mem_map.mpr ⟨w, hw, rfl⟩)
  have h2 := (h.ok w hw).len
  have h3 := (h.ok w hw).pos
  dsimp only [Rw.b] at h1
  omega
theorem RM.free {H : Hp} {M : MA} {xs : List V} {R : List Rw} (h : RM a K H M xs R) {j : Nat} (hj : j < xs.length) (hn : ∀ w ∈ R, ¬ (w.pl ≤ j ∧ j < w.pl + w.e.t.size)) : xs[j]? = some V.non := by
  by_cases hv : xs[j] = V.non
  · rw [List.getElem?_eq_getElem hj, hv]
  · obtain ⟨b, hb, h1, h2⟩ := h.mem.lay.full _ _ (List.getElem?_eq_getElem hj) hv
    obtain ⟨w, hw, rfl⟩ := List.mem_map.mp hb
    have h3 := (h.ok w hw).len
    dsimp only [Rw.b] at h1 h2
    rw [h3] at h2
    exact absurd ⟨h1, h2⟩ (hn w hw)
theorem RM.full {H : Hp} {M : MA} {xs : List V} {R : List Rw} (h : RM a K H M xs R) {j : Nat} {w : Rw} (hw : w ∈ R) (h1 : w.pl ≤ j) (h2 : j < w.pl + w.e.t.size) : xs[j]? ≠ some V.non := fun z => by
  have h3 := (h.ok w hw).len
  have hi : j - w.pl < w.cs.length := by omega
  obtain ⟨h4, h5⟩ := h.mem.lay.at_ _ (List.mem_map.mpr ⟨w, hw, rfl⟩) (j - w.pl) _ (List.getElem?_eq_getElem hi)
  have e : w.b.1 + (j - w.pl) = j := by
    dsimp only [Rw.b]
    omega
  rw [e, z] at h5
  exact h4 (Option.some.inj h5).symm
def Run (xs : List V) (e n f : Nat) : Prop := f ≤ n ∧ n ≤ e + 1 ∧ (∀ j, j < f → xs[e - j]? = some V.non) ∧ (f < n → xs[e - f]? ≠ some V.non)
theorem Run.step {xs : List V} {i o f : Nat} (h : o ≠ 0 → Run xs (i - 1) o f) (ho : o ≤ i) (hx : xs[i]? = some V.non) : Run xs i (o + 1) ((if o = 0 then 0 else f) + 1) := by
  by_cases z : o = 0
  · subst z
    rw [if_pos rfl]
    exact ⟨by omega, by omega, fun j hj => by rw [show i - j = i by omega]; exact hx, fun y => by omega⟩
  · rw [if_neg z]
    obtain ⟨h1, h2, h3, h4⟩ := h z
    refine ⟨by omega, by omega, fun j hj => ?_, fun y => ?_⟩
    · by_cases e : j = 0
      · subst e
        exact hx
      · have := h3 (j - 1) (by omega)
        rw [show i - 1 - (j - 1) = i - j by omega] at this
        exact this
    · have := h4 (by omega)
      rw [show i - 1 - f = i - (f + 1) by omega] at this
      exact this
theorem Run.stop {xs : List V} {i o : Nat} (ho : o ≤ i) (hx : xs[i]? ≠ some V.non) : Run xs i (o + 1) 0 := ⟨by omega, by omega, fun j hj => absurd hj (Nat.not_lt_zero _), fun _ => hx⟩
theorem fit_in {xs : List V} {c L p i : Nat} (hc : 0 < c) (hL : 0 < L) (h : Fits xs c L p) (e : p + L = i + 1) : L ≤ i % c + 1 := by
  have h1 := fits_room hc hL h rfl
  have e2 : p / c = i / c := by
    have := h.2.1
    rwa [show p + L - 1 = i by omega] at this
  have hb : i / c * c + i % c = i := by
    have := Nat.div_add_mod i c
    rw [Nat.mul_comm] at this
    exact this
  rw [e2] at h1
  omega
theorem lst_next {xs : List V} {c L i g : Nat} (hc : 0 < c) (hL : 0 < L) (no : ∀ p, Fits xs c L p → i < p + L) (hR : Run xs i (i % c + 1) g) (hg : g < L) : ∀ p, Fits xs c L p → i + 1 < p + L := fun p hp => by
  have h1 := no p hp
  by_cases e : p + L = i + 1
  · exfalso
    have h2 := fit_in hc hL hp e
    have h3 := hR.2.2.2 (by omega)
    have h4 := hp.2.2 (i - g - p) (by omega)
    rw [show p + (i - g - p) = i - g by omega] at h4
    exact h3 h4
  · omega
theorem lst_found {xs : List V} {c m L i : Nat} (hc : 0 < c) (hx : xs.length = m * c) (hi : i < xs.length) (hL : 0 < L) (no : ∀ p, Fits xs c L p → i < p + L) (hR : Run xs i (i % c + 1) L) : IsGap xs c L (some (i + 1 - L)) := by
  obtain ⟨h1, h2, h3, _⟩ := hR
  have hb : i / c * c + i % c = i := by
    have := Nat.div_add_mod i c
    rw [Nat.mul_comm] at this
    exact this
  have hlt := Nat.mod_lt i hc
  have hr : i / c < m := by
    rw [Nat.div_lt_iff_lt_mul hc]
    omega
  refine ⟨room_fits hc hL hx hr (by omega) (by omega) fun j hj => ?_, fun q hq hf => ?_⟩
  · have := h3 (L - 1 - j) (by omega)
    rw [show i - (L - 1 - j) = i + 1 - L + j by omega] at this
    exact this
  · have := no q hf
    omega
def sp_law_least (a : Adr) (K : PySem.W.Frag) : Sp := fun vs H Q _ => ∃ M xs rw_ R L, vs = [.ref rw_, .int (M.m : Nat), .int (M.c : Nat), .int (L : Nat)] ∧ RL a K H M rw_ xs R ∧ R.length ≤ 62 ∧ M.c ≤ 16 ∧ 0 < L ∧
  ∀ (g : Option Nat) (H' : Hp), Same H H' → IsGap xs M.c L g → Q (optV g) H'
theorem ok_law_least (T : Txt K mg a) : FnOk P w K mg base CX0 2 a.a_law_least a.d_law_least ["_law_rows", "_law_many", "_law_wide", "_law_size_here"] (sp_law_least a K) := by
  refine T.f_law_least.ok sc_law_least (fun vs H Q E h => ?_) (fun cdv A outer s H vs Q E hr h => ?_)
  · obtain ⟨_, _, _, _, _, rfl, _⟩ := h
    rfl
  · obtain ⟨M, xs, rw_, R, L, rfl, h, hRl, hc20, hL0, q⟩ := h
    refine ⟨_, (pss_cons (ps_set (i := 4) sc_law_least.nd rfl (Or.inl rfl) pe_dnewK) (pss_cons (ps_thaw (ps_forW PassesOwn.never rfl (pi_dict (pv 0)) (pg_name (i := 5) sc_law_least.nd rfl (Or.inl rfl)) pss_bodyT)) pss_bodyT)), ?_⟩
    have hA := h.rm.nd
    have hc0 : 0 < M.c := h.rm.mem.R.c0
    have hxl : xs.length ≤ 1000 := by rw [h.rm.mem.R.len]; exact h.rm.mem.R.sm
    dsimp! []
    refine fun td htd => ?_
    have s1 := Same.put (o := .dK []) htd
    have h1 := h.same s1
    have htd1 : upd H td (.dK []) td = some (.dK []) := upd_same
    have ntr : td ≠ rw_ := (ne_of_none h.di htd).symm
    generalize upd H td (.dK []) = H1 at s1 h1 htd1
    refine ⟨_, h1.di, fun o => ?_⟩
    obtain ⟨_, hWF⟩ := h1.frz o
    have hF : upd H1 rw_ (.frz o (.dK (R.map Rw.kv))) rw_ = some (.frz o (.dK (R.map Rw.kv))) := upd_same
    have htF : upd H1 rw_ (.frz o (.dK (R.map Rw.kv))) td = some (.dK []) := by
      rw [upd_ne ntr]
      exact htd1
    have hsm : ∀ H', Kp (· = td) (upd H1 rw_ (.frz o (.dK (R.map Rw.kv)))) H' → Kp (· = td) H1 (upd H' rw_ (.dK (R.map Rw.kv))) := fun H' k => thaw_kp h1.di k
    generalize upd H1 rw_ (.frz o (.dK (R.map Rw.kv))) = HF at hWF hF htF hsm
    refine fw_dict (fun i σ H' => ∃ (o4 o5 : Option V) (kvs : List (Key × V)), σ = [some (.ref rw_), some (.int (M.m : Nat)), some (.int (M.c : Nat)), some (.int (L : Nat)), some (.ref td), o4, o5, none] ∧ Kp (· = td) HF H' ∧ H' td = some (.dK kvs) ∧ kvs.length ≤ i * 16 ∧ Tkn kvs fun j => ∃ v ∈ R.take i, v.pl ≤ j ∧ j < v.pl + v.e.t.size)
      ⟨none, none, [], rfl, .refl _ _, htF, Nat.zero_le _, Tkn.nil.imp fun j => ⟨fun z => z.elim, fun ⟨v, hv, _⟩ => (nomatch hv)⟩⟩ ?_ ?_ ?_
    · rintro i σ H' _ ⟨o6, o7, kvs, rfl, k', _⟩
      exact k' _ _ ntr.symm hF
    · rintro i kv σ H' hkv ⟨o6, o7, kvs, rfl, k', ht', hl', hT'⟩
      have hil : i < R.length := by
        have := (List.getElem?_eq_some_iff.mp hkv).1
        rwa [List.length_map] at this
      have hvi : R[i]? = some R[i] := List.getElem?_eq_getElem hil
      obtain ⟨v, hv⟩ : ∃ v, R[i] = v := ⟨_, rfl⟩
      rw [hv] at hvi
      have ekv0 : kv = v.kv := by
        rw [List.getElem?_map, hvi] at hkv
        exact (Option.some.inj hkv).symm
      subst ekv0
      have hvR : v ∈ R := List.mem_of_getElem? hvi
      have ekv : kV v.kv.1 = V.int (v.pl : Int) := rfl
      have et : R.take (i + 1) = R.take i ++ [v] := by
        rw [List.take_add_one, hvi]
        rfl
      refine gN ?_
      refine bodyT.of (pss_one (ps_forW PassesOwn.never rfl (pi_range2 rfl T.n_range (pa_cons (pv 5) (pa_cons (pe_op op_add (pv 5) (pe_call (ok_law_size T) (hr.mono (by decide)) rfl T.m_law_size T.f_law_size.kp T.b_law_size .nil pass0 (pa_cons (pe_ix ix_tup (pe_dget (hu_of hr) (pv 0) (pv 5) (fun _ _ => rfl)) pe_int (fun _ _ => rfl)) pa_nil))) pa_nil))) (pg_name (i := 6) sc_law_least.nd rfl (Or.inl rfl)) pss_bodyT)) ?_
      dsimp! [ekv]
      have hvwide := h.rm.wide hvR
      have hvin := h.rm.in_ hvR
      obtain ⟨tr, sh, fl, ex, htr, hsh, hfl⟩ := (hWF.dict k' htF) v hvR
      have hd' : DGet H' rw_ (.int (v.pl : Int)) (some v.x) := .inl ⟨_, Sum.inl (v.pl : Int), .inr ⟨o, k' _ _ ntr.symm hF⟩, rfl, (hA.get hvR).symm⟩
      refine ⟨v.x, hd', ?_⟩
      rw [ex]
      refine ⟨tr, _, _, _, rfl, rfl, SqT.of htr, rfl, sh, fl, v.e.t, rfl, hsh, fun H2 s2 => ⟨_, rfl, by omega, by omega, by omega, by omega, ?_⟩⟩
      rw [show ((v.pl : Int) + (v.e.t.size : Int) - (v.pl : Int)).toNat = v.e.t.size by omega]
      refine fw_range (fun j σ H3 => ∃ (o7 : Option V) (kvs : List (Key × V)), σ = [some (.ref rw_), some (.int (M.m : Nat)), some (.int (M.c : Nat)), some (.int (L : Nat)), some (.ref td), some (.int (v.pl : Int)), o7, none] ∧ Kp (· = td) HF H3 ∧ H3 td = some (.dK kvs) ∧ kvs.length ≤ i * 16 + j ∧ Tkn kvs fun p => (∃ v ∈ R.take i, v.pl ≤ p ∧ p < v.pl + v.e.t.size) ∨ (v.pl ≤ p ∧ p < v.pl + j))
        ⟨o7, kvs, rfl, k'.trans (Same.kp s2), s2 _ _ ht', hl', hT'.imp fun p => ⟨.inl, fun z => z.resolve_right fun y => by omega⟩⟩ ?_ ?_
      · rintro j σ H3 hj ⟨o7', kvs3, rfl, k3, ht3, hl3, hT3⟩
        refine gN ?_
        refine bodyT.of (pss_one (ps_dput (hu_of hr) (pv 4) (pv 6) pe_bl rfl)) ?_
        dsimp! []
        have ev : (v.pl : Int) + (j : Int) = ((v.pl + j : Nat) : Int) := by simp
        rw [ev]
        refine ⟨_, DPut.k (k := Sum.inl ((v.pl + j : Nat) : Int)) ht3 (small1000 (by omega)), k3.set rfl, _, upd_same, ?_, ?_⟩
        · have := length_putK kvs3 (Sum.inl ((v.pl + j : Nat) : Int)) (V.bl true)
          omega
        · refine (hT3.put (v.pl + j) (V.bl true)).imp fun p => ?_
          constructor
          · rintro ((z | z) | z)
            · exact .inl z
            · exact .inr (by omega)
            · exact .inr (by omega)
          · rintro (z | z)
            · exact .inl (.inl z)
            · by_cases y : p = v.pl + j
              · exact .inr y
              · exact .inl (.inr (by omega))
      · rintro σ H3 ⟨o7', kvs3, rfl, k3, ht3, hl3, hT3⟩
        refine ⟨_, _, rfl, k3, kvs3, ht3, by omega, hT3.imp fun p => ?_⟩
        rw [et]
        constructor
        · rintro (⟨u, hu, z⟩ | z)
          · exact ⟨u, List.mem_append_left _ hu, z⟩
          · exact ⟨v, List.mem_append_right _ (List.mem_singleton.mpr rfl), z.1, z.2⟩
        · rintro ⟨u, hu, z⟩
          rcases List.mem_append.mp hu with hu | hu
          · exact .inl ⟨u, hu, z⟩
          · rw [List.mem_singleton.mp hu] at z
            exact .inr z
    · rintro σ H' ⟨o4, o5, kvs, rfl, k', ht', hl', hT'⟩
      rw [List.length_map, List.take_length] at hT'
      refine .inr ⟨rw_, _, _, ⟨?_, ⟨o, k' _ _ ntr.symm hF⟩, rfl⟩, ?_⟩
      · intro o' u' z
        have z2 : H rw_ = some (HO.frz o' u') := z
        rw [h.di] at z2
        cases z2
      have k2 := hsm H' k'
      have ht2 : upd H' rw_ (.dK (R.map Rw.kv)) td = some (.dK kvs) := by
        rw [upd_ne ntr]
        exact ht'
      generalize upd H' rw_ (.dK (R.map Rw.kv)) = H2 at k2 ht2
      have s2 : Same H H2 := fun b u e => k2 b u (ne_of_none e htd) (s1 b u e)
      refine bodyT.of (pss_cons (ps_set (i := 7) sc_law_least.nd rfl (Or.inl rfl) pe_int) (pss_cons (ps_forW PassesOwn.never rfl (pi_range1 rfl T.n_range (pa_cons (pe_op op_mul (pv 1) (pv 2)) pa_nil)) (pg_name (i := 6) sc_law_least.nd rfl (Or.inl rfl)) pss_bodyT) pss_bodyT)) ?_
      dsimp! []
      have emc : (M.m : Int) * (M.c : Int) = ((M.m * M.c : Nat) : Int) := by simp
      have hxm := h.rm.mem.R.len
      rw [emc]
      refine ⟨.inr ⟨by omega, by omega⟩, by omega, by omega, ?_⟩
      rw [Int.toNat_natCast]
      refine fw_range (fun i σ H3 => H3 = H2 ∧ ∃ (o5 : Option V) (f : Nat), σ = [some (.ref rw_), some (.int (M.m : Nat)), some (.int (M.c : Nat)), some (.int (L : Nat)), some (.ref td), o4, o5, some (.int (f : Nat))] ∧ (∀ p, Fits xs M.c L p → i < p + L) ∧ f ≤ i ∧ f < L ∧ (i % M.c ≠ 0 → Run xs (i - 1) (i % M.c) f))
        ⟨rfl, o5, 0, rfl, fun p hp => by omega, Nat.le_refl _, hL0, fun z => absurd (Nat.zero_mod _) z⟩ ?_ ?_
      · rintro i σ H3 hi ⟨rfl, o5, f, rfl, hno, hfi, hfL, hRun⟩
        have em : (i : Int) % (M.c : Int) = ((i % M.c : Nat) : Int) := (Int.natCast_emod _ _).symm
        refine gN ?_
        refine bodyT.of (pss_cons (ps_set (i := 7) sc_law_least.nd rfl (Or.inl rfl) (pe_op op_add (pe_op op_mul (pv 7) (pe_callTy call_int1 rfl T.n_int bt_int (pa_cons (pe_cmpR op_gt (pe_op op_mod (pv 6) (pv 2)) pe_int (nomark _)) pa_nil))) pe_int)) (pss_cons (ps_if (pt_cmp (pc_din (hu_of hr) (pv 6) (pv 4))) (pss_one (ps_set (i := 7) sc_law_least.nd rfl (Or.inl rfl) pe_int)) pss_nil) (pss_one (ps_if (pt_cmpR op_eq (pv 7) (pv 3) (nomark _)) (pss_one (ps_ret (pe_op op_add (pe_op op_sub (pv 6) (pv 3)) pe_int))) pss_nil)))) ?_
        dsimp! [Int.zero_add, em]
        have hil : i < xs.length := by omega
        have ho : i % M.c ≤ i := Nat.mod_le _ _
        have nx : ∀ g, Run xs i (i % M.c + 1) g → ((i + 1) % M.c ≠ 0 → Run xs (i + 1 - 1) ((i + 1) % M.c) g) := fun g hg z => by
          have hb : i / M.c * M.c + i % M.c = i := by
            have := Nat.div_add_mod i M.c
            rw [Nat.mul_comm] at this
            exact this
          have hoff : i % M.c < M.c := Nat.mod_lt _ hc0
          have h1 : i % M.c + 1 < M.c := by
            by_cases y : i % M.c + 1 < M.c
            · exact y
            · exfalso
              apply z
              have : i % M.c + 1 = M.c := by omega
              rw [← hb, Nat.add_assoc, this, Nat.mul_comm, ← Nat.mul_succ]
              exact Nat.mul_mod_right _ _
          have e1 : (i + 1) / M.c = i / M.c := by
            apply Nat.div_eq_of_lt_le <;> (try rw [Nat.succ_mul]) <;> omega
          have e2 : (i + 1) % M.c = i % M.c + 1 := by
            have := Nat.div_add_mod (i + 1) M.c
            rw [e1, Nat.mul_comm] at this
            omega
          rw [e2]
          exact hg
        have ef : ((f : Int) * if decide ((0 : Int) < ((i % M.c : Nat) : Int)) = true then 1 else 0) + 1 = (((if i % M.c = 0 then 0 else f) + 1 : Nat) : Int) := by
          by_cases z : i % M.c = 0
          · rw [if_pos z, z]
            simp
          · rw [if_neg z, if_pos (decide_eq_true (by omega))]
            simp
        have hf2 : (if i % M.c = 0 then 0 else f) + 1 ≤ i + 1 := by split <;> omega
        refine ⟨by omega, .inr ⟨by split <;> omega, by split <;> omega⟩, _, DGet.k (k := Sum.inl (i : Int)) ht2, ite2 (fun hin => ?_) fun hin => ?_⟩
        · obtain ⟨v, hv, h5, h6⟩ := (hT' i).mp hin
          have hr := Run.stop ho (h.rm.full hv h5 h6)
          refine ite2 (fun he => absurd (of_decide_eq_true he) (by omega)) fun _ => ⟨0, rfl, lst_next hc0 hL0 hno hr hL0, by omega, hL0, nx 0 hr⟩
        · have hr := Run.step hRun ho (h.rm.free hil fun v hv z => hin ((hT' i).mpr ⟨v, hv, z.1, z.2⟩))
          have hg2 : (if i % M.c = 0 then 0 else f) + 1 ≤ L := by split <;> omega
          rw [ef]
          generalize (if i % M.c = 0 then 0 else f) + 1 = g at hr hf2 hg2
          refine ite2 (fun he => ?_) fun he => ?_
          · have he2 : g = L := by
              have := of_decide_eq_true he
              omega
            subst he2
            have hle := hr.1
            have hmd : i % M.c ≤ i := Nat.mod_le _ _
            have ev : (i : Int) - (g : Int) + 1 = ((i + 1 - g : Nat) : Int) := by omega
            rw [ev]
            exact q (some (i + 1 - g)) H3 s2 (lst_found hc0 hxm hil hL0 hno hr)
          · have he2 : g ≠ L := fun z => he (decide_eq_true (by rw [z]))
            exact ⟨g, rfl, lst_next hc0 hL0 hno hr (by omega), hf2, by omega, nx g hr⟩
      · rintro σ H3 ⟨rfl, o5, f, rfl, hno, hfi, hfL, hRun⟩
        refine bodyT.of (pss_one (ps_ret pe_non)) ?_
        dsimp! []
        exact q none H3 s2 fun p hp => by
          have h1 := hno p hp
          have h2 := hp.1
          omega
theorem iteN {c : Prop} [Decidable c] {A B : Prop} (h : ¬ c) (b : B) : if decide c = true then A else B := by
  rw [if_neg (by rw [decide_eq_false h]; exact Bool.false_ne_true)]
  exact b
theorem RM.dis {H : Hp} {M : MA} {xs : List V} {R : List Rw} (h : RM a K H M xs R) : R.Pairwise fun r q => r.pl + r.e.t.size ≤ q.pl ∨ q.pl + q.e.t.size ≤ r.pl := by
  refine (List.pairwise_map.mp h.mem.lay.dis).imp_of_mem fun {r q} hr hq z => ?_
  have h1 := (h.ok r hr).len
  have h2 := (h.ok q hq).len
  dsimp only [Rw.b] at z
  omega
theorem RM.rise {H : Hp} {M : MA} {xs : List V} {R L : List Rw} (h : RM a K H M xs R) (hp : L.Perm R) (hs : (L.map fun w => (w.pl : Int)).Pairwise (· ≤ ·)) : L.Pairwise fun r q => r.pl + r.e.t.size ≤ q.pl := by
  have h1 := (hp.pairwise_iff fun {r q} (z : r.pl + r.e.t.size ≤ q.pl ∨ q.pl + q.e.t.size ≤ r.pl) => z.symm).mpr h.dis
  have h2 := List.pairwise_map.mp hs
  refine (h1.and h2).imp_of_mem fun {r q} hr hq z => ?_
  have h3 := (h.in_ (hp.mem_iff.mp hr)).2
  have h4 := (h.in_ (hp.mem_iff.mp hq)).2
  omega
def sp_law_apart (a : Adr) (K : PySem.W.Frag) : Sp := fun vs H Q _ => ∃ M xs rw_ R, vs = [.ref M.p, .ref rw_, .int (M.c : Nat)] ∧ RL a K H M rw_ xs R ∧ R.length < 64 ∧ M.c ≤ 16 ∧ ∀ H', Same H H' → Q (.bl true) H'
theorem ok_law_apart (T : Txt K mg a) : FnOk P w K mg base CX0 4 a.a_law_apart a.d_law_apart ["_law_memory", "_law_rows", "_law_wide"] (sp_law_apart a K) := by
  refine T.f_law_apart.ok sc_law_apart (fun vs H Q E h => ?_) (fun cdv A outer s H vs Q E hr h => ?_)
  · obtain ⟨_, _, _, _, rfl, _⟩ := h
    rfl
  · obtain ⟨M, xs, rw_, R, rfl, h, hRl, hc16, q⟩ := h
    refine ⟨_, (pss_cons (ps_set (i := 3) sc_law_apart.nd rfl (Or.inl rfl) (pe_un un_neg pe_int)) (pss_cons (ps_forW PassesOwn.never rfl (pi_list (pe_meth0 (pv 0) T.cl_Memory T.me_Memory_places (ok_Memory_places T) (hr.mono (by decide)) T.b_Memory_places .nil pass0)) (pg_name (i := 4) sc_law_apart.nd rfl (Or.inl rfl)) pss_bodyT) pss_bodyT)), ?_⟩
    have hc0 : 0 < M.c := h.rm.mem.R.c0
    have hA := h.rm.nd
    have hxl : xs.length ≤ 1000 := by rw [h.rm.mem.R.len]; exact h.rm.mem.R.sm
    obtain ⟨dx0, hM0⟩ := h.rm.mem.ob
    have f0 := flM_no (pr := M.pr) (lb := M.lb) (n := "places")
    dsimp! [hM0, HO.ins.injEq, f0]
    refine ⟨M, xs, _, rfl, h.rm.mem, by rw [List.length_map]; exact hRl, fun l ns H1 s1 hl hl1 hp1 hs1 => ?_⟩
    rw [allP_b] at hp1
    obtain ⟨L, hL, eL⟩ := perm_lift hp1 R rfl
    subst eL
    have hrise := h.rm.rise hL hs1
    have h1 := h.same s1
    refine ⟨l, rfl, ⟨_, SqL.of hl1⟩, fw_list ((L.map fun w => (w.pl : Int)).map V.int) (fun i σ H2 => ∃ (la : Int) (o4 : Option V), σ = [some (.ref M.p), some (.ref rw_), some (.int (M.c : Nat)), some (.int la), o4] ∧ Same H1 H2 ∧ ∀ (j : Nat) v, L[j]? = some v → i ≤ j → la < (v.pl : Int))
      ⟨-1, none, rfl, .refl _, fun j v _ _ => by omega⟩ ?_ ?_ ?_⟩
    · rintro i σ H2 _ ⟨_, _, rfl, k2, _⟩
      exact SqL.of (k2 _ _ hl1)
    · rintro i x σ H2 hi ⟨la, o4, rfl, k2, hla⟩
      rw [List.getElem?_map, List.getElem?_map] at hi
      cases hv : L[i]? with
      | none => rw [hv] at hi; cases hi
      | some v =>
        rw [hv] at hi
        cases hi
        have hvR : v ∈ R := hL.mem_iff.mp (List.mem_of_getElem? hv)
        have h2 := h1.same k2
        obtain ⟨dx2, hM2⟩ := h2.rm.mem.ob
        have f2 := flM_no (pr := M.pr) (lb := M.lb) (n := "size_at")
        have hlt := hla i v hv (Nat.le_refl _)
        have hin := h.rm.in_ hvR
        have hone := (h.rm.mem.lay.one _ (List.mem_map.mpr ⟨v, hvR, rfl⟩)).2
        have hlen := (h.rm.ok v hvR).len
        have hg := (h2.rm.nd.get hvR) ▸ DGet.k (k := Sum.inl (v.pl : Int)) h2.di
        refine gN ?_
        refine bodyT.of (pss_cons (ps_if (PW.pt (pw_or (pt_cmp (pc_dnotin (hu_of hr) (pv 4) (pv 1))) (pw_or1 (pt_cmpR op_le (pv 4) (pv 3) (nomark _))))) (pss_one (ps_ret pe_bl)) pss_nil) (pss_cons (ps_set (i := 3) sc_law_apart.nd rfl (Or.inl rfl) (pe_op op_sub (pe_op op_add (pv 4) (pe_meth (pv 0) T.cl_Memory T.me_Memory_size_at (ok_Memory_size_at T) (hr.mono (by decide)) T.b_Memory_size_at .nil pass0 (pa_cons (pv 4) pa_nil))) pe_int)) (pss_one (ps_if (pt_cmpR op_ne (pe_op op_fdivL (pv 4) (pv 2)) (pe_op op_fdivL (pv 3) (pv 2)) (nomark _)) (pss_one (ps_ret pe_bl)) pss_nil)))) ?_
        dsimp! [hM2, HO.ins.injEq, f2]
        refine ⟨_, hg, iteF (iteN (by omega) ?_)⟩
        refine ⟨M, xs, _, v.pl, v.e, rfl, h2.rm.there hvR, _, rfl, .small (by omega) (by omega), .small (by omega) (by omega), ?_⟩
        have e1 : ((v.pl : Int) / (M.c : Int)) = ((v.pl : Int) + (v.e.t.size : Int) - 1) / (M.c : Int) := by
          dsimp only [Rw.b] at hone
          rw [hlen] at hone
          rw [show (v.pl : Int) + (v.e.t.size : Int) - 1 = ((v.pl + v.e.t.size - 1 : Nat) : Int) by omega, ← Int.natCast_ediv, ← Int.natCast_ediv, hone]
        rw [if_neg (by rw [decide_eq_true e1]; exact Bool.false_ne_true)]
        refine ⟨k2, fun j u hu hj => ?_⟩
        have hi2 := (List.getElem?_eq_some_iff.mp hv)
        have hj2 := (List.getElem?_eq_some_iff.mp hu)
        obtain ⟨hi3, rfl⟩ := hi2
        obtain ⟨hj3, rfl⟩ := hj2
        have := List.pairwise_iff_getElem.mp hrise i j hi3 hj3 (by omega)
        omega
    · rintro σ H2 ⟨la, o4, rfl, k2, hla⟩
      refine bodyT.of (pss_one (ps_ret (pe_cmpR op_eq (pe_callB call_len_seq rfl T.n_len bt_len (pa_cons (pe_meth0 (pv 0) T.cl_Memory T.me_Memory_places (ok_Memory_places T) (hr.mono (by decide)) T.b_Memory_places .nil pass0) pa_nil)) (pe_callB call_lenD rfl T.n_len bt_len (pa_cons (pv 1) pa_nil)) (nomark _)))) ?_
      have h2 := h1.same k2
      obtain ⟨dx2, hM2⟩ := h2.rm.mem.ob
      have f2 := flM_no (pr := M.pr) (lb := M.lb) (n := "places")
      dsimp! [hM2, HO.ins.injEq, f2]
      refine ⟨M, xs, _, rfl, h2.rm.mem, by rw [List.length_map]; exact hRl, fun l3 ns3 H3 s3 hl3 hl33 hp3 hs3 => ?_⟩
      rw [allP_b] at hp3
      refine ⟨l3, rfl, _, .inl (SqL.of hl33), _, (h2.same s3).di, ?_⟩
      have e3 : ((ns3.map V.int).length : Int) = ((R.map Rw.kv).length : Int) := by
        rw [List.length_map, List.length_map, hp3.length_eq, plsI_len]
      rw [decide_eq_true e3]
      exact q _ ((s1.trans k2).trans s3)
theorem iteP {c : Prop} [Decidable c] {A B : Prop} (h : c) (b : A) : if decide c = true then A else B := by
  rw [if_pos (decide_eq_true h)]
  exact b
theorem nPl {C : Prop} {x : Str} (h : x ≠ Str.ofString "plain") (z : decide (V.str x = V.str (Str.ofString "plain")) = true) : C := absurd (of_decide_eq_true z) fun y => h (V.str.inj y)
theorem cutT {ys : List V} {m : Nat} : cutV ys (some ((m : Nat) : Int)) none = ys.drop m := by
  unfold cutV
  rw [HT.sIx_none, HT.sIx_nat]
  by_cases h : m ≤ ys.length
  · rw [Nat.min_eq_left h, List.take_of_length_le (by rw [List.length_drop]; exact Nat.le_refl _)]
  · rw [Nat.min_eq_right (by omega), List.drop_length, List.drop_of_length_le (by omega)]
    simp
theorem fD_dep (x : V) : (fD x).dep ≤ 60 := by
  cases x <;> simp [fD, D.dep]
theorem kit_non_bool (K : PySem.W.Frag) : PySem.W.kitOne K (.type "NoneType") (.type "bool") = some false := kit_far K (by decide +kernel) (by decide +kernel) (by decide +kernel)
def sp_law_done (a : Adr) (K : PySem.W.Frag) : Sp := fun vs H Q _ => ∃ M xs rw_ R dr r0 r1 r2 r3 sh fl t ser, vs = [.ref M.p, .ref rw_, .ref dr, .ref sh, .int ser, .int (M.m : Nat), .int (M.c : Nat)] ∧ RL a K H M rw_ xs R ∧ H dr = some (.lst [.int r0, .int r1, .int r2, .int r3]) ∧ 0 ≤ r2 ∧ r2 < 1000 ∧ ShAt K H sh fl t ∧ ¬ M.own fl ∧ R.length ≤ 61 ∧ M.c ≤ 16 ∧
  ∀ H' xs' R', RL a K H' M rw_ xs' R' → Kp (fun b => M.own b ∨ b = rw_) H H' → R'.length ≤ R.length + 1 → Q (.bl true) H'
theorem ok_law_done (T : Txt K mg a) : FnOk P w K mg base CX0 10 a.a_law_done a.d_law_done ["_law_memory", "_law_rows", "_law_drawn_here", "_law_shape_here", "_law_serial", "_law_many", "_law_wide"] (sp_law_done a K) := by
  refine T.f_law_done.ok sc_law_done (fun vs H Q E h => ?_) (fun cdv A outer s H vs Q E hr h => ?_)
  · obtain ⟨_, _, _, _, _, _, _, _, _, _, _, _, _, rfl, _⟩ := h
    rfl
  · obtain ⟨M, xs, rw_, R, dr, r0, r1, r2, r3, sh, fl, t, ser, rfl, h, hdr, hr20, hr21, hs, hfl, hRl, hc16, q⟩ := h
    refine ⟨_, (pss_cons (ps_asg (pe_slice sl_list (pv 2) po_none (po_some pe_int)) (pg_lst (n := 3) rfl (pgs_cons (pg_name (i := 7) sc_law_done.nd rfl (Or.inl rfl)) (pgs_cons (pg_name (i := 8) sc_law_done.nd rfl (Or.inl rfl)) (pgs_cons (pg_name (i := 9) sc_law_done.nd rfl (Or.inl rfl)) pgs_nil))))) pss_bodyT), ?_⟩
    have hc0 : 0 < M.c := h.rm.mem.R.c0
    dsimp! []
    refine ⟨dr, _, rfl, SqL.of hdr, fun p hp => ?_⟩
    have ec : cutV [V.int r0, V.int r1, V.int r2, V.int r3] none (some 3) = [V.int r0, V.int r1, V.int r2] := rfl
    rw [ec]
    have s1 := Same.put (o := .lst [V.int r0, V.int r1, V.int r2]) hp
    refine ⟨p, rfl, _, SqL.of upd_same, rfl, _, _, rfl, _, _, rfl, _, _, rfl, rfl, ?_⟩
    have h1 := h.same s1
    have hs1 := hs.same s1
    generalize upd H p (.lst [V.int r0, V.int r1, V.int r2]) = H1 at s1 h1 hs1
    refine bodyT.of (pss_cons (ps_if (PW.pt (pw_or (pt_cmpR op_lt (pv 7) pe_int (nomark _)) (pw_or1 (pt_cmpR (op_eqE hr.units) (pv 1) pe_dnewK (nomark _))))) (pss_cons (ps_set (i := 10) sc_law_done.nd rfl (Or.inl rfl) (pe_call (ok_law_least T) (hr.mono (by decide)) rfl T.m_law_least T.f_law_least.kp T.b_law_least .nil pass0 (pa_cons (pv 1) (pa_cons (pv 5) (pa_cons (pv 6) (pa_cons (pe_call (ok_law_size T) (hr.mono (by decide)) rfl T.m_law_size T.f_law_size.kp T.b_law_size .nil pass0 (pa_cons (pv 3) pa_nil)) pa_nil)))))) pss_bodyT) pss_nil) pss_bodyT) ?_
    dsimp! []
    have hpos : 0 < t.size := by
      unfold Tg.size
      have := t.f2.1
      omega
    refine ite2 (fun _ => ?_) fun hw => ?_
    · refine ⟨sh, fl, t, rfl, hs1, fun H2 s2 => ⟨M, xs, rw_, R, t.size, rfl, h1.same s2, by omega, hc16, hpos, fun g H3 s3 hg => ?_⟩⟩
      have s03 := (s1.trans s2).trans s3
      have h3 := (h1.same s2).same s3
      have hs3 := (hs1.same s2).same s3
      obtain ⟨dx3, hM3⟩ := h3.rm.mem.ob
      have f3 := flM_no (pr := M.pr) (lb := M.lb) (n := "put_in")
      refine bodyT.of (pss_cons (ps_set (i := 11) sc_law_done.nd rfl (Or.inl rfl) (pe_meth (pv 0) T.cl_Memory T.me_Memory_put_in (ok_Memory_put_in T) (hr.mono (by decide)) T.b_Memory_put_in .nil pass0 (pa_cons (pe_call (ok_law_thing T) (hr.mono (by decide)) rfl T.m_law_thing T.f_law_thing.kp T.b_law_thing .nil pass0 (pa_cons (pv 3) pa_nil)) (pa_cons (pv 4) (pa_cons (pe_cmpR op_eq (pe_op op_mod (pv 8) pe_int) pe_int (nomark _)) pa_nil))))) (pss_cons (ps_if (PW.pt (pw_or (pt_cmpR (op_neD hr.units) (pv 11) (pv 10) (nomark _)) (pw_or1 (pt_val (pe_callB call_isinstS rfl T.n_isinstance bt_isinstance (pa_cons (pv 11) (pa_cons (pe_bltn (v := .ty "bool") rfl T.n_bool bt_bool rfl) pa_nil))))))) (pss_one (ps_ret pe_bl)) pss_nil) (pss_cons (ps_if (pt_cmpR op_notN (pv 10) pe_non (nomark _)) (pss_one (ps_dput (hu_of hr) (pv 1) (pv 10) (pe_tup (pa_cons (pv 3) (pa_cons (pv 4) (pa_cons (pe_cmpR op_eq (pe_op op_mod (pv 8) pe_int) pe_int (nomark _)) pa_nil)))) rfl)) pss_nil) (pss_one (ps_ret pe_bl))))) ?_
      dsimp! [hM3, HO.ins.injEq, f3]
      refine ⟨sh, fl, t, rfl, hs3, fun p4 d4 H4 s4 hp4 hd4 hT4 => ?_⟩
      have h4 := h3.same s4
      have hs4 := hs3.same s4
      have s04 := s03.trans s4
      refine ⟨by decide, M, xs, _, p4, d4, t, ser, _, rfl, h4.rm.mem, hT4, by have := hs.few; omega, by rw [List.length_map]; omega, ?_, ?_⟩
      · intro g5 cs5 H5 hg5 k5 hM5 hc5
        have eg := hg.one hg5
        subst eg
        show rEqD K true (V.int (g5 : Int)) (V.int (g5 : Int)) H5 _
        refine ⟨_, _, .flat rfl, .flat rfl, fD_dep _, ?_⟩
        rw [if_pos rfl, deq_refl]
        refine ⟨false, rfl, iteF ⟨_, .ty (.int _), _, kit_int_bool K, iteF ?_⟩⟩
        show _ ∧ _
        refine ⟨by decide, by simp [sizeLine_eq], fun t1 ht1 => ?_⟩
        have s6 := Same.put (o := .tup [V.ref sh, V.int ser, V.bl (decide (r1 % 2 = 1))]) ht1
        obtain ⟨hd6, R6, k6⟩ := h4.put hs4 hfl k5 hM5 hc5 s6 upd_same
        refine ⟨_, DPut.k (k := Sum.inl (g5 : Int)) hd6 (small1000 (by rw [List.length_map]; omega)), ?_⟩
        rw [putK_new _ (get_no (h4.rm.gap_no hg5.1 hpos))]
        exact q _ _ _ R6 ((Same.kp s04).trans k6) (by simp)
      · intro H5 hg5 s5
        have eg := hg.one hg5
        subst eg
        show rEqD K true V.non V.non H5 _
        refine ⟨_, _, .flat rfl, .flat rfl, fD_dep _, ?_⟩
        rw [if_pos rfl, deq_refl]
        refine ⟨false, rfl, iteF ⟨_, .ty .non, _, kit_non_bool K, iteF ?_⟩⟩
        exact q H5 xs R (h4.same s5) (Same.kp (s04.trans s5)) (by omega)
    · refine fun p2 hp2 => ?_
      have s2a := Same.put (o := .dK []) hp2
      have h2a := h1.same s2a
      have hs2a := hs1.same s2a
      have s02 := s1.trans s2a
      refine ⟨rw_, p2, _, rfl, rfl, h2a.di, upd_same, ?_⟩
      rw [if_neg Bool.false_ne_true]
      generalize upd H1 p2 (.dK []) = H2a at s2a h2a hs2a s02
      refine ⟨_, rfl, ite2 (fun hk => ?_) fun hk => ?_⟩
      · refine ⟨sh, fl, t, rfl, hs2a, fun H2 s2 => ⟨M, xs, rw_, R, t.size, rfl, h2a.same s2, by omega, hc16, hpos, fun g H3 s3 hg => ?_⟩⟩
        have s03 := (s02.trans s2).trans s3
        have h3 := (h2a.same s2).same s3
        have hs3 := (hs2a.same s2).same s3
        obtain ⟨dx3, hM3⟩ := h3.rm.mem.ob
        have f3 := flM_no (pr := M.pr) (lb := M.lb) (n := "put_in")
        refine bodyT.of (pss_cons (ps_set (i := 11) sc_law_done.nd rfl (Or.inl rfl) (pe_meth (pv 0) T.cl_Memory T.me_Memory_put_in (ok_Memory_put_in T) (hr.mono (by decide)) T.b_Memory_put_in .nil pass0 (pa_cons (pe_call (ok_law_thing T) (hr.mono (by decide)) rfl T.m_law_thing T.f_law_thing.kp T.b_law_thing .nil pass0 (pa_cons (pv 3) pa_nil)) (pa_cons (pv 4) (pa_cons (pe_cmpR op_eq (pe_op op_mod (pv 8) pe_int) pe_int (nomark _)) pa_nil))))) (pss_cons (ps_if (PW.pt (pw_or (pt_cmpR (op_neD hr.units) (pv 11) (pv 10) (nomark _)) (pw_or1 (pt_val (pe_callB call_isinstS rfl T.n_isinstance bt_isinstance (pa_cons (pv 11) (pa_cons (pe_bltn (v := .ty "bool") rfl T.n_bool bt_bool rfl) pa_nil))))))) (pss_one (ps_ret pe_bl)) pss_nil) (pss_cons (ps_if (pt_cmpR op_notN (pv 10) pe_non (nomark _)) (pss_one (ps_dput (hu_of hr) (pv 1) (pv 10) (pe_tup (pa_cons (pv 3) (pa_cons (pv 4) (pa_cons (pe_cmpR op_eq (pe_op op_mod (pv 8) pe_int) pe_int (nomark _)) pa_nil)))) rfl)) pss_nil) (pss_one (ps_ret pe_bl))))) ?_
        dsimp! [hM3, HO.ins.injEq, f3]
        refine ⟨sh, fl, t, rfl, hs3, fun p4 d4 H4 s4 hp4 hd4 hT4 => ?_⟩
        have h4 := h3.same s4
        have hs4 := hs3.same s4
        have s04 := s03.trans s4
        refine ⟨by decide, M, xs, _, p4, d4, t, ser, _, rfl, h4.rm.mem, hT4, by have := hs.few; omega, by rw [List.length_map]; omega, ?_, ?_⟩
        · intro g5 cs5 H5 hg5 k5 hM5 hc5
          have eg := hg.one hg5
          subst eg
          show rEqD K true (V.int (g5 : Int)) (V.int (g5 : Int)) H5 _
          refine ⟨_, _, .flat rfl, .flat rfl, fD_dep _, ?_⟩
          rw [if_pos rfl, deq_refl]
          refine ⟨false, rfl, iteF ⟨_, .ty (.int _), _, kit_int_bool K, iteF ?_⟩⟩
          show _ ∧ _
          refine ⟨by decide, by simp [sizeLine_eq], fun t1 ht1 => ?_⟩
          have s6 := Same.put (o := .tup [V.ref sh, V.int ser, V.bl (decide (r1 % 2 = 1))]) ht1
          obtain ⟨hd6, R6, k6⟩ := h4.put hs4 hfl k5 hM5 hc5 s6 upd_same
          refine ⟨_, DPut.k (k := Sum.inl (g5 : Int)) hd6 (small1000 (by rw [List.length_map]; omega)), ?_⟩
          rw [putK_new _ (get_no (h4.rm.gap_no hg5.1 hpos))]
          exact q _ _ _ R6 ((Same.kp s04).trans k6) (by simp)
        · intro H5 hg5 s5
          have eg := hg.one hg5
          subst eg
          show rEqD K true V.non V.non H5 _
          refine ⟨_, _, .flat rfl, .flat rfl, fD_dep _, ?_⟩
          rw [if_pos rfl, deq_refl]
          refine ⟨false, rfl, iteF ⟨_, .ty .non, _, kit_non_bool K, iteF ?_⟩⟩
          exact q H5 xs R (h4.same s5) (Same.kp (s04.trans s5)) (by omega)
      · have hpos2 : 0 < R.length := by
          cases R with
          | nil => simp at hk
          | cons => simp
        refine bodyT.of (pss_cons (ps_set (i := 11) sc_law_done.nd rfl (Or.inl rfl) (pe_ix ix_list (pe_callB (call_sortedD rfl) rfl T.n_sorted bt_sorted (pa_cons (pv 1) pa_nil)) (pe_op op_mod (pv 8) (pe_callB call_lenD rfl T.n_len bt_len (pa_cons (pv 1) pa_nil))) (fun _ _ => rfl))) pss_bodyT) ?_
        dsimp! []
        refine ⟨_, .inl h2a.di, plsI R, keys_kv R, by rw [plsI_len]; omega, fun l ms hl hp hs => ?_⟩
        obtain ⟨L, hL, eL⟩ := perm_lift hp R rfl
        subst eL
        have hLl := hL.length_eq
        have s9 := Same.put (o := .lst ((L.map fun w => (w.pl : Int)).map V.int)) hl
        have R9 := h2a.same s9
        have hl9 : upd H2a l (.lst ((L.map fun w => (w.pl : Int)).map V.int)) l = some (.lst ((L.map fun w => (w.pl : Int)).map V.int)) := upd_same
        have s09 := s02.trans s9
        generalize upd H2a l (.lst ((L.map fun w => (w.pl : Int)).map V.int)) = H9 at s9 R9 hl9 s09
        have c0 := Int.emod_nonneg r1 (show ((R.length : Nat) : Int) ≠ 0 by omega)
        have c1 := Int.emod_lt_of_pos r1 (show (0 : Int) < ((R.length : Nat) : Int) by omega)
        obtain ⟨j, ej, hj⟩ : ∃ j : Nat, r1 % ((R.length : Nat) : Int) = (j : Int) ∧ j < L.length := ⟨(r1 % ((R.length : Nat) : Int)).toNat, by omega, by omega⟩
        obtain ⟨w, hwj⟩ : ∃ w, L[j] = w := ⟨_, rfl⟩
        have hwR : w ∈ R := hL.mem_iff.mp (by rw [← hwj]; exact List.getElem_mem hj)
        have hatj : atI ((L.map fun w => (w.pl : Int)).map V.int) (r1 % ((R.map Rw.kv).length : Int)) = some (V.int (w.pl : Int)) := by
          rw [List.length_map, ej]
          exact atI_nat (by rw [List.getElem?_map, List.getElem?_map, List.getElem?_eq_getElem hj, hwj]; rfl)
        obtain ⟨tr, sh2, fl2, ex, htr, hsh, hfl2⟩ := R9.row w hwR
        have hgt := (R9.rm.nd.get hwR) ▸ DGet.k (k := Sum.inl (w.pl : Int)) R9.di
        refine ⟨_, R9.di, by rw [List.length_map]; omega, l, _, _, _, rfl, rfl, SqL.of hl9, hatj, ?_⟩
        refine bodyT.of (pss_cons (ps_asg (pe_dget (hu_of hr) (pv 1) (pv 11) (fun _ _ => rfl)) (pg_tup (n := 3) rfl (pgs_cons (pg_name (i := 3) sc_law_done.nd rfl (Or.inl rfl)) (pgs_cons (pg_name (i := 4) sc_law_done.nd rfl (Or.inl rfl)) (pgs_cons (pg_name (i := 12) sc_law_done.nd rfl (Or.inl rfl)) pgs_nil))))) pss_bodyT) ?_
        dsimp! []
        rw [ex] at hgt
        refine ⟨_, hgt, tr, rfl, _, SqT.of htr, rfl, _, _, rfl, _, _, rfl, _, _, rfl, rfl, ?_⟩
        refine bodyT.of (pss_cons (ps_if (pt_cmpR op_eq (pv 7) pe_int (nomark _)) (pss_cons (ps_expr (pe_meth (pv 0) T.cl_Memory T.me_Memory_take_out (ok_Memory_take_out T) (hr.mono (by decide)) T.b_Memory_take_out .nil pass0 (pa_cons (pv 11) pa_nil))) pss_bodyT) (pss_one (ps_if (pt_cmpR op_eq (pv 7) pe_int (nomark _)) (pss_cons (ps_expr (pe_meth (pv 0) T.cl_Memory T.me_Memory_set_mark (ok_Memory_set_mark T) (hr.mono (by decide)) T.b_Memory_set_mark .nil pass0 (pa_cons (pv 11) (pa_cons (pe_not (pv 12)) pa_nil)))) pss_bodyT) (pss_one (ps_if (PW.pt (pw_and (pt_cmpR op_eq (pe_ix ix_tup (pv 3) pe_int (fun _ _ => rfl)) pe_str (nomark _)) (pw_and1 (PW.pt (pw_or (pt_cmpR op_eq (pv 7) pe_int (nomark _)) (pw_or1 (pt_cmpR (op_eqD hr.units) (pe_ix ix_tup (pv 3) pe_int (fun _ _ => rfl)) (pe_lst pa_nil) (nomark _)))))))) (pss_cons (ps_set (i := 13) sc_law_done.nd rfl (Or.inl rfl) (pe_ix ix_list (pe_lst (pa_cons pe_non (pa_cons (pv 9) pa_nil))) (pe_op op_mod (pv 9) pe_int) (fun _ _ => rfl))) pss_bodyT) (pss_cons (ps_set (i := 14) sc_law_done.nd rfl (Or.inl rfl) (pe_op op_mod (pv 9) (pe_callB call_len_seq rfl T.n_len bt_len (pa_cons (pe_ix ix_tup (pv 3) pe_int (fun _ _ => rfl)) pa_nil)))) pss_bodyT)))))) (pss_one (ps_ret pe_bl))) ?_
        dsimp! []
        obtain ⟨dx9, hM9⟩ := R9.rm.mem.ob
        have mu0 : ∀ b, b = M.d → Mu H9 b := fun b e => .inl ⟨xs, by rw [e]; exact R9.rm.mem.R.li⟩
        have hRk : (R.map Rw.kv).length ≤ 61 := by rw [List.length_map]; exact hRl
        refine ite2 (fun _ => ?_) fun _ => ite2 (fun _ => ?_) fun _ => ?_
        · refine ⟨_, _, hM9, flM_no, M, xs, _, w.pl, w.e, rfl, R9.rm.there hwR, fun H10 k10 hM10 => ?_⟩
          refine bodyT.of (pss_one (ps_expr (pe_dpop1 (pv 1) (pv 11) ⟨rfl, rfl, rfl, rfl⟩))) ?_
          dsimp! []
          obtain ⟨hd10, R11, k11⟩ := R9.out k10 hM10
          refine ⟨.inl ⟨_, .inl hd10⟩, _, hd10, Sum.inl (w.pl : Int), rfl, w.x, R9.rm.nd.get hwR, ?_⟩
          exact q _ _ _ R11 ((Same.kp s09).trans k11) (by have := off_len R w.pl; omega)
        · refine ⟨_, _, hM9, flM_no, M, xs, _, w.pl, w.e, _, rfl, R9.rm.there hwR, fun H10 xs' cs' k10 hM10 hc10 => ?_⟩
          refine bodyT.of (pss_one (ps_dput (hu_of hr) (pv 1) (pv 11) (pe_tup (pa_cons (pv 3) (pa_cons (pv 4) (pa_cons (pe_not (pv 12)) pa_nil)))) rfl)) ?_
          dsimp! []
          refine ⟨by simp [sizeLine_eq], fun t1 ht1 => ?_⟩
          have s11 := Same.put (o := .tup [V.ref sh2, V.int w.e.ser, V.bl !w.e.mkd]) ht1
          have hsh10 := (hsh.kp k10 mu0 (fun z => hfl2 (.inl z))).same s11
          obtain ⟨hd12, R12, k12⟩ := R9.change hwR k10 hM10 hc10 s11 ⟨t1, sh2, fl2, rfl, upd_same, hsh10, hfl2⟩
          refine ⟨_, DPut.k (k := Sum.inl (w.pl : Int)) hd12 (small1000 (by omega)), ?_⟩
          exact q _ _ _ R12 ((Same.kp s09).trans k12) (by rw [chg_len]; omega)
        · obtain ⟨h1s, fx9, h2s, h3s, h4s⟩ := id hsh
          refine ⟨sh2, _, _, _, rfl, rfl, SqT.of h1s, rfl, rfl, ?_⟩
          cases hwt : w.e.t with
          | plain fs wd =>
            have hsh' := hsh
            rw [hwt] at hsh'
            refine iteP rfl ?_
            refine ite2 (fun _ => ?_) fun _ => ?_
            · refine ⟨by simp [sizeLine_eq], fun pW hpW => ⟨by decide, ?_⟩⟩
              have sW := Same.put (o := .lst [V.non, V.int r2]) hpW
              obtain ⟨w', hw'⟩ : ∃ w', atI [V.non, V.int r2] (r2 % 2) = some (wV w') := by
                rcases (by omega : r2 % 2 = 0 ∨ r2 % 2 = 1) with e | e <;> rw [e]
                · exact ⟨none, rfl⟩
                · exact ⟨some r2, rfl⟩
              refine ⟨pW, _, _, _, rfl, rfl, SqL.of upd_same, hw', ?_⟩
              have RW := R9.same sW
              have s0W := s09.trans sW
              have hsW := hsh'.same sW
              generalize upd _ pW (.lst [V.non, V.int r2]) = HW at sW RW s0W hsW
              refine bodyT.of (pss_cons (ps_expr (pe_meth (pv 0) T.cl_Memory T.me_Memory_set_words (ok_Memory_set_words T) (hr.mono (by decide)) T.b_Memory_set_words .nil pass0 (pa_cons (pv 11) (pa_cons (pv 13) pa_nil)))) (pss_one (ps_dput (hu_of hr) (pv 1) (pv 11) (pe_tup (pa_cons (pe_tup (pa_cons (pe_ix ix_tup (pv 3) pe_int (fun _ _ => rfl)) (pa_cons (pe_ix ix_tup (pv 3) pe_int (fun _ _ => rfl)) (pa_cons (pv 13) pa_nil)))) (pa_cons (pv 4) (pa_cons (pv 12) pa_nil)))) rfl))) ?_
              obtain ⟨dxW, hMW⟩ := RW.rm.mem.ob
              have fW := flM_no (pr := M.pr) (lb := M.lb) (n := "set_words")
              have muW : ∀ b, b = M.d → Mu HW b := fun b e => .inl ⟨xs, by rw [e]; exact RW.rm.mem.R.li⟩
              dsimp! [hMW, HO.ins.injEq, fW]
              have thW : There a K HW M xs (R.map Rw.b) w.pl (⟨.plain fs wd, w.e.ser, w.e.mkd⟩ : En) := by
                rw [← hwt]
                exact RW.rm.there hwR
              refine ⟨M, xs, _, w.pl, fs, wd, _, _, w', rfl, thW, fun H10 xs' cs' k10 hM10 hc10 => ?_⟩
              have hs10 := hsW.kp k10 muW (fun z => hfl2 (.inl z))
              obtain ⟨h1s, fx, h2s, h3s, h4s⟩ := id hs10
              refine ⟨sh2, _, _, _, rfl, rfl, SqT.of h1s, rfl, sh2, _, _, _, rfl, rfl, SqT.of h1s, rfl, by simp [sizeLine_eq], fun pA hpA => ⟨by simp [sizeLine_eq], fun pB hpB => ?_⟩⟩
              have sA := Same.put (o := .tup [V.str (Tg.plain fs wd).sort, V.ref fl2, wV w']) hpA
              have sB := Same.put (o := .tup [V.ref pA, V.int w.e.ser, V.bl w.e.mkd]) hpB
              have sAB := sA.trans sB
              have hs12 := hs10.same sAB
              obtain ⟨h1t, fy, h2t, h3t, h4t⟩ := id hs12
              obtain ⟨hd12, R12, k12⟩ := RW.change hwR k10 hM10 hc10 sAB ⟨pB, pA, fl2, rfl, upd_same, ⟨sB _ _ upd_same, fy, h2t, h3t, h4t⟩, hfl2⟩
              refine ⟨_, DPut.k (k := Sum.inl (w.pl : Int)) hd12 (small1000 (by omega)), ?_⟩
              exact q _ _ _ R12 ((Same.kp s0W).trans k12) (by rw [chg_len]; omega)
            · refine ⟨sh2, _, _, _, rfl, rfl, SqT.of h1s, rfl, fun pE hpE => ?_⟩
              have sE := Same.put (o := .lst []) hpE
              rw [hwt] at h3s
              refine ⟨_, _, VlL.isD (SqL.of (sE _ _ h2s)) (h3s.same sE), .flatL (SqL.of upd_same) (flat_ints []), lst_dep _, ?_⟩
              have RE := R9.same sE
              have s0E := s09.trans sE
              have hsE := hsh'.same sE
              generalize upd H9 pE (.lst []) = HE at sE RE s0E hsE
              rw [if_neg Bool.false_ne_true]
              refine ⟨_, rfl, ite2 (fun hk => ?_) fun hk => ?_⟩
              · refine ⟨by simp [sizeLine_eq], fun pW hpW => ⟨by decide, ?_⟩⟩
                have sW := Same.put (o := .lst [V.non, V.int r2]) hpW
                obtain ⟨w', hw'⟩ : ∃ w', atI [V.non, V.int r2] (r2 % 2) = some (wV w') := by
                  rcases (by omega : r2 % 2 = 0 ∨ r2 % 2 = 1) with e | e <;> rw [e]
                  · exact ⟨none, rfl⟩
                  · exact ⟨some r2, rfl⟩
                refine ⟨pW, _, _, _, rfl, rfl, SqL.of upd_same, hw', ?_⟩
                have RW := RE.same sW
                have s0W := s0E.trans sW
                have hsW := hsE.same sW
                generalize upd _ pW (.lst [V.non, V.int r2]) = HW at sW RW s0W hsW
                refine bodyT.of (pss_cons (ps_expr (pe_meth (pv 0) T.cl_Memory T.me_Memory_set_words (ok_Memory_set_words T) (hr.mono (by decide)) T.b_Memory_set_words .nil pass0 (pa_cons (pv 11) (pa_cons (pv 13) pa_nil)))) (pss_one (ps_dput (hu_of hr) (pv 1) (pv 11) (pe_tup (pa_cons (pe_tup (pa_cons (pe_ix ix_tup (pv 3) pe_int (fun _ _ => rfl)) (pa_cons (pe_ix ix_tup (pv 3) pe_int (fun _ _ => rfl)) (pa_cons (pv 13) pa_nil)))) (pa_cons (pv 4) (pa_cons (pv 12) pa_nil)))) rfl))) ?_
                obtain ⟨dxW, hMW⟩ := RW.rm.mem.ob
                have fW := flM_no (pr := M.pr) (lb := M.lb) (n := "set_words")
                have muW : ∀ b, b = M.d → Mu HW b := fun b e => .inl ⟨xs, by rw [e]; exact RW.rm.mem.R.li⟩
                dsimp! [hMW, HO.ins.injEq, fW]
                have thW : There a K HW M xs (R.map Rw.b) w.pl (⟨.plain fs wd, w.e.ser, w.e.mkd⟩ : En) := by
                  rw [← hwt]
                  exact RW.rm.there hwR
                refine ⟨M, xs, _, w.pl, fs, wd, _, _, w', rfl, thW, fun H10 xs' cs' k10 hM10 hc10 => ?_⟩
                have hs10 := hsW.kp k10 muW (fun z => hfl2 (.inl z))
                obtain ⟨h1s, fx, h2s, h3s, h4s⟩ := id hs10
                refine ⟨sh2, _, _, _, rfl, rfl, SqT.of h1s, rfl, sh2, _, _, _, rfl, rfl, SqT.of h1s, rfl, by simp [sizeLine_eq], fun pA hpA => ⟨by simp [sizeLine_eq], fun pB hpB => ?_⟩⟩
                have sA := Same.put (o := .tup [V.str (Tg.plain fs wd).sort, V.ref fl2, wV w']) hpA
                have sB := Same.put (o := .tup [V.ref pA, V.int w.e.ser, V.bl w.e.mkd]) hpB
                have sAB := sA.trans sB
                have hs12 := hs10.same sAB
                obtain ⟨h1t, fy, h2t, h3t, h4t⟩ := id hs12
                obtain ⟨hd12, R12, k12⟩ := RW.change hwR k10 hM10 hc10 sAB ⟨pB, pA, fl2, rfl, upd_same, ⟨sB _ _ upd_same, fy, h2t, h3t, h4t⟩, hfl2⟩
                refine ⟨_, DPut.k (k := Sum.inl (w.pl : Int)) hd12 (small1000 (by omega)), ?_⟩
                exact q _ _ _ R12 ((Same.kp s0W).trans k12) (by rw [chg_len]; omega)
              · obtain ⟨h1s, fx, h2s, h3s, h4s⟩ := id hsE
                have hfxl : 0 < fx.length := by
                  rw [← h3s.1]
                  cases fs with
                  | nil => exact absurd (by simp [deq, deqs, Tg.fs]) hk
                  | cons => simp [Tg.fs]
                have hfsl : (Tg.plain fs wd).fs.length = fx.length := h3s.1
                refine ⟨sh2, _, _, _, rfl, rfl, SqT.of h1s, rfl, fl2, rfl, fx, .inl (SqL.of h2s), by omega, ?_⟩
                refine bodyT.of (pss_cons (ps_expr (pe_meth (pv 0) T.cl_Memory T.me_Memory_set_field (ok_Memory_set_field T) (hr.mono (by decide)) T.b_Memory_set_field .nil pass0 (pa_cons (pv 11) (pa_cons (pv 14) (pa_cons (pe_tup (pa_cons pe_str (pa_cons (pv 11) pa_nil))) pa_nil))))) pss_bodyT) ?_
                obtain ⟨dxF, hMF⟩ := RE.rm.mem.ob
                have fF := flM_no (pr := M.pr) (lb := M.lb) (n := "set_field")
                have muF : ∀ b, b = M.d → Mu _ b := fun b e => .inl ⟨xs, by rw [e]; exact RE.rm.mem.R.li⟩
                have d0 := Int.emod_nonneg r2 (show ((fx.length : Nat) : Int) ≠ 0 by omega)
                have d1 := Int.emod_lt_of_pos r2 (show (0 : Int) < ((fx.length : Nat) : Int) by omega)
                obtain ⟨sp, esp, hsp⟩ : ∃ sp : Nat, r2 % ((fx.length : Nat) : Int) = (sp : Int) ∧ sp < fx.length := ⟨(r2 % ((fx.length : Nat) : Int)).toNat, by omega, by omega⟩
                dsimp! [hMF, HO.ins.injEq, fF, esp]
                refine ⟨by simp [sizeLine_eq], fun pV hpV => ?_⟩
                have sV := Same.put (o := .tup [V.str "thing", V.int (w.pl : Int)]) hpV
                have RV := RE.same sV
                have hsV := hsE.same sV
                have s0V := s0E.trans sV
                have hpV1 : upd HE pV (.tup [V.str "thing", V.int (w.pl : Int)]) pV = some (.tup [V.str "thing", V.int (w.pl : Int)]) := upd_same
                have hspf : sp < (Tg.plain fs wd).fs.length := by rw [hfsl]; exact hsp
                refine ⟨M, xs, _, w.pl, w.e, sp, _, Vl.th (w.pl : Int), rfl, RV.rm.there hwR, by rw [hwt]; exact hspf, ⟨pV, rfl, SqT.of hpV1⟩, fun H10 xs' cs' k10 hM10 hc10 => ?_⟩
                generalize upd HE pV (.tup [V.str "thing", V.int (w.pl : Int)]) = HV at sV RV hsV s0V hpV1 k10
                have muV : ∀ b, b = M.d → Mu HV b := fun b e => .inl ⟨xs, by rw [e]; exact RV.rm.mem.R.li⟩
                have hs10 := hsV.kp k10 muV (fun z => hfl2 (.inl z))
                clear h1s h2s h3s h4s
                rw [hwt] at hc10
                refine bodyT.of (pss_one (ps_dput (hu_of hr) (pv 1) (pv 11) (pe_tup (pa_cons (pe_tup (pa_cons (pe_ix ix_tup (pv 3) pe_int (fun _ _ => rfl)) (pa_cons (pe_op op_catS (pe_op op_catS (pe_slice sl_list (pe_ix ix_tup (pv 3) pe_int (fun _ _ => rfl)) po_none (po_some (pv 14))) (pe_lst (pa_cons (pe_tup (pa_cons pe_str (pa_cons (pv 11) pa_nil))) pa_nil))) (pe_slice sl_list (pe_ix ix_tup (pv 3) pe_int (fun _ _ => rfl)) (po_some (pe_op op_add (pv 14) pe_int)) po_none)) (pa_cons (pe_ix ix_tup (pv 3) pe_int (fun _ _ => rfl)) pa_nil)))) (pa_cons (pv 4) (pa_cons (pv 12) pa_nil)))) rfl)) ?_
                dsimp! []
                obtain ⟨h1s, fy, h2s, h3s, h4s⟩ := id hs10
                have hspy : sp < fy.length := by rw [← h3s.1]; exact hspf
                refine ⟨sh2, _, _, _, rfl, rfl, SqT.of h1s, rfl, sh2, _, _, _, rfl, rfl, SqT.of h1s, rfl, fl2, _, rfl, SqL.of h2s, fun pA hpA => ⟨by simp [sizeLine_eq], fun pT hpT => ⟨by simp [sizeLine_eq], fun pB hpB => ?_⟩⟩⟩
                rw [cut0] at hpT hpB ⊢
                have sA := Same.put (o := .lst (fy.take sp)) hpA
                have sT := Same.put (o := .tup [V.str "thing", V.int (w.pl : Int)]) hpT
                have sB := Same.put (o := .lst [V.ref pT]) hpB
                refine ⟨pA, pB, _, _, rfl, rfl, SqL.of ((sT.trans sB) _ _ upd_same), SqL.of upd_same, by simp [sizeLine_eq]; omega, fun pC hpC => ?_⟩
                have sC := Same.put (o := .lst (fy.take sp ++ [V.ref pT])) hpC
                have s3 := ((sA.trans sT).trans sB).trans sC
                have hT3 := (sB.trans sC) pT (.tup [V.str "thing", V.int (w.pl : Int)]) upd_same
                have hC3 : upd (upd (upd (upd H10 pA (.lst (fy.take sp))) pT (.tup [V.str "thing", V.int (w.pl : Int)])) pB (.lst [V.ref pT])) pC (.lst (fy.take sp ++ [V.ref pT])) pC = some (.lst (fy.take sp ++ [V.ref pT])) := upd_same
                generalize upd (upd (upd (upd H10 pA (.lst (fy.take sp))) pT (.tup [V.str "thing", V.int (w.pl : Int)])) pB (.lst [V.ref pT])) pC (.lst (fy.take sp ++ [V.ref pT])) = H11 at s3 hT3 hC3
                refine ⟨sh2, _, _, _, rfl, rfl, SqT.of (s3 _ _ h1s), rfl, fl2, _, rfl, SqL.of (s3 _ _ h2s), fun pD hpD => ?_⟩
                rw [show ((sp : Int) + 1) = ((sp + 1 : Nat) : Int) by simp, cutT]
                have sD := Same.put (o := .lst (fy.drop (sp + 1))) hpD
                have eS : (fy.take sp ++ [V.ref pT]) ++ fy.drop (sp + 1) = fy.set sp (V.ref pT) := by
                  rw [List.set_eq_take_append_cons_drop, if_pos hspy, List.append_assoc]
                  rfl
                refine ⟨pC, pD, _, _, rfl, rfl, SqL.of (sD _ _ hC3), SqL.of upd_same, by simp [sizeLine_eq]; omega, fun pE hpE => ?_⟩
                rw [eS]
                have sE := Same.put (o := .lst (fy.set sp (V.ref pT))) hpE
                have s4 := (s3.trans sD).trans sE
                have hpE0 : H10 pE = none := (s3.trans sD).free hpE
                have hT4 := (sD.trans sE) _ _ hT3
                have hE4 : upd (upd H11 pD (.lst (fy.drop (sp + 1)))) pE (.lst (fy.set sp (V.ref pT))) pE = some (.lst (fy.set sp (V.ref pT))) := upd_same
                generalize upd (upd H11 pD (.lst (fy.drop (sp + 1)))) pE (.lst (fy.set sp (V.ref pT))) = H12 at s4 hT4 hE4
                refine ⟨sh2, _, _, _, rfl, rfl, SqT.of (s4 _ _ h1s), rfl, by simp [sizeLine_eq], fun pF hpF => ⟨by simp [sizeLine_eq], fun pG hpG => ?_⟩⟩
                have sF := Same.put (o := .tup [V.str (Tg.plain fs wd).sort, V.ref pE, wV (Tg.plain fs wd).words]) hpF
                have sG := Same.put (o := .tup [V.ref pF, V.int w.e.ser, V.bl w.e.mkd]) hpG
                have s5 := s4.trans (sF.trans sG)
                have eso := Tg.setF_sort (Tg.plain fs wd) sp (Vl.th (w.pl : Int))
                obtain ⟨hd12, R12, k12⟩ := RV.change hwR k10 hM10 hc10 s5 ⟨pG, pF, pE, rfl, upd_same, ⟨by rw [eso.1, eso.2.1]; exact sG _ _ upd_same, fy.set sp (V.ref pT), (sF.trans sG) _ _ hE4, by rw [Tg.setF_fs hspf]; exact (h3s.same s5).set ⟨pT, rfl, SqT.of ((sF.trans sG) _ _ hT4)⟩, by rw [List.length_set]; exact h4s⟩, hM10.nown hpE0⟩
                refine ⟨_, DPut.k (k := Sum.inl (w.pl : Int)) hd12 (small1000 (by omega)), ?_⟩
                exact q _ _ _ R12 ((Same.kp s0V).trans k12) (by rw [chg_len]; omega)
          | weak f =>
            have hsh' := hsh
            rw [hwt] at hsh'
            refine ite2 (fun z => nPl (show Str.ofString "weak" ≠ Str.ofString "plain" by decide) z) fun _ => ?_
            obtain ⟨h1s, fx, h2s, h3s, h4s⟩ := id hsh'
            have hfxl : 0 < fx.length := by rw [← h3s.1]; exact Nat.zero_lt_one
            have hfsl : (Tg.weak f).fs.length = fx.length := h3s.1
            refine ⟨sh2, _, _, _, rfl, rfl, SqT.of h1s, rfl, fl2, rfl, fx, .inl (SqL.of h2s), by omega, ?_⟩
            refine bodyT.of (pss_cons (ps_expr (pe_meth (pv 0) T.cl_Memory T.me_Memory_set_field (ok_Memory_set_field T) (hr.mono (by decide)) T.b_Memory_set_field .nil pass0 (pa_cons (pv 11) (pa_cons (pv 14) (pa_cons (pe_tup (pa_cons pe_str (pa_cons (pv 11) pa_nil))) pa_nil))))) pss_bodyT) ?_
            obtain ⟨dxF, hMF⟩ := R9.rm.mem.ob
            have fF := flM_no (pr := M.pr) (lb := M.lb) (n := "set_field")
            have muF : ∀ b, b = M.d → Mu _ b := fun b e => .inl ⟨xs, by rw [e]; exact R9.rm.mem.R.li⟩
            have d0 := Int.emod_nonneg r2 (show ((fx.length : Nat) : Int) ≠ 0 by omega)
            have d1 := Int.emod_lt_of_pos r2 (show (0 : Int) < ((fx.length : Nat) : Int) by omega)
            obtain ⟨sp, esp, hsp⟩ : ∃ sp : Nat, r2 % ((fx.length : Nat) : Int) = (sp : Int) ∧ sp < fx.length := ⟨(r2 % ((fx.length : Nat) : Int)).toNat, by omega, by omega⟩
            dsimp! [hMF, HO.ins.injEq, fF, esp]
            refine ⟨by simp [sizeLine_eq], fun pV hpV => ?_⟩
            have sV := Same.put (o := .tup [V.str "thing", V.int (w.pl : Int)]) hpV
            have RV := R9.same sV
            have hsV := hsh'.same sV
            have s0V := s09.trans sV
            have hpV1 : upd H9 pV (.tup [V.str "thing", V.int (w.pl : Int)]) pV = some (.tup [V.str "thing", V.int (w.pl : Int)]) := upd_same
            have hspf : sp < (Tg.weak f).fs.length := by rw [hfsl]; exact hsp
            refine ⟨M, xs, _, w.pl, w.e, sp, _, Vl.th (w.pl : Int), rfl, RV.rm.there hwR, by rw [hwt]; exact hspf, ⟨pV, rfl, SqT.of hpV1⟩, fun H10 xs' cs' k10 hM10 hc10 => ?_⟩
            generalize upd H9 pV (.tup [V.str "thing", V.int (w.pl : Int)]) = HV at sV RV hsV s0V hpV1 k10
            have muV : ∀ b, b = M.d → Mu HV b := fun b e => .inl ⟨xs, by rw [e]; exact RV.rm.mem.R.li⟩
            have hs10 := hsV.kp k10 muV (fun z => hfl2 (.inl z))
            clear h1s h2s h3s h4s
            rw [hwt] at hc10
            refine bodyT.of (pss_one (ps_dput (hu_of hr) (pv 1) (pv 11) (pe_tup (pa_cons (pe_tup (pa_cons (pe_ix ix_tup (pv 3) pe_int (fun _ _ => rfl)) (pa_cons (pe_op op_catS (pe_op op_catS (pe_slice sl_list (pe_ix ix_tup (pv 3) pe_int (fun _ _ => rfl)) po_none (po_some (pv 14))) (pe_lst (pa_cons (pe_tup (pa_cons pe_str (pa_cons (pv 11) pa_nil))) pa_nil))) (pe_slice sl_list (pe_ix ix_tup (pv 3) pe_int (fun _ _ => rfl)) (po_some (pe_op op_add (pv 14) pe_int)) po_none)) (pa_cons (pe_ix ix_tup (pv 3) pe_int (fun _ _ => rfl)) pa_nil)))) (pa_cons (pv 4) (pa_cons (pv 12) pa_nil)))) rfl)) ?_
            dsimp! []
            obtain ⟨h1s, fy, h2s, h3s, h4s⟩ := id hs10
            have hspy : sp < fy.length := by rw [← h3s.1]; exact hspf
            refine ⟨sh2, _, _, _, rfl, rfl, SqT.of h1s, rfl, sh2, _, _, _, rfl, rfl, SqT.of h1s, rfl, fl2, _, rfl, SqL.of h2s, fun pA hpA => ⟨by simp [sizeLine_eq], fun pT hpT => ⟨by simp [sizeLine_eq], fun pB hpB => ?_⟩⟩⟩
            rw [cut0] at hpT hpB ⊢
            have sA := Same.put (o := .lst (fy.take sp)) hpA
            have sT := Same.put (o := .tup [V.str "thing", V.int (w.pl : Int)]) hpT
            have sB := Same.put (o := .lst [V.ref pT]) hpB
            refine ⟨pA, pB, _, _, rfl, rfl, SqL.of ((sT.trans sB) _ _ upd_same), SqL.of upd_same, by simp [sizeLine_eq]; omega, fun pC hpC => ?_⟩
            have sC := Same.put (o := .lst (fy.take sp ++ [V.ref pT])) hpC
            have s3 := ((sA.trans sT).trans sB).trans sC
            have hT3 := (sB.trans sC) pT (.tup [V.str "thing", V.int (w.pl : Int)]) upd_same
            have hC3 : upd (upd (upd (upd H10 pA (.lst (fy.take sp))) pT (.tup [V.str "thing", V.int (w.pl : Int)])) pB (.lst [V.ref pT])) pC (.lst (fy.take sp ++ [V.ref pT])) pC = some (.lst (fy.take sp ++ [V.ref pT])) := upd_same
            generalize upd (upd (upd (upd H10 pA (.lst (fy.take sp))) pT (.tup [V.str "thing", V.int (w.pl : Int)])) pB (.lst [V.ref pT])) pC (.lst (fy.take sp ++ [V.ref pT])) = H11 at s3 hT3 hC3
            refine ⟨sh2, _, _, _, rfl, rfl, SqT.of (s3 _ _ h1s), rfl, fl2, _, rfl, SqL.of (s3 _ _ h2s), fun pD hpD => ?_⟩
            rw [show ((sp : Int) + 1) = ((sp + 1 : Nat) : Int) by simp, cutT]
            have sD := Same.put (o := .lst (fy.drop (sp + 1))) hpD
            have eS : (fy.take sp ++ [V.ref pT]) ++ fy.drop (sp + 1) = fy.set sp (V.ref pT) := by
              rw [List.set_eq_take_append_cons_drop, if_pos hspy, List.append_assoc]
              rfl
            refine ⟨pC, pD, _, _, rfl, rfl, SqL.of (sD _ _ hC3), SqL.of upd_same, by simp [sizeLine_eq]; omega, fun pE hpE => ?_⟩
            rw [eS]
            have sE := Same.put (o := .lst (fy.set sp (V.ref pT))) hpE
            have s4 := (s3.trans sD).trans sE
            have hpE0 : H10 pE = none := (s3.trans sD).free hpE
            have hT4 := (sD.trans sE) _ _ hT3
            have hE4 : upd (upd H11 pD (.lst (fy.drop (sp + 1)))) pE (.lst (fy.set sp (V.ref pT))) pE = some (.lst (fy.set sp (V.ref pT))) := upd_same
            generalize upd (upd H11 pD (.lst (fy.drop (sp + 1)))) pE (.lst (fy.set sp (V.ref pT))) = H12 at s4 hT4 hE4
            refine ⟨sh2, _, _, _, rfl, rfl, SqT.of (s4 _ _ h1s), rfl, by simp [sizeLine_eq], fun pF hpF => ⟨by simp [sizeLine_eq], fun pG hpG => ?_⟩⟩
            have sF := Same.put (o := .tup [V.str (Tg.weak f).sort, V.ref pE, wV (Tg.weak f).words]) hpF
            have sG := Same.put (o := .tup [V.ref pF, V.int w.e.ser, V.bl w.e.mkd]) hpG
            have s5 := s4.trans (sF.trans sG)
            have eso := Tg.setF_sort (Tg.weak f) sp (Vl.th (w.pl : Int))
            obtain ⟨hd12, R12, k12⟩ := RV.change hwR k10 hM10 hc10 s5 ⟨pG, pF, pE, rfl, upd_same, ⟨by rw [eso.1, eso.2.1]; exact sG _ _ upd_same, fy.set sp (V.ref pT), (sF.trans sG) _ _ hE4, by rw [Tg.setF_fs hspf]; exact (h3s.same s5).set ⟨pT, rfl, SqT.of ((sF.trans sG) _ _ hT4)⟩, by rw [List.length_set]; exact h4s⟩, hM10.nown hpE0⟩
            refine ⟨_, DPut.k (k := Sum.inl (w.pl : Int)) hd12 (small1000 (by omega)), ?_⟩
            exact q _ _ _ R12 ((Same.kp s0V).trans k12) (by rw [chg_len]; omega)
          | pair f f2 =>
            have hsh' := hsh
            rw [hwt] at hsh'
            refine ite2 (fun z => nPl (show Str.ofString "pair" ≠ Str.ofString "plain" by decide) z) fun _ => ?_
            obtain ⟨h1s, fx, h2s, h3s, h4s⟩ := id hsh'
            have hfxl : 0 < fx.length := by rw [← h3s.1]; exact Nat.zero_lt_succ _
            have hfsl : (Tg.pair f f2).fs.length = fx.length := h3s.1
            refine ⟨sh2, _, _, _, rfl, rfl, SqT.of h1s, rfl, fl2, rfl, fx, .inl (SqL.of h2s), by omega, ?_⟩
            refine bodyT.of (pss_cons (ps_expr (pe_meth (pv 0) T.cl_Memory T.me_Memory_set_field (ok_Memory_set_field T) (hr.mono (by decide)) T.b_Memory_set_field .nil pass0 (pa_cons (pv 11) (pa_cons (pv 14) (pa_cons (pe_tup (pa_cons pe_str (pa_cons (pv 11) pa_nil))) pa_nil))))) pss_bodyT) ?_
            obtain ⟨dxF, hMF⟩ := R9.rm.mem.ob
            have fF := flM_no (pr := M.pr) (lb := M.lb) (n := "set_field")
            have muF : ∀ b, b = M.d → Mu _ b := fun b e => .inl ⟨xs, by rw [e]; exact R9.rm.mem.R.li⟩
            have d0 := Int.emod_nonneg r2 (show ((fx.length : Nat) : Int) ≠ 0 by omega)
            have d1 := Int.emod_lt_of_pos r2 (show (0 : Int) < ((fx.length : Nat) : Int) by omega)
            obtain ⟨sp, esp, hsp⟩ : ∃ sp : Nat, r2 % ((fx.length : Nat) : Int) = (sp : Int) ∧ sp < fx.length := ⟨(r2 % ((fx.length : Nat) : Int)).toNat, by omega, by omega⟩
            dsimp! [hMF, HO.ins.injEq, fF, esp]
            refine ⟨by simp [sizeLine_eq], fun pV hpV => ?_⟩
            have sV := Same.put (o := .tup [V.str "thing", V.int (w.pl : Int)]) hpV
            have RV := R9.same sV
            have hsV := hsh'.same sV
            have s0V := s09.trans sV
            have hpV1 : upd H9 pV (.tup [V.str "thing", V.int (w.pl : Int)]) pV = some (.tup [V.str "thing", V.int (w.pl : Int)]) := upd_same
            have hspf : sp < (Tg.pair f f2).fs.length := by rw [hfsl]; exact hsp
            refine ⟨M, xs, _, w.pl, w.e, sp, _, Vl.th (w.pl : Int), rfl, RV.rm.there hwR, by rw [hwt]; exact hspf, ⟨pV, rfl, SqT.of hpV1⟩, fun H10 xs' cs' k10 hM10 hc10 => ?_⟩
            generalize upd H9 pV (.tup [V.str "thing", V.int (w.pl : Int)]) = HV at sV RV hsV s0V hpV1 k10
            have muV : ∀ b, b = M.d → Mu HV b := fun b e => .inl ⟨xs, by rw [e]; exact RV.rm.mem.R.li⟩
            have hs10 := hsV.kp k10 muV (fun z => hfl2 (.inl z))
            clear h1s h2s h3s h4s
            rw [hwt] at hc10
            refine bodyT.of (pss_one (ps_dput (hu_of hr) (pv 1) (pv 11) (pe_tup (pa_cons (pe_tup (pa_cons (pe_ix ix_tup (pv 3) pe_int (fun _ _ => rfl)) (pa_cons (pe_op op_catS (pe_op op_catS (pe_slice sl_list (pe_ix ix_tup (pv 3) pe_int (fun _ _ => rfl)) po_none (po_some (pv 14))) (pe_lst (pa_cons (pe_tup (pa_cons pe_str (pa_cons (pv 11) pa_nil))) pa_nil))) (pe_slice sl_list (pe_ix ix_tup (pv 3) pe_int (fun _ _ => rfl)) (po_some (pe_op op_add (pv 14) pe_int)) po_none)) (pa_cons (pe_ix ix_tup (pv 3) pe_int (fun _ _ => rfl)) pa_nil)))) (pa_cons (pv 4) (pa_cons (pv 12) pa_nil)))) rfl)) ?_
            dsimp! []
            obtain ⟨h1s, fy, h2s, h3s, h4s⟩ := id hs10
            have hspy : sp < fy.length := by rw [← h3s.1]; exact hspf
            refine ⟨sh2, _, _, _, rfl, rfl, SqT.of h1s, rfl, sh2, _, _, _, rfl, rfl, SqT.of h1s, rfl, fl2, _, rfl, SqL.of h2s, fun pA hpA => ⟨by simp [sizeLine_eq], fun pT hpT => ⟨by simp [sizeLine_eq], fun pB hpB => ?_⟩⟩⟩
            rw [cut0] at hpT hpB ⊢
            have sA := Same.put (o := .lst (fy.take sp)) hpA
            have sT := Same.put (o := .tup [V.str "thing", V.int (w.pl : Int)]) hpT
            have sB := Same.put (o := .lst [V.ref pT]) hpB
            refine ⟨pA, pB, _, _, rfl, rfl, SqL.of ((sT.trans sB) _ _ upd_same), SqL.of upd_same, by simp [sizeLine_eq]; omega, fun pC hpC => ?_⟩
            have sC := Same.put (o := .lst (fy.take sp ++ [V.ref pT])) hpC
            have s3 := ((sA.trans sT).trans sB).trans sC
            have hT3 := (sB.trans sC) pT (.tup [V.str "thing", V.int (w.pl : Int)]) upd_same
            have hC3 : upd (upd (upd (upd H10 pA (.lst (fy.take sp))) pT (.tup [V.str "thing", V.int (w.pl : Int)])) pB (.lst [V.ref pT])) pC (.lst (fy.take sp ++ [V.ref pT])) pC = some (.lst (fy.take sp ++ [V.ref pT])) := upd_same
            generalize upd (upd (upd (upd H10 pA (.lst (fy.take sp))) pT (.tup [V.str "thing", V.int (w.pl : Int)])) pB (.lst [V.ref pT])) pC (.lst (fy.take sp ++ [V.ref pT])) = H11 at s3 hT3 hC3
            refine ⟨sh2, _, _, _, rfl, rfl, SqT.of (s3 _ _ h1s), rfl, fl2, _, rfl, SqL.of (s3 _ _ h2s), fun pD hpD => ?_⟩
            rw [show ((sp : Int) + 1) = ((sp + 1 : Nat) : Int) by simp, cutT]
            have sD := Same.put (o := .lst (fy.drop (sp + 1))) hpD
            have eS : (fy.take sp ++ [V.ref pT]) ++ fy.drop (sp + 1) = fy.set sp (V.ref pT) := by
              rw [List.set_eq_take_append_cons_drop, if_pos hspy, List.append_assoc]
              rfl
            refine ⟨pC, pD, _, _, rfl, rfl, SqL.of (sD _ _ hC3), SqL.of upd_same, by simp [sizeLine_eq]; omega, fun pE hpE => ?_⟩
            rw [eS]
            have sE := Same.put (o := .lst (fy.set sp (V.ref pT))) hpE
            have s4 := (s3.trans sD).trans sE
            have hpE0 : H10 pE = none := (s3.trans sD).free hpE
            have hT4 := (sD.trans sE) _ _ hT3
            have hE4 : upd (upd H11 pD (.lst (fy.drop (sp + 1)))) pE (.lst (fy.set sp (V.ref pT))) pE = some (.lst (fy.set sp (V.ref pT))) := upd_same
            generalize upd (upd H11 pD (.lst (fy.drop (sp + 1)))) pE (.lst (fy.set sp (V.ref pT))) = H12 at s4 hT4 hE4
            refine ⟨sh2, _, _, _, rfl, rfl, SqT.of (s4 _ _ h1s), rfl, by simp [sizeLine_eq], fun pF hpF => ⟨by simp [sizeLine_eq], fun pG hpG => ?_⟩⟩
            have sF := Same.put (o := .tup [V.str (Tg.pair f f2).sort, V.ref pE, wV (Tg.pair f f2).words]) hpF
            have sG := Same.put (o := .tup [V.ref pF, V.int w.e.ser, V.bl w.e.mkd]) hpG
            have s5 := s4.trans (sF.trans sG)
            have eso := Tg.setF_sort (Tg.pair f f2) sp (Vl.th (w.pl : Int))
            obtain ⟨hd12, R12, k12⟩ := RV.change hwR k10 hM10 hc10 s5 ⟨pG, pF, pE, rfl, upd_same, ⟨by rw [eso.1, eso.2.1]; exact sG _ _ upd_same, fy.set sp (V.ref pT), (sF.trans sG) _ _ hE4, by rw [Tg.setF_fs hspf]; exact (h3s.same s5).set ⟨pT, rfl, SqT.of ((sF.trans sG) _ _ hT4)⟩, by rw [List.length_set]; exact h4s⟩, hM10.nown hpE0⟩
            refine ⟨_, DPut.k (k := Sum.inl (w.pl : Int)) hd12 (small1000 (by omega)), ?_⟩
            exact q _ _ _ R12 ((Same.kp s0V).trans k12) (by rw [chg_len]; omega)
theorem e57 : (10 : Int) ^ Int.toNat 57 = 1000000000000000000000000000000000000000000000000000000000 := by decide +kernel
def zs34 : List Int := [8, 32, 1000, 1000000000000000000000000000000000000000000000000000000000 ^ Int.toNat 10]
theorem zs34_ok : Sizes zs34 := by
  intro z hz
  simp only [zs34, List.mem_cons, List.not_mem_nil, or_false] at hz
  rcases hz with rfl | rfl | rfl | rfl
  · exact .small (by decide) (by decide)
  · exact .small (by decide) (by decide)
  · exact .small (by decide) (by decide)
  · exact ⟨by decide +kernel, .inr (by decide +kernel)⟩
theorem lenI4 {l : List Int} (h : l.length = 4) : ∃ x y z u, l = [x, y, z, u] := by
  match l, h with
  | [x, y, z, u], _ => exact ⟨x, y, z, u, rfl⟩
def sp_law (K : PySem.W.Frag) : Sp := fun vs H Q _ => ∃ (a : Addr) (ns : List Int), vs = [.ref a] ∧ SqL K H a (ns.map V.int) ∧ ns.length ≤ 63 ∧ ∀ H', Q (.bl true) H'
theorem ok_law (T : Txt K mg a) : FnOk P w K mg base CX0 12 a.a_law a.d_law ["_law_script"] (sp_law K) := by
  refine T.f_law.ok sc_law (fun vs H Q E h => ?_) (fun cdv A outer s H vs Q E hr h => ?_)
  · obtain ⟨_, _, rfl, _⟩ := h
    rfl
  · obtain ⟨sc, ns, rfl, hS, hl, q⟩ := h
    refine ⟨_, (pss_cons (ps_set (i := 1) sc_law.nd rfl (Or.inl rfl) (pe_call (ok_law_cell_at T) (hr.mono (by decide)) rfl T.m_law_cell_at T.f_law_cell_at.kp T.b_law_cell_at .nil pass0 (pa_cons (pv 0) (pa_cons pe_int pa_nil)))) (pss_cons (ps_set (i := 2) sc_law.nd rfl (Or.inl rfl) (pe_op op_add pe_int (pe_op op_mod (pe_op op_fdivL (pv 1) pe_int) pe_int))) (pss_cons (ps_set (i := 3) sc_law.nd rfl (Or.inl rfl) (pe_op op_add pe_int (pe_op op_mod (pe_op op_fdivL (pv 1) pe_int) pe_int))) (pss_cons (ps_set (i := 4) sc_law.nd rfl (Or.inl rfl) (pe_make T.mk_Memory (ok_Memory_init T) (hr.mono (by decide)) rfl T.mc_Memory T.b_Memory_init .nil pass0 (pa_cons (pv 2) (pa_cons (pv 3) pa_nil)))) (pss_cons (ps_set (i := 5) sc_law.nd rfl (Or.inl rfl) pe_dnewK) (pss_cons (ps_forW PassesOwn.never rfl (pi_range2 rfl T.n_range (pa_cons pe_int (pa_cons (pe_callB (call_min2 rfl) rfl T.n_min bt_min (pa_cons (pe_callB call_len_seq rfl T.n_len bt_len (pa_cons (pv 0) pa_nil)) (pa_cons pe_int pa_nil))) pa_nil))) (pg_name (i := 6) sc_law.nd rfl (Or.inl rfl)) pss_bodyT) pss_bodyT)))))), ?_⟩
    dsimp! []
    refine ⟨sc, ns, 0, rfl, hS, by decide, fun first => ?_⟩
    obtain ⟨m, em, hm0, hm1⟩ : ∃ m : Nat, 1 + first / 2 % 5 = (m : Int) ∧ 0 < m ∧ m ≤ 5 := ⟨(1 + first / 2 % 5).toNat, by omega, by omega, by omega⟩
    obtain ⟨c, ec, hc0, hc1⟩ : ∃ c : Nat, 1 + first / 10 % 16 = (c : Int) ∧ 0 < c ∧ c ≤ 16 := ⟨(1 + first / 10 % 16).toNat, by omega, by omega, by omega⟩
    have hmc : m * c ≤ 1000 := Nat.le_trans (Nat.mul_le_mul hm1 hc1) (by decide)
    refine ⟨first, rfl, .small (by decide) (by decide), by decide, first, rfl, .small (by decide) (by decide), by decide, fun pm dxm hpm hdxm ne => ?_⟩
    rw [em, ec]
    refine ⟨pm, dxm, m, c, rfl, upd_same, hm0, hc0, hmc, fun M H1 eMp eMm eMc hMem kp1 hown hlb hpr => ⟨rfl, fun rw_ hrw => ?_⟩⟩
    have hown0 : ∀ b, M.own b → H b = none := fun b hb => none_up (none_up (hown b hb))
    have s1 := same_new hpm hdxm kp1
    subst eMp eMm eMc
    have hrw0 : H rw_ = none := s1.free hrw
    have s2 := Same.put (o := .dK []) hrw
    have R0 : RL a K (upd H1 rw_ (.dK [])) M rw_ (List.replicate (M.m * M.c) .non) [] := ⟨⟨hMem.same s2, fun r hr => (nomatch hr)⟩, upd_same, hMem.nown hrw, fun r hr => (nomatch hr)⟩
    have sS := s1.trans s2
    generalize upd H1 rw_ (.dK []) = H2 at R0 sS
    clear kp1 hMem hown hlb hpr ne hpm hdxm s2
    have keepS : ∀ H3 H4, Same H H3 → Kp (fun b => M.own b ∨ b = rw_) H3 H4 → Same H H4 := fun H3 H4 s k b u e => k b u (fun z => by
      rcases z with z | z
      · rw [hown0 b z] at e
        cases e
      · rw [z, hrw0] at e
        cases e) (s b u e)
    have hlen : (ns.map V.int).length = ns.length := List.length_map _
    refine ⟨_, .inl (sS.seq hS), by decide, by decide, by split <;> omega, by split <;> omega, ?_⟩
    obtain ⟨n, en, hn⟩ : ∃ n : Nat, ((if 63 < ((ns.map V.int).length : Int) then 63 else ((ns.map V.int).length : Int)) - 1).toNat = n ∧ n ≤ 62 ∧ (0 < n → n + 1 ≤ ns.length) := ⟨_, rfl, by split <;> omega, fun h => by split at h <;> split <;> omega⟩
    rw [en]
    refine fw_range (fun i σ H3 => ∃ (o6 o7 o8 o9 : Option V) (xs : List V) (R : List Rw), σ = [some (.ref sc), some (.int first), some (.int (M.m : Nat)), some (.int (M.c : Nat)), some (.ref M.p), some (.ref rw_), o6, o7, o8, o9] ∧ Same H H3 ∧ R.length ≤ i ∧ RL a K H3 M rw_ xs R)
      ⟨none, none, none, none, _, [], rfl, sS, Nat.zero_le _, R0⟩ ?_ ?_
    · rintro i σ H3 hi ⟨o6, o7, o8, o9, xs, R, rfl, s3, hRl, R3⟩
      have hn2 := hn.2 (by omega)
      have hn1 := hn.1
      refine gN ?_
      refine bodyT.of (pss_cons (ps_set (i := 7) sc_law.nd rfl (Or.inl rfl) (pe_call (ok_law_drawn T) (hr.mono (by decide)) rfl T.m_law_drawn T.f_law_drawn.kp T.b_law_drawn .nil pass0 (@pa_cons _ _ _ _ _ (pe_ix ix_list (pv 0) (pv 6) (fun _ _ => rfl)) (@pa_cons _ _ _ _ _ (@pe_lst _ _ _ _ (@pa_cons _ _ _ _ _ pe_int (@pa_cons _ _ _ _ _ pe_int (@pa_cons _ _ _ _ _ pe_int (@pa_cons _ _ _ _ _ (pe_op op_powL (pe_op op_pow pe_int pe_int) pe_int) pa_nil rfl) rfl) rfl) rfl)) (@pa_cons _ _ _ _ _ (pe_cmpR op_eq (pe_op op_mod (pv 1) pe_int) pe_int (nomark _)) pa_nil rfl) rfl) rfl))) (pss_cons (ps_set (i := 8) sc_law.nd rfl (Or.inl rfl) (pe_call (ok_law_shape T) (hr.mono (by decide)) rfl T.m_law_shape T.f_law_shape.kp T.b_law_shape .nil pass0 (pa_cons (pe_ix ix_list (pv 7) pe_int (fun _ _ => rfl)) (pa_cons (pe_callTy (call_listD rfl) rfl T.n_list bt_list (pa_cons (pv 5) pa_nil)) (pa_cons (pe_cmpR op_eq (pe_op op_mod (pv 1) pe_int) pe_int (nomark _)) pa_nil))))) pss_bodyT)) ?_
      dsimp! [e57]
      have hS3 := s3.seq hS
      have hki : 1 + i < ns.length := by omega
      have hat : atI (ns.map V.int) (1 + (i : Int)) = some (V.int ns[1 + i]) := by
        have := atI_nat (xs := ns.map V.int) (j := 1 + i) (v := V.int ns[1 + i]) (by simp [hki])
        simpa using this
      refine ⟨sc, _, _, _, rfl, rfl, hS3, hat, ⟨by decide, by decide, by decide⟩, ⟨by decide, by decide, by decide +kernel⟩, by simp [sizeLine_eq], fun l4 hl4 => ⟨by decide, ?_⟩⟩
      have ez : ([V.int 8, V.int 32, V.int 1000, V.int (1000000000000000000000000000000000000000000000000000000000 ^ Int.toNat 10)] : List V) = zs34.map V.int := rfl
      rw [ez]
      refine ⟨_, l4, zs34, _, rfl, upd_same, zs34_ok, by decide, fun rs dr hb hdr => ?_⟩
      obtain ⟨r0, r1, r2, r3, rfl⟩ := lenI4 hb.1
      have b2 := hb.2 2 r2 1000 rfl rfl
      have s4 := Same.put (o := .lst (zs34.map V.int)) hl4
      have hdro : ¬ M.own dr := (R3.same s4).rm.mem.nown hdr
      have hdrw : dr ≠ rw_ := (ne_of_none (R3.same s4).di hdr).symm
      have s5 := s4.trans (Same.put (o := .lst ([r0, r1, r2, r3].map V.int)) hdr)
      have hdr5 : upd (upd H3 l4 (.lst (zs34.map V.int))) dr (.lst ([r0, r1, r2, r3].map V.int)) dr = some (.lst ([r0, r1, r2, r3].map V.int)) := upd_same
      have R5 := R3.same s5
      have s05 := s3.trans s5
      generalize upd (upd H3 l4 (.lst (zs34.map V.int))) dr (.lst ([r0, r1, r2, r3].map V.int)) = H5 at s5 hdr5 R5 s05
      refine ⟨dr, _, _, _, rfl, rfl, SqL.of hdr5, rfl, _, .inl R5.di, fun l6 hl6 => ⟨by decide, ?_⟩⟩
      have s6 := Same.put (o := .lst (keysV (R.map Rw.kv))) hl6
      refine ⟨_, l6, plsI R, _, rfl, SqL.of (by rw [← keys_kv]; exact upd_same), by rw [plsI_len]; omega, fun t sh fl H7 s7 hsh hfl hs7 => ?_⟩
      have R6 := R5.same s6
      have hnf := R6.rm.mem.nown hfl
      have s67 := s6.trans s7
      have R7 := R6.same s7
      have s07 := s05.trans s67
      have hdr7 := s67 _ _ hdr5
      refine bodyT.of (pss_cons (ps_if (pt_not (pt_val (pe_call (ok_law_done T) (hr.mono (by decide)) rfl T.m_law_done T.f_law_done.kp T.b_law_done .nil pass0 (pa_cons (pv 4) (pa_cons (pv 5) (pa_cons (pv 7) (pa_cons (pv 8) (pa_cons (pe_op op_sub pe_int (pv 6)) (pa_cons (pv 2) (pa_cons (pv 3) pa_nil)))))))))) (pss_one (ps_ret pe_bl)) pss_nil) (pss_cons (ps_if (pt_not (pt_val (pe_call (ok_law_apart T) (hr.mono (by decide)) rfl T.m_law_apart T.f_law_apart.kp T.b_law_apart .nil pass0 (pa_cons (pv 4) (pa_cons (pv 5) (pa_cons (pv 3) pa_nil)))))) (pss_one (ps_ret pe_bl)) pss_nil) pss_bodyT)) ?_
      dsimp! []
      refine ⟨M, xs, rw_, R, dr, r0, r1, r2, r3, sh, fl, t, _, rfl, R7, hdr7, b2.1, b2.2, hs7, hnf, by omega, hc1, fun H8 xs8 R8 RR8 k8 hR8 => ⟨true, rfl, iteF ?_⟩⟩
      have s08 := keepS _ _ s07 k8
      have hdr8 := k8 _ _ (fun z => by
        rcases z with z | z
        · exact hdro z
        · exact hdrw z) hdr7
      refine ⟨M, xs8, rw_, R8, rfl, RR8, by omega, hc1, fun H9 s9 => ⟨true, rfl, iteF ?_⟩⟩
      have R9 := RR8.same s9
      have s09 := s08.trans s9
      have hdr9 := s9 _ _ hdr8
      clear R3 R5 R6 R7 RR8 hs7 hsh hfl hdr8 hdr7 hdr5
      refine bodyT.of (pss_one (ps_if (pt_cmpR (op_neE hr.units) (pv 5) pe_dnewK (nomark _)) (pss_cons (ps_set (i := 9) sc_law.nd rfl (Or.inl rfl) (pe_ix ix_list (pe_callB (call_sortedD rfl) rfl T.n_sorted bt_sorted (pa_cons (pv 5) pa_nil)) (pe_op op_mod (pe_ix ix_list (pv 7) pe_int (fun _ _ => rfl)) (pe_callB call_lenD rfl T.n_len bt_len (pa_cons (pv 5) pa_nil))) (fun _ _ => rfl))) pss_bodyT) pss_nil)) ?_
      dsimp! []
      refine fun p10 hp10 => ?_
      have s10 := Same.put (o := .dK []) hp10
      have R10 := R9.same s10
      have s010 := s09.trans s10
      have hdr10 := s10 _ _ hdr9
      refine ⟨rw_, p10, _, rfl, rfl, R10.di, upd_same, ?_⟩
      rw [if_pos rfl]
      generalize upd H9 p10 (.dK []) = H10 at s10 R10 s010 hdr10
      refine ⟨_, rfl, ite2 (fun hk => ?_) fun _ => ?_⟩
      · have hpos : 0 < R8.length := by
          cases R8 with
          | nil => simp at hk
          | cons => simp
        refine ⟨_, .inl R10.di, plsI R8, keys_kv R8, by rw [plsI_len]; omega, fun l ms hl hp hs => ?_⟩
        obtain ⟨L, hL, eL⟩ := perm_lift hp R8 rfl
        subst eL
        have hLl := hL.length_eq
        have s11 := Same.put (o := .lst ((L.map fun w => (w.pl : Int)).map V.int)) hl
        have R11 := R10.same s11
        have hl11 : upd H10 l (.lst ((L.map fun w => (w.pl : Int)).map V.int)) l = some (.lst ((L.map fun w => (w.pl : Int)).map V.int)) := upd_same
        have s011 := s010.trans s11
        have hdr11 := s11 _ _ hdr10
        generalize upd H10 l (.lst ((L.map fun w => (w.pl : Int)).map V.int)) = H11 at s11 R11 hl11 s011 hdr11
        have c0 := Int.emod_nonneg r2 (show ((R8.length : Nat) : Int) ≠ 0 by omega)
        have c1 := Int.emod_lt_of_pos r2 (show (0 : Int) < ((R8.length : Nat) : Int) by omega)
        obtain ⟨j, ej, hj⟩ : ∃ j : Nat, r2 % ((R8.length : Nat) : Int) = (j : Int) ∧ j < L.length := ⟨(r2 % ((R8.length : Nat) : Int)).toNat, by omega, by omega⟩
        obtain ⟨w, hwj⟩ : ∃ w, L[j] = w := ⟨_, rfl⟩
        have hwR : w ∈ R8 := hL.mem_iff.mp (by rw [← hwj]; exact List.getElem_mem hj)
        have hatj : atI ((L.map fun w => (w.pl : Int)).map V.int) (r2 % ((R8.map Rw.kv).length : Int)) = some (V.int (w.pl : Int)) := by
          rw [List.length_map, ej]
          exact atI_nat (by rw [List.getElem?_map, List.getElem?_map, List.getElem?_eq_getElem hj, hwj]; rfl)
        have hgt := (R11.rm.nd.get hwR) ▸ DGet.k (k := Sum.inl (w.pl : Int)) R11.di
        refine ⟨dr, _, _, _, rfl, rfl, SqL.of hdr11, rfl, _, R11.di, r2, rfl, by rw [List.length_map]; omega, l, _, _, _, rfl, rfl, SqL.of hl11, hatj, ?_⟩
        refine bodyT.of (pss_one (ps_if (pt_not (pt_val (pe_call (ok_law_held T) (hr.mono (by decide)) rfl T.m_law_held T.f_law_held.kp T.b_law_held .nil pass0 (pa_cons (pv 4) (pa_cons (pv 9) (pa_cons (pe_dget (hu_of hr) (pv 5) (pv 9) (fun _ _ => rfl)) pa_nil)))))) (pss_one (ps_ret pe_bl)) pss_nil)) ?_
        dsimp! []
        refine ⟨w.x, hgt, M, xs8, _, w.pl, w.e, w.x, M.own, rfl, R11.rm.there hwR, R11.row w hwR, fun H12 s12 => ⟨true, rfl, iteF ?_⟩⟩
        exact ⟨s011.trans s12, xs8, R8, by omega, R11.same s12⟩
      · exact ⟨s010, xs8, R8, by omega, R10⟩
    · rintro σ H3 ⟨o6, o7, o8, o9, xs, R, rfl, s3, hRl, R3⟩
      have hn1 := hn.1
      refine bodyT.of (pss_cons (ps_thaw (ps_forW PassesOwn.never rfl (pi_dict (pv 5)) (pg_name (i := 9) sc_law.nd rfl (Or.inl rfl)) pss_bodyT)) pss_bodyT) ?_
      dsimp! []
      have hA := R3.rm.nd
      refine ⟨_, R3.di, fun o => ?_⟩
      obtain ⟨hMF, hWF⟩ := R3.frz o
      have hF : upd H3 rw_ (.frz o (.dK (R.map Rw.kv))) rw_ = some (.frz o (.dK (R.map Rw.kv))) := upd_same
      generalize upd H3 rw_ (.frz o (.dK (R.map Rw.kv))) = HF at hMF hWF hF
      refine fw_dict (fun i σ H' => ∃ o9' : Option V, σ = [some (.ref sc), some (.int first), some (.int (M.m : Nat)), some (.int (M.c : Nat)), some (.ref M.p), some (.ref rw_), o6, o7, o8, o9'] ∧ Same HF H') ⟨o9, rfl, .refl HF⟩ ?_ ?_ ?_
      · rintro i σ H' _ ⟨o9', rfl, k'⟩
        exact k' _ _ hF
      · rintro i kv σ H' hkv ⟨o9', rfl, k'⟩
        obtain ⟨w, hw, rfl⟩ := get_at hkv
        have hd' : DGet H' rw_ (.int (w.pl : Int)) (some w.x) := .inl ⟨_, Sum.inl (w.pl : Int), .inr ⟨o, k' _ _ hF⟩, rfl, (hA.get hw).symm⟩
        have ekv : kV w.kv.1 = V.int (w.pl : Int) := rfl
        refine gN ?_
        refine bodyT.of (pss_one (ps_if (pt_not (pt_val (pe_call (ok_law_held T) (hr.mono (by decide)) rfl T.m_law_held T.f_law_held.kp T.b_law_held .nil pass0 (pa_cons (pv 4) (pa_cons (pv 9) (pa_cons (pe_dget (hu_of hr) (pv 5) (pv 9) (fun _ _ => rfl)) pa_nil)))))) (pss_one (ps_ret pe_bl)) pss_nil)) ?_
        dsimp! [ekv]
        refine ⟨w.x, hd', M, xs, _, w.pl, w.e, w.x, M.own, rfl, (hMF.same k').there hw, (hWF.same k') w hw, fun H'' s'' => ⟨true, rfl, iteF ?_⟩⟩
        exact k'.trans s''
      · rintro σ H' ⟨o9', rfl, k'⟩
        refine .inr ⟨rw_, _, _, ⟨?_, ⟨o, k' _ _ hF⟩, rfl⟩, ?_⟩
        · intro o' u' z
          have z2 : H rw_ = some (HO.frz o' u') := z
          rw [hrw0] at z2
          cases z2
        · refine bodyT.of (pss_one (ps_ret pe_bl)) ?_
          dsimp! []
          exact q _
end
theorem all_mk {l : PySem.W.OpenLaw} {w : World} {K : PySem.W.Frag} {h : Heap} {mg : Str → Option Value} {fa : Addr} (X : K.In h) (G : h.Ns mainGlobals mg) (hfa : mg "law" = some (.ref fa))
    {f_header f_kind_in f_size_in f_is_marked f_has_words f_with_mark f_with_words f_with_bit f_Rooms_init f_Rooms_gap f_Rooms_gap_in f_Rooms_fill_in f_Rooms_set_free f_Rooms_read f_Rooms_write f_Rooms_room_of f_Thing_init f_Thing_sort_of f_Thing_fields f_Thing_words f_PlainThing_init f_PlainThing_words f_PairThing_init f_plain f_weak f_pair f_first_field f_size_of f_words_cell f_cells_of f_Memory_init f_Memory_put_in f_Memory_fill_from f_Memory_head_at f_Memory_thing_at f_Memory_words_at f_Memory_serial_at f_Memory_size_at f_Memory_sort_at f_Memory_marked_at f_Memory_set_mark f_Memory_set_field f_Memory_set_words f_Memory_take_out f_Memory_places f_Memory_places_in f_law_cell_at f_law_drawn f_law_value f_law_shape f_law_thing f_law_size f_law_whole f_law_held f_law_apart f_law_least f_law_done f_law C_Rooms C_Thing C_PlainThing C_PairThing C_Memory : Addr}
    {t_KIND_BITS t_MARK_BIT t_WORDS_BIT t_SIZE_FROM t_SERIAL_AT t_WORDS_AT tk_NOTHING_0 tk_SORTS_0 tk_SORTS_1 tk_SORTS_2 : Tok}
    {t_NOTHING t_SORTS : Addr}
    {tn_NOTHING tn_SORTS : Nat} {ts_NOTHING ts_SORTS : Array (Option Value)}
    {od_header an_header od_kind_in an_kind_in od_size_in an_size_in od_is_marked an_is_marked od_has_words an_has_words od_with_mark an_with_mark od_with_words an_with_words od_with_bit an_with_bit od_Rooms_init an_Rooms_init od_Rooms_gap an_Rooms_gap od_Rooms_gap_in an_Rooms_gap_in od_Rooms_fill_in an_Rooms_fill_in od_Rooms_set_free an_Rooms_set_free od_Rooms_read an_Rooms_read od_Rooms_write an_Rooms_write od_Rooms_room_of an_Rooms_room_of od_Thing_init an_Thing_init od_Thing_sort_of an_Thing_sort_of od_Thing_fields an_Thing_fields od_Thing_words an_Thing_words od_PlainThing_init an_PlainThing_init od_PlainThing_words an_PlainThing_words od_PairThing_init an_PairThing_init od_plain an_plain od_weak an_weak od_pair an_pair od_first_field an_first_field od_size_of an_size_of od_words_cell an_words_cell od_cells_of an_cells_of od_Memory_init an_Memory_init od_Memory_put_in an_Memory_put_in od_Memory_fill_from an_Memory_fill_from od_Memory_head_at an_Memory_head_at od_Memory_thing_at an_Memory_thing_at od_Memory_words_at an_Memory_words_at od_Memory_serial_at an_Memory_serial_at od_Memory_size_at an_Memory_size_at od_Memory_sort_at an_Memory_sort_at od_Memory_marked_at an_Memory_marked_at od_Memory_set_mark an_Memory_set_mark od_Memory_set_field an_Memory_set_field od_Memory_set_words an_Memory_set_words od_Memory_take_out an_Memory_take_out od_Memory_places an_Memory_places od_Memory_places_in an_Memory_places_in od_law_cell_at an_law_cell_at od_law_drawn an_law_drawn od_law_value an_law_value od_law_shape an_law_shape od_law_thing an_law_thing od_law_size an_law_size od_law_whole an_law_whole od_law_held an_law_held od_law_apart an_law_apart od_law_least an_law_least od_law_done an_law_done od_law an_law : Option Addr}
    {sl_header sl_kind_in sl_size_in sl_is_marked sl_has_words sl_with_mark sl_with_words sl_with_bit sl_Rooms_init sl_Rooms_gap sl_Rooms_gap_in sl_Rooms_fill_in sl_Rooms_set_free sl_Rooms_read sl_Rooms_write sl_Rooms_room_of sl_Thing_init sl_Thing_sort_of sl_Thing_fields sl_Thing_words sl_PlainThing_init sl_PlainThing_words sl_PairThing_init sl_plain sl_weak sl_pair sl_first_field sl_size_of sl_words_cell sl_cells_of sl_Memory_init sl_Memory_put_in sl_Memory_fill_from sl_Memory_head_at sl_Memory_thing_at sl_Memory_words_at sl_Memory_serial_at sl_Memory_size_at sl_Memory_sort_at sl_Memory_marked_at sl_Memory_set_mark sl_Memory_set_field sl_Memory_set_words sl_Memory_take_out sl_Memory_places sl_Memory_places_in sl_law_cell_at sl_law_drawn sl_law_value sl_law_shape sl_law_thing sl_law_size sl_law_whole sl_law_held sl_law_apart sl_law_least sl_law_done sl_law : Array (Option Value)}
    {oc_header kV_header dc_header pm_header cd_header ct_header oc_kind_in kV_kind_in dc_kind_in pm_kind_in cd_kind_in ct_kind_in oc_size_in kV_size_in dc_size_in pm_size_in cd_size_in ct_size_in oc_is_marked kV_is_marked dc_is_marked pm_is_marked cd_is_marked ct_is_marked oc_has_words kV_has_words dc_has_words pm_has_words cd_has_words ct_has_words oc_with_mark kV_with_mark dc_with_mark pm_with_mark cd_with_mark ct_with_mark oc_with_words kV_with_words dc_with_words pm_with_words cd_with_words ct_with_words oc_with_bit kV_with_bit dc_with_bit pm_with_bit cd_with_bit ct_with_bit oc_Rooms_init kV_Rooms_init dc_Rooms_init pm_Rooms_init cd_Rooms_init ct_Rooms_init oc_Rooms_gap kV_Rooms_gap dc_Rooms_gap pm_Rooms_gap cd_Rooms_gap ct_Rooms_gap oc_Rooms_gap_in kV_Rooms_gap_in dc_Rooms_gap_in pm_Rooms_gap_in cd_Rooms_gap_in ct_Rooms_gap_in oc_Rooms_fill_in kV_Rooms_fill_in dc_Rooms_fill_in pm_Rooms_fill_in cd_Rooms_fill_in ct_Rooms_fill_in oc_Rooms_set_free kV_Rooms_set_free dc_Rooms_set_free pm_Rooms_set_free cd_Rooms_set_free ct_Rooms_set_free oc_Rooms_read kV_Rooms_read dc_Rooms_read pm_Rooms_read cd_Rooms_read ct_Rooms_read oc_Rooms_write kV_Rooms_write dc_Rooms_write pm_Rooms_write cd_Rooms_write ct_Rooms_write oc_Rooms_room_of kV_Rooms_room_of dc_Rooms_room_of pm_Rooms_room_of cd_Rooms_room_of ct_Rooms_room_of oc_Thing_init kV_Thing_init dc_Thing_init pm_Thing_init cd_Thing_init ct_Thing_init oc_Thing_sort_of kV_Thing_sort_of dc_Thing_sort_of pm_Thing_sort_of cd_Thing_sort_of ct_Thing_sort_of oc_Thing_fields kV_Thing_fields dc_Thing_fields pm_Thing_fields cd_Thing_fields ct_Thing_fields oc_Thing_words kV_Thing_words dc_Thing_words pm_Thing_words cd_Thing_words ct_Thing_words oc_PlainThing_init kV_PlainThing_init dc_PlainThing_init pm_PlainThing_init cd_PlainThing_init ct_PlainThing_init oc_PlainThing_words kV_PlainThing_words dc_PlainThing_words pm_PlainThing_words cd_PlainThing_words ct_PlainThing_words oc_PairThing_init kV_PairThing_init dc_PairThing_init pm_PairThing_init cd_PairThing_init ct_PairThing_init oc_plain kV_plain dc_plain pm_plain cd_plain ct_plain oc_weak kV_weak dc_weak pm_weak cd_weak ct_weak oc_pair kV_pair dc_pair pm_pair cd_pair ct_pair oc_first_field kV_first_field dc_first_field pm_first_field cd_first_field ct_first_field oc_size_of kV_size_of dc_size_of pm_size_of cd_size_of ct_size_of oc_words_cell kV_words_cell dc_words_cell pm_words_cell cd_words_cell ct_words_cell oc_cells_of kV_cells_of dc_cells_of pm_cells_of cd_cells_of ct_cells_of oc_Memory_init kV_Memory_init dc_Memory_init pm_Memory_init cd_Memory_init ct_Memory_init oc_Memory_put_in kV_Memory_put_in dc_Memory_put_in pm_Memory_put_in cd_Memory_put_in ct_Memory_put_in oc_Memory_fill_from kV_Memory_fill_from dc_Memory_fill_from pm_Memory_fill_from cd_Memory_fill_from ct_Memory_fill_from oc_Memory_head_at kV_Memory_head_at dc_Memory_head_at pm_Memory_head_at cd_Memory_head_at ct_Memory_head_at oc_Memory_thing_at kV_Memory_thing_at dc_Memory_thing_at pm_Memory_thing_at cd_Memory_thing_at ct_Memory_thing_at oc_Memory_words_at kV_Memory_words_at dc_Memory_words_at pm_Memory_words_at cd_Memory_words_at ct_Memory_words_at oc_Memory_serial_at kV_Memory_serial_at dc_Memory_serial_at pm_Memory_serial_at cd_Memory_serial_at ct_Memory_serial_at oc_Memory_size_at kV_Memory_size_at dc_Memory_size_at pm_Memory_size_at cd_Memory_size_at ct_Memory_size_at oc_Memory_sort_at kV_Memory_sort_at dc_Memory_sort_at pm_Memory_sort_at cd_Memory_sort_at ct_Memory_sort_at oc_Memory_marked_at kV_Memory_marked_at dc_Memory_marked_at pm_Memory_marked_at cd_Memory_marked_at ct_Memory_marked_at oc_Memory_set_mark kV_Memory_set_mark dc_Memory_set_mark pm_Memory_set_mark cd_Memory_set_mark ct_Memory_set_mark oc_Memory_set_field kV_Memory_set_field dc_Memory_set_field pm_Memory_set_field cd_Memory_set_field ct_Memory_set_field oc_Memory_set_words kV_Memory_set_words dc_Memory_set_words pm_Memory_set_words cd_Memory_set_words ct_Memory_set_words oc_Memory_take_out kV_Memory_take_out dc_Memory_take_out pm_Memory_take_out cd_Memory_take_out ct_Memory_take_out oc_Memory_places kV_Memory_places dc_Memory_places pm_Memory_places cd_Memory_places ct_Memory_places oc_Memory_places_in kV_Memory_places_in dc_Memory_places_in pm_Memory_places_in cd_Memory_places_in ct_Memory_places_in oc_law_cell_at kV_law_cell_at dc_law_cell_at pm_law_cell_at cd_law_cell_at ct_law_cell_at oc_law_drawn kV_law_drawn dc_law_drawn pm_law_drawn cd_law_drawn ct_law_drawn oc_law_value kV_law_value dc_law_value pm_law_value cd_law_value ct_law_value oc_law_shape kV_law_shape dc_law_shape pm_law_shape cd_law_shape ct_law_shape oc_law_thing kV_law_thing dc_law_thing pm_law_thing cd_law_thing ct_law_thing oc_law_size kV_law_size dc_law_size pm_law_size cd_law_size ct_law_size oc_law_whole kV_law_whole dc_law_whole pm_law_whole cd_law_whole ct_law_whole oc_law_held kV_law_held dc_law_held pm_law_held cd_law_held ct_law_held oc_law_apart kV_law_apart dc_law_apart pm_law_apart cd_law_apart ct_law_apart oc_law_least kV_law_least dc_law_least pm_law_least cd_law_least ct_law_least oc_law_done kV_law_done dc_law_done pm_law_done cd_law_done ct_law_done oc_law kV_law dc_law pm_law cd_law ct_law : Value}
    (cc_Rooms : PySem.W.nsIn K mainGlobals "Rooms" = some (some (.ref C_Rooms)))
    (cc_Thing : PySem.W.nsIn K mainGlobals "Thing" = some (some (.ref C_Thing)))
    (cc_PlainThing : PySem.W.nsIn K mainGlobals "PlainThing" = some (some (.ref C_PlainThing)))
    (cc_PairThing : PySem.W.nsIn K mainGlobals "PairThing" = some (some (.ref C_PairThing)))
    (cc_Memory : PySem.W.nsIn K mainGlobals "Memory" = some (some (.ref C_Memory)))
    (a_header : PySem.W.nsIn K mainGlobals "header" = some (some (.ref f_header)))
    (l_header : K.lookup f_header = some ⟨oc_header, od_header, .func (PySem.W.fnOf "header" "header" (defArgs s_header) (defBody s_header) (defScope s_header) .none kV_header dc_header pm_header an_header cd_header ct_header), sl_header⟩)
    (co_header : PySem.W.codeIn K cd_header "header" = true)
    (k_header : PySem.W.keepIn K (.ref f_header) = true)
    (a_kind_in : PySem.W.nsIn K mainGlobals "kind_in" = some (some (.ref f_kind_in)))
    (l_kind_in : K.lookup f_kind_in = some ⟨oc_kind_in, od_kind_in, .func (PySem.W.fnOf "kind_in" "kind_in" (defArgs s_kind_in) (defBody s_kind_in) (defScope s_kind_in) .none kV_kind_in dc_kind_in pm_kind_in an_kind_in cd_kind_in ct_kind_in), sl_kind_in⟩)
    (co_kind_in : PySem.W.codeIn K cd_kind_in "kind_in" = true)
    (k_kind_in : PySem.W.keepIn K (.ref f_kind_in) = true)
    (a_size_in : PySem.W.nsIn K mainGlobals "size_in" = some (some (.ref f_size_in)))
    (l_size_in : K.lookup f_size_in = some ⟨oc_size_in, od_size_in, .func (PySem.W.fnOf "size_in" "size_in" (defArgs s_size_in) (defBody s_size_in) (defScope s_size_in) .none kV_size_in dc_size_in pm_size_in an_size_in cd_size_in ct_size_in), sl_size_in⟩)
    (co_size_in : PySem.W.codeIn K cd_size_in "size_in" = true)
    (k_size_in : PySem.W.keepIn K (.ref f_size_in) = true)
    (a_is_marked : PySem.W.nsIn K mainGlobals "is_marked" = some (some (.ref f_is_marked)))
    (l_is_marked : K.lookup f_is_marked = some ⟨oc_is_marked, od_is_marked, .func (PySem.W.fnOf "is_marked" "is_marked" (defArgs s_is_marked) (defBody s_is_marked) (defScope s_is_marked) .none kV_is_marked dc_is_marked pm_is_marked an_is_marked cd_is_marked ct_is_marked), sl_is_marked⟩)
    (co_is_marked : PySem.W.codeIn K cd_is_marked "is_marked" = true)
    (k_is_marked : PySem.W.keepIn K (.ref f_is_marked) = true)
    (a_has_words : PySem.W.nsIn K mainGlobals "has_words" = some (some (.ref f_has_words)))
    (l_has_words : K.lookup f_has_words = some ⟨oc_has_words, od_has_words, .func (PySem.W.fnOf "has_words" "has_words" (defArgs s_has_words) (defBody s_has_words) (defScope s_has_words) .none kV_has_words dc_has_words pm_has_words an_has_words cd_has_words ct_has_words), sl_has_words⟩)
    (co_has_words : PySem.W.codeIn K cd_has_words "has_words" = true)
    (k_has_words : PySem.W.keepIn K (.ref f_has_words) = true)
    (a_with_mark : PySem.W.nsIn K mainGlobals "with_mark" = some (some (.ref f_with_mark)))
    (l_with_mark : K.lookup f_with_mark = some ⟨oc_with_mark, od_with_mark, .func (PySem.W.fnOf "with_mark" "with_mark" (defArgs s_with_mark) (defBody s_with_mark) (defScope s_with_mark) .none kV_with_mark dc_with_mark pm_with_mark an_with_mark cd_with_mark ct_with_mark), sl_with_mark⟩)
    (co_with_mark : PySem.W.codeIn K cd_with_mark "with_mark" = true)
    (k_with_mark : PySem.W.keepIn K (.ref f_with_mark) = true)
    (a_with_words : PySem.W.nsIn K mainGlobals "with_words" = some (some (.ref f_with_words)))
    (l_with_words : K.lookup f_with_words = some ⟨oc_with_words, od_with_words, .func (PySem.W.fnOf "with_words" "with_words" (defArgs s_with_words) (defBody s_with_words) (defScope s_with_words) .none kV_with_words dc_with_words pm_with_words an_with_words cd_with_words ct_with_words), sl_with_words⟩)
    (co_with_words : PySem.W.codeIn K cd_with_words "with_words" = true)
    (k_with_words : PySem.W.keepIn K (.ref f_with_words) = true)
    (a_with_bit : PySem.W.nsIn K mainGlobals "with_bit" = some (some (.ref f_with_bit)))
    (l_with_bit : K.lookup f_with_bit = some ⟨oc_with_bit, od_with_bit, .func (PySem.W.fnOf "with_bit" "with_bit" (defArgs s_with_bit) (defBody s_with_bit) (defScope s_with_bit) .none kV_with_bit dc_with_bit pm_with_bit an_with_bit cd_with_bit ct_with_bit), sl_with_bit⟩)
    (co_with_bit : PySem.W.codeIn K cd_with_bit "with_bit" = true)
    (k_with_bit : PySem.W.keepIn K (.ref f_with_bit) = true)
    (a_Rooms_init : PySem.W.findIn K (.ref C_Rooms) "__init__" = some (some (.ref f_Rooms_init)))
    (i_Rooms_init : PySem.W.isFn K (.ref f_Rooms_init) = true)
    (l_Rooms_init : K.lookup f_Rooms_init = some ⟨oc_Rooms_init, od_Rooms_init, .func (PySem.W.fnOf "__init__" "Rooms.__init__" (defArgs s_Rooms_init) (defBody s_Rooms_init) (defScope s_Rooms_init) .none kV_Rooms_init dc_Rooms_init pm_Rooms_init an_Rooms_init cd_Rooms_init ct_Rooms_init), sl_Rooms_init⟩)
    (co_Rooms_init : PySem.W.codeIn K cd_Rooms_init "Rooms.__init__" = true)
    (k_Rooms_init : PySem.W.keepIn K (.ref f_Rooms_init) = true)
    (a_Rooms_gap : PySem.W.findIn K (.ref C_Rooms) "gap" = some (some (.ref f_Rooms_gap)))
    (i_Rooms_gap : PySem.W.isFn K (.ref f_Rooms_gap) = true)
    (l_Rooms_gap : K.lookup f_Rooms_gap = some ⟨oc_Rooms_gap, od_Rooms_gap, .func (PySem.W.fnOf "gap" "Rooms.gap" (defArgs s_Rooms_gap) (defBody s_Rooms_gap) (defScope s_Rooms_gap) .none kV_Rooms_gap dc_Rooms_gap pm_Rooms_gap an_Rooms_gap cd_Rooms_gap ct_Rooms_gap), sl_Rooms_gap⟩)
    (co_Rooms_gap : PySem.W.codeIn K cd_Rooms_gap "Rooms.gap" = true)
    (k_Rooms_gap : PySem.W.keepIn K (.ref f_Rooms_gap) = true)
    (a_Rooms_gap_in : PySem.W.findIn K (.ref C_Rooms) "gap_in" = some (some (.ref f_Rooms_gap_in)))
    (i_Rooms_gap_in : PySem.W.isFn K (.ref f_Rooms_gap_in) = true)
    (l_Rooms_gap_in : K.lookup f_Rooms_gap_in = some ⟨oc_Rooms_gap_in, od_Rooms_gap_in, .func (PySem.W.fnOf "gap_in" "Rooms.gap_in" (defArgs s_Rooms_gap_in) (defBody s_Rooms_gap_in) (defScope s_Rooms_gap_in) .none kV_Rooms_gap_in dc_Rooms_gap_in pm_Rooms_gap_in an_Rooms_gap_in cd_Rooms_gap_in ct_Rooms_gap_in), sl_Rooms_gap_in⟩)
    (co_Rooms_gap_in : PySem.W.codeIn K cd_Rooms_gap_in "Rooms.gap_in" = true)
    (k_Rooms_gap_in : PySem.W.keepIn K (.ref f_Rooms_gap_in) = true)
    (a_Rooms_fill_in : PySem.W.findIn K (.ref C_Rooms) "fill_in" = some (some (.ref f_Rooms_fill_in)))
    (i_Rooms_fill_in : PySem.W.isFn K (.ref f_Rooms_fill_in) = true)
    (l_Rooms_fill_in : K.lookup f_Rooms_fill_in = some ⟨oc_Rooms_fill_in, od_Rooms_fill_in, .func (PySem.W.fnOf "fill_in" "Rooms.fill_in" (defArgs s_Rooms_fill_in) (defBody s_Rooms_fill_in) (defScope s_Rooms_fill_in) .none kV_Rooms_fill_in dc_Rooms_fill_in pm_Rooms_fill_in an_Rooms_fill_in cd_Rooms_fill_in ct_Rooms_fill_in), sl_Rooms_fill_in⟩)
    (co_Rooms_fill_in : PySem.W.codeIn K cd_Rooms_fill_in "Rooms.fill_in" = true)
    (k_Rooms_fill_in : PySem.W.keepIn K (.ref f_Rooms_fill_in) = true)
    (a_Rooms_set_free : PySem.W.findIn K (.ref C_Rooms) "set_free" = some (some (.ref f_Rooms_set_free)))
    (i_Rooms_set_free : PySem.W.isFn K (.ref f_Rooms_set_free) = true)
    (l_Rooms_set_free : K.lookup f_Rooms_set_free = some ⟨oc_Rooms_set_free, od_Rooms_set_free, .func (PySem.W.fnOf "set_free" "Rooms.set_free" (defArgs s_Rooms_set_free) (defBody s_Rooms_set_free) (defScope s_Rooms_set_free) .none kV_Rooms_set_free dc_Rooms_set_free pm_Rooms_set_free an_Rooms_set_free cd_Rooms_set_free ct_Rooms_set_free), sl_Rooms_set_free⟩)
    (co_Rooms_set_free : PySem.W.codeIn K cd_Rooms_set_free "Rooms.set_free" = true)
    (k_Rooms_set_free : PySem.W.keepIn K (.ref f_Rooms_set_free) = true)
    (a_Rooms_read : PySem.W.findIn K (.ref C_Rooms) "read" = some (some (.ref f_Rooms_read)))
    (i_Rooms_read : PySem.W.isFn K (.ref f_Rooms_read) = true)
    (l_Rooms_read : K.lookup f_Rooms_read = some ⟨oc_Rooms_read, od_Rooms_read, .func (PySem.W.fnOf "read" "Rooms.read" (defArgs s_Rooms_read) (defBody s_Rooms_read) (defScope s_Rooms_read) .none kV_Rooms_read dc_Rooms_read pm_Rooms_read an_Rooms_read cd_Rooms_read ct_Rooms_read), sl_Rooms_read⟩)
    (co_Rooms_read : PySem.W.codeIn K cd_Rooms_read "Rooms.read" = true)
    (k_Rooms_read : PySem.W.keepIn K (.ref f_Rooms_read) = true)
    (a_Rooms_write : PySem.W.findIn K (.ref C_Rooms) "write" = some (some (.ref f_Rooms_write)))
    (i_Rooms_write : PySem.W.isFn K (.ref f_Rooms_write) = true)
    (l_Rooms_write : K.lookup f_Rooms_write = some ⟨oc_Rooms_write, od_Rooms_write, .func (PySem.W.fnOf "write" "Rooms.write" (defArgs s_Rooms_write) (defBody s_Rooms_write) (defScope s_Rooms_write) .none kV_Rooms_write dc_Rooms_write pm_Rooms_write an_Rooms_write cd_Rooms_write ct_Rooms_write), sl_Rooms_write⟩)
    (co_Rooms_write : PySem.W.codeIn K cd_Rooms_write "Rooms.write" = true)
    (k_Rooms_write : PySem.W.keepIn K (.ref f_Rooms_write) = true)
    (a_Rooms_room_of : PySem.W.findIn K (.ref C_Rooms) "room_of" = some (some (.ref f_Rooms_room_of)))
    (i_Rooms_room_of : PySem.W.isFn K (.ref f_Rooms_room_of) = true)
    (l_Rooms_room_of : K.lookup f_Rooms_room_of = some ⟨oc_Rooms_room_of, od_Rooms_room_of, .func (PySem.W.fnOf "room_of" "Rooms.room_of" (defArgs s_Rooms_room_of) (defBody s_Rooms_room_of) (defScope s_Rooms_room_of) .none kV_Rooms_room_of dc_Rooms_room_of pm_Rooms_room_of an_Rooms_room_of cd_Rooms_room_of ct_Rooms_room_of), sl_Rooms_room_of⟩)
    (co_Rooms_room_of : PySem.W.codeIn K cd_Rooms_room_of "Rooms.room_of" = true)
    (k_Rooms_room_of : PySem.W.keepIn K (.ref f_Rooms_room_of) = true)
    (a_Thing_init : PySem.W.findIn K (.ref C_Thing) "__init__" = some (some (.ref f_Thing_init)))
    (i_Thing_init : PySem.W.isFn K (.ref f_Thing_init) = true)
    (l_Thing_init : K.lookup f_Thing_init = some ⟨oc_Thing_init, od_Thing_init, .func (PySem.W.fnOf "__init__" "Thing.__init__" (defArgs s_Thing_init) (defBody s_Thing_init) (defScope s_Thing_init) .none kV_Thing_init dc_Thing_init pm_Thing_init an_Thing_init cd_Thing_init ct_Thing_init), sl_Thing_init⟩)
    (co_Thing_init : PySem.W.codeIn K cd_Thing_init "Thing.__init__" = true)
    (k_Thing_init : PySem.W.keepIn K (.ref f_Thing_init) = true)
    (a_Thing_sort_of : PySem.W.findIn K (.ref C_Thing) "sort_of" = some (some (.ref f_Thing_sort_of)))
    (i_Thing_sort_of : PySem.W.isFn K (.ref f_Thing_sort_of) = true)
    (l_Thing_sort_of : K.lookup f_Thing_sort_of = some ⟨oc_Thing_sort_of, od_Thing_sort_of, .func (PySem.W.fnOf "sort_of" "Thing.sort_of" (defArgs s_Thing_sort_of) (defBody s_Thing_sort_of) (defScope s_Thing_sort_of) .none kV_Thing_sort_of dc_Thing_sort_of pm_Thing_sort_of an_Thing_sort_of cd_Thing_sort_of ct_Thing_sort_of), sl_Thing_sort_of⟩)
    (co_Thing_sort_of : PySem.W.codeIn K cd_Thing_sort_of "Thing.sort_of" = true)
    (k_Thing_sort_of : PySem.W.keepIn K (.ref f_Thing_sort_of) = true)
    (a_Thing_fields : PySem.W.findIn K (.ref C_Thing) "fields" = some (some (.ref f_Thing_fields)))
    (i_Thing_fields : PySem.W.isFn K (.ref f_Thing_fields) = true)
    (l_Thing_fields : K.lookup f_Thing_fields = some ⟨oc_Thing_fields, od_Thing_fields, .func (PySem.W.fnOf "fields" "Thing.fields" (defArgs s_Thing_fields) (defBody s_Thing_fields) (defScope s_Thing_fields) .none kV_Thing_fields dc_Thing_fields pm_Thing_fields an_Thing_fields cd_Thing_fields ct_Thing_fields), sl_Thing_fields⟩)
    (co_Thing_fields : PySem.W.codeIn K cd_Thing_fields "Thing.fields" = true)
    (k_Thing_fields : PySem.W.keepIn K (.ref f_Thing_fields) = true)
    (a_Thing_words : PySem.W.findIn K (.ref C_Thing) "words" = some (some (.ref f_Thing_words)))
    (i_Thing_words : PySem.W.isFn K (.ref f_Thing_words) = true)
    (l_Thing_words : K.lookup f_Thing_words = some ⟨oc_Thing_words, od_Thing_words, .func (PySem.W.fnOf "words" "Thing.words" (defArgs s_Thing_words) (defBody s_Thing_words) (defScope s_Thing_words) .none kV_Thing_words dc_Thing_words pm_Thing_words an_Thing_words cd_Thing_words ct_Thing_words), sl_Thing_words⟩)
    (co_Thing_words : PySem.W.codeIn K cd_Thing_words "Thing.words" = true)
    (k_Thing_words : PySem.W.keepIn K (.ref f_Thing_words) = true)
    (a_PlainThing_init : PySem.W.findIn K (.ref C_PlainThing) "__init__" = some (some (.ref f_PlainThing_init)))
    (i_PlainThing_init : PySem.W.isFn K (.ref f_PlainThing_init) = true)
    (l_PlainThing_init : K.lookup f_PlainThing_init = some ⟨oc_PlainThing_init, od_PlainThing_init, .func (PySem.W.fnOf "__init__" "PlainThing.__init__" (defArgs s_PlainThing_init) (defBody s_PlainThing_init) (defScope s_PlainThing_init) .none kV_PlainThing_init dc_PlainThing_init pm_PlainThing_init an_PlainThing_init cd_PlainThing_init ct_PlainThing_init), sl_PlainThing_init⟩)
    (co_PlainThing_init : PySem.W.codeIn K cd_PlainThing_init "PlainThing.__init__" = true)
    (k_PlainThing_init : PySem.W.keepIn K (.ref f_PlainThing_init) = true)
    (a_PlainThing_words : PySem.W.findIn K (.ref C_PlainThing) "words" = some (some (.ref f_PlainThing_words)))
    (i_PlainThing_words : PySem.W.isFn K (.ref f_PlainThing_words) = true)
    (l_PlainThing_words : K.lookup f_PlainThing_words = some ⟨oc_PlainThing_words, od_PlainThing_words, .func (PySem.W.fnOf "words" "PlainThing.words" (defArgs s_PlainThing_words) (defBody s_PlainThing_words) (defScope s_PlainThing_words) .none kV_PlainThing_words dc_PlainThing_words pm_PlainThing_words an_PlainThing_words cd_PlainThing_words ct_PlainThing_words), sl_PlainThing_words⟩)
    (co_PlainThing_words : PySem.W.codeIn K cd_PlainThing_words "PlainThing.words" = true)
    (k_PlainThing_words : PySem.W.keepIn K (.ref f_PlainThing_words) = true)
    (a_PairThing_init : PySem.W.findIn K (.ref C_PairThing) "__init__" = some (some (.ref f_PairThing_init)))
    (i_PairThing_init : PySem.W.isFn K (.ref f_PairThing_init) = true)
    (l_PairThing_init : K.lookup f_PairThing_init = some ⟨oc_PairThing_init, od_PairThing_init, .func (PySem.W.fnOf "__init__" "PairThing.__init__" (defArgs s_PairThing_init) (defBody s_PairThing_init) (defScope s_PairThing_init) .none kV_PairThing_init dc_PairThing_init pm_PairThing_init an_PairThing_init cd_PairThing_init ct_PairThing_init), sl_PairThing_init⟩)
    (co_PairThing_init : PySem.W.codeIn K cd_PairThing_init "PairThing.__init__" = true)
    (k_PairThing_init : PySem.W.keepIn K (.ref f_PairThing_init) = true)
    (a_plain : PySem.W.nsIn K mainGlobals "plain" = some (some (.ref f_plain)))
    (l_plain : K.lookup f_plain = some ⟨oc_plain, od_plain, .func (PySem.W.fnOf "plain" "plain" (defArgs s_plain) (defBody s_plain) (defScope s_plain) .none kV_plain dc_plain pm_plain an_plain cd_plain ct_plain), sl_plain⟩)
    (co_plain : PySem.W.codeIn K cd_plain "plain" = true)
    (k_plain : PySem.W.keepIn K (.ref f_plain) = true)
    (a_weak : PySem.W.nsIn K mainGlobals "weak" = some (some (.ref f_weak)))
    (l_weak : K.lookup f_weak = some ⟨oc_weak, od_weak, .func (PySem.W.fnOf "weak" "weak" (defArgs s_weak) (defBody s_weak) (defScope s_weak) .none kV_weak dc_weak pm_weak an_weak cd_weak ct_weak), sl_weak⟩)
    (co_weak : PySem.W.codeIn K cd_weak "weak" = true)
    (k_weak : PySem.W.keepIn K (.ref f_weak) = true)
    (a_pair : PySem.W.nsIn K mainGlobals "pair" = some (some (.ref f_pair)))
    (l_pair : K.lookup f_pair = some ⟨oc_pair, od_pair, .func (PySem.W.fnOf "pair" "pair" (defArgs s_pair) (defBody s_pair) (defScope s_pair) .none kV_pair dc_pair pm_pair an_pair cd_pair ct_pair), sl_pair⟩)
    (co_pair : PySem.W.codeIn K cd_pair "pair" = true)
    (k_pair : PySem.W.keepIn K (.ref f_pair) = true)
    (a_first_field : PySem.W.nsIn K mainGlobals "first_field" = some (some (.ref f_first_field)))
    (l_first_field : K.lookup f_first_field = some ⟨oc_first_field, od_first_field, .func (PySem.W.fnOf "first_field" "first_field" (defArgs s_first_field) (defBody s_first_field) (defScope s_first_field) .none kV_first_field dc_first_field pm_first_field an_first_field cd_first_field ct_first_field), sl_first_field⟩)
    (co_first_field : PySem.W.codeIn K cd_first_field "first_field" = true)
    (k_first_field : PySem.W.keepIn K (.ref f_first_field) = true)
    (a_size_of : PySem.W.nsIn K mainGlobals "size_of" = some (some (.ref f_size_of)))
    (l_size_of : K.lookup f_size_of = some ⟨oc_size_of, od_size_of, .func (PySem.W.fnOf "size_of" "size_of" (defArgs s_size_of) (defBody s_size_of) (defScope s_size_of) .none kV_size_of dc_size_of pm_size_of an_size_of cd_size_of ct_size_of), sl_size_of⟩)
    (co_size_of : PySem.W.codeIn K cd_size_of "size_of" = true)
    (k_size_of : PySem.W.keepIn K (.ref f_size_of) = true)
    (a_words_cell : PySem.W.nsIn K mainGlobals "words_cell" = some (some (.ref f_words_cell)))
    (l_words_cell : K.lookup f_words_cell = some ⟨oc_words_cell, od_words_cell, .func (PySem.W.fnOf "words_cell" "words_cell" (defArgs s_words_cell) (defBody s_words_cell) (defScope s_words_cell) .none kV_words_cell dc_words_cell pm_words_cell an_words_cell cd_words_cell ct_words_cell), sl_words_cell⟩)
    (co_words_cell : PySem.W.codeIn K cd_words_cell "words_cell" = true)
    (k_words_cell : PySem.W.keepIn K (.ref f_words_cell) = true)
    (a_cells_of : PySem.W.nsIn K mainGlobals "cells_of" = some (some (.ref f_cells_of)))
    (l_cells_of : K.lookup f_cells_of = some ⟨oc_cells_of, od_cells_of, .func (PySem.W.fnOf "cells_of" "cells_of" (defArgs s_cells_of) (defBody s_cells_of) (defScope s_cells_of) .none kV_cells_of dc_cells_of pm_cells_of an_cells_of cd_cells_of ct_cells_of), sl_cells_of⟩)
    (co_cells_of : PySem.W.codeIn K cd_cells_of "cells_of" = true)
    (k_cells_of : PySem.W.keepIn K (.ref f_cells_of) = true)
    (a_Memory_init : PySem.W.findIn K (.ref C_Memory) "__init__" = some (some (.ref f_Memory_init)))
    (i_Memory_init : PySem.W.isFn K (.ref f_Memory_init) = true)
    (l_Memory_init : K.lookup f_Memory_init = some ⟨oc_Memory_init, od_Memory_init, .func (PySem.W.fnOf "__init__" "Memory.__init__" (defArgs s_Memory_init) (defBody s_Memory_init) (defScope s_Memory_init) .none kV_Memory_init dc_Memory_init pm_Memory_init an_Memory_init cd_Memory_init ct_Memory_init), sl_Memory_init⟩)
    (co_Memory_init : PySem.W.codeIn K cd_Memory_init "Memory.__init__" = true)
    (k_Memory_init : PySem.W.keepIn K (.ref f_Memory_init) = true)
    (a_Memory_put_in : PySem.W.findIn K (.ref C_Memory) "put_in" = some (some (.ref f_Memory_put_in)))
    (i_Memory_put_in : PySem.W.isFn K (.ref f_Memory_put_in) = true)
    (l_Memory_put_in : K.lookup f_Memory_put_in = some ⟨oc_Memory_put_in, od_Memory_put_in, .func (PySem.W.fnOf "put_in" "Memory.put_in" (defArgs s_Memory_put_in) (defBody s_Memory_put_in) (defScope s_Memory_put_in) .none kV_Memory_put_in dc_Memory_put_in pm_Memory_put_in an_Memory_put_in cd_Memory_put_in ct_Memory_put_in), sl_Memory_put_in⟩)
    (co_Memory_put_in : PySem.W.codeIn K cd_Memory_put_in "Memory.put_in" = true)
    (k_Memory_put_in : PySem.W.keepIn K (.ref f_Memory_put_in) = true)
    (a_Memory_fill_from : PySem.W.findIn K (.ref C_Memory) "fill_from" = some (some (.ref f_Memory_fill_from)))
    (i_Memory_fill_from : PySem.W.isFn K (.ref f_Memory_fill_from) = true)
    (l_Memory_fill_from : K.lookup f_Memory_fill_from = some ⟨oc_Memory_fill_from, od_Memory_fill_from, .func (PySem.W.fnOf "fill_from" "Memory.fill_from" (defArgs s_Memory_fill_from) (defBody s_Memory_fill_from) (defScope s_Memory_fill_from) .none kV_Memory_fill_from dc_Memory_fill_from pm_Memory_fill_from an_Memory_fill_from cd_Memory_fill_from ct_Memory_fill_from), sl_Memory_fill_from⟩)
    (co_Memory_fill_from : PySem.W.codeIn K cd_Memory_fill_from "Memory.fill_from" = true)
    (k_Memory_fill_from : PySem.W.keepIn K (.ref f_Memory_fill_from) = true)
    (a_Memory_head_at : PySem.W.findIn K (.ref C_Memory) "head_at" = some (some (.ref f_Memory_head_at)))
    (i_Memory_head_at : PySem.W.isFn K (.ref f_Memory_head_at) = true)
    (l_Memory_head_at : K.lookup f_Memory_head_at = some ⟨oc_Memory_head_at, od_Memory_head_at, .func (PySem.W.fnOf "head_at" "Memory.head_at" (defArgs s_Memory_head_at) (defBody s_Memory_head_at) (defScope s_Memory_head_at) .none kV_Memory_head_at dc_Memory_head_at pm_Memory_head_at an_Memory_head_at cd_Memory_head_at ct_Memory_head_at), sl_Memory_head_at⟩)
    (co_Memory_head_at : PySem.W.codeIn K cd_Memory_head_at "Memory.head_at" = true)
    (k_Memory_head_at : PySem.W.keepIn K (.ref f_Memory_head_at) = true)
    (a_Memory_thing_at : PySem.W.findIn K (.ref C_Memory) "thing_at" = some (some (.ref f_Memory_thing_at)))
    (i_Memory_thing_at : PySem.W.isFn K (.ref f_Memory_thing_at) = true)
    (l_Memory_thing_at : K.lookup f_Memory_thing_at = some ⟨oc_Memory_thing_at, od_Memory_thing_at, .func (PySem.W.fnOf "thing_at" "Memory.thing_at" (defArgs s_Memory_thing_at) (defBody s_Memory_thing_at) (defScope s_Memory_thing_at) .none kV_Memory_thing_at dc_Memory_thing_at pm_Memory_thing_at an_Memory_thing_at cd_Memory_thing_at ct_Memory_thing_at), sl_Memory_thing_at⟩)
    (co_Memory_thing_at : PySem.W.codeIn K cd_Memory_thing_at "Memory.thing_at" = true)
    (k_Memory_thing_at : PySem.W.keepIn K (.ref f_Memory_thing_at) = true)
    (a_Memory_words_at : PySem.W.findIn K (.ref C_Memory) "words_at" = some (some (.ref f_Memory_words_at)))
    (i_Memory_words_at : PySem.W.isFn K (.ref f_Memory_words_at) = true)
    (l_Memory_words_at : K.lookup f_Memory_words_at = some ⟨oc_Memory_words_at, od_Memory_words_at, .func (PySem.W.fnOf "words_at" "Memory.words_at" (defArgs s_Memory_words_at) (defBody s_Memory_words_at) (defScope s_Memory_words_at) .none kV_Memory_words_at dc_Memory_words_at pm_Memory_words_at an_Memory_words_at cd_Memory_words_at ct_Memory_words_at), sl_Memory_words_at⟩)
    (co_Memory_words_at : PySem.W.codeIn K cd_Memory_words_at "Memory.words_at" = true)
    (k_Memory_words_at : PySem.W.keepIn K (.ref f_Memory_words_at) = true)
    (a_Memory_serial_at : PySem.W.findIn K (.ref C_Memory) "serial_at" = some (some (.ref f_Memory_serial_at)))
    (i_Memory_serial_at : PySem.W.isFn K (.ref f_Memory_serial_at) = true)
    (l_Memory_serial_at : K.lookup f_Memory_serial_at = some ⟨oc_Memory_serial_at, od_Memory_serial_at, .func (PySem.W.fnOf "serial_at" "Memory.serial_at" (defArgs s_Memory_serial_at) (defBody s_Memory_serial_at) (defScope s_Memory_serial_at) .none kV_Memory_serial_at dc_Memory_serial_at pm_Memory_serial_at an_Memory_serial_at cd_Memory_serial_at ct_Memory_serial_at), sl_Memory_serial_at⟩)
    (co_Memory_serial_at : PySem.W.codeIn K cd_Memory_serial_at "Memory.serial_at" = true)
    (k_Memory_serial_at : PySem.W.keepIn K (.ref f_Memory_serial_at) = true)
    (a_Memory_size_at : PySem.W.findIn K (.ref C_Memory) "size_at" = some (some (.ref f_Memory_size_at)))
    (i_Memory_size_at : PySem.W.isFn K (.ref f_Memory_size_at) = true)
    (l_Memory_size_at : K.lookup f_Memory_size_at = some ⟨oc_Memory_size_at, od_Memory_size_at, .func (PySem.W.fnOf "size_at" "Memory.size_at" (defArgs s_Memory_size_at) (defBody s_Memory_size_at) (defScope s_Memory_size_at) .none kV_Memory_size_at dc_Memory_size_at pm_Memory_size_at an_Memory_size_at cd_Memory_size_at ct_Memory_size_at), sl_Memory_size_at⟩)
    (co_Memory_size_at : PySem.W.codeIn K cd_Memory_size_at "Memory.size_at" = true)
    (k_Memory_size_at : PySem.W.keepIn K (.ref f_Memory_size_at) = true)
    (a_Memory_sort_at : PySem.W.findIn K (.ref C_Memory) "sort_at" = some (some (.ref f_Memory_sort_at)))
    (i_Memory_sort_at : PySem.W.isFn K (.ref f_Memory_sort_at) = true)
    (l_Memory_sort_at : K.lookup f_Memory_sort_at = some ⟨oc_Memory_sort_at, od_Memory_sort_at, .func (PySem.W.fnOf "sort_at" "Memory.sort_at" (defArgs s_Memory_sort_at) (defBody s_Memory_sort_at) (defScope s_Memory_sort_at) .none kV_Memory_sort_at dc_Memory_sort_at pm_Memory_sort_at an_Memory_sort_at cd_Memory_sort_at ct_Memory_sort_at), sl_Memory_sort_at⟩)
    (co_Memory_sort_at : PySem.W.codeIn K cd_Memory_sort_at "Memory.sort_at" = true)
    (k_Memory_sort_at : PySem.W.keepIn K (.ref f_Memory_sort_at) = true)
    (a_Memory_marked_at : PySem.W.findIn K (.ref C_Memory) "marked_at" = some (some (.ref f_Memory_marked_at)))
    (i_Memory_marked_at : PySem.W.isFn K (.ref f_Memory_marked_at) = true)
    (l_Memory_marked_at : K.lookup f_Memory_marked_at = some ⟨oc_Memory_marked_at, od_Memory_marked_at, .func (PySem.W.fnOf "marked_at" "Memory.marked_at" (defArgs s_Memory_marked_at) (defBody s_Memory_marked_at) (defScope s_Memory_marked_at) .none kV_Memory_marked_at dc_Memory_marked_at pm_Memory_marked_at an_Memory_marked_at cd_Memory_marked_at ct_Memory_marked_at), sl_Memory_marked_at⟩)
    (co_Memory_marked_at : PySem.W.codeIn K cd_Memory_marked_at "Memory.marked_at" = true)
    (k_Memory_marked_at : PySem.W.keepIn K (.ref f_Memory_marked_at) = true)
    (a_Memory_set_mark : PySem.W.findIn K (.ref C_Memory) "set_mark" = some (some (.ref f_Memory_set_mark)))
    (i_Memory_set_mark : PySem.W.isFn K (.ref f_Memory_set_mark) = true)
    (l_Memory_set_mark : K.lookup f_Memory_set_mark = some ⟨oc_Memory_set_mark, od_Memory_set_mark, .func (PySem.W.fnOf "set_mark" "Memory.set_mark" (defArgs s_Memory_set_mark) (defBody s_Memory_set_mark) (defScope s_Memory_set_mark) .none kV_Memory_set_mark dc_Memory_set_mark pm_Memory_set_mark an_Memory_set_mark cd_Memory_set_mark ct_Memory_set_mark), sl_Memory_set_mark⟩)
    (co_Memory_set_mark : PySem.W.codeIn K cd_Memory_set_mark "Memory.set_mark" = true)
    (k_Memory_set_mark : PySem.W.keepIn K (.ref f_Memory_set_mark) = true)
    (a_Memory_set_field : PySem.W.findIn K (.ref C_Memory) "set_field" = some (some (.ref f_Memory_set_field)))
    (i_Memory_set_field : PySem.W.isFn K (.ref f_Memory_set_field) = true)
    (l_Memory_set_field : K.lookup f_Memory_set_field = some ⟨oc_Memory_set_field, od_Memory_set_field, .func (PySem.W.fnOf "set_field" "Memory.set_field" (defArgs s_Memory_set_field) (defBody s_Memory_set_field) (defScope s_Memory_set_field) .none kV_Memory_set_field dc_Memory_set_field pm_Memory_set_field an_Memory_set_field cd_Memory_set_field ct_Memory_set_field), sl_Memory_set_field⟩)
    (co_Memory_set_field : PySem.W.codeIn K cd_Memory_set_field "Memory.set_field" = true)
    (k_Memory_set_field : PySem.W.keepIn K (.ref f_Memory_set_field) = true)
    (a_Memory_set_words : PySem.W.findIn K (.ref C_Memory) "set_words" = some (some (.ref f_Memory_set_words)))
    (i_Memory_set_words : PySem.W.isFn K (.ref f_Memory_set_words) = true)
    (l_Memory_set_words : K.lookup f_Memory_set_words = some ⟨oc_Memory_set_words, od_Memory_set_words, .func (PySem.W.fnOf "set_words" "Memory.set_words" (defArgs s_Memory_set_words) (defBody s_Memory_set_words) (defScope s_Memory_set_words) .none kV_Memory_set_words dc_Memory_set_words pm_Memory_set_words an_Memory_set_words cd_Memory_set_words ct_Memory_set_words), sl_Memory_set_words⟩)
    (co_Memory_set_words : PySem.W.codeIn K cd_Memory_set_words "Memory.set_words" = true)
    (k_Memory_set_words : PySem.W.keepIn K (.ref f_Memory_set_words) = true)
    (a_Memory_take_out : PySem.W.findIn K (.ref C_Memory) "take_out" = some (some (.ref f_Memory_take_out)))
    (i_Memory_take_out : PySem.W.isFn K (.ref f_Memory_take_out) = true)
    (l_Memory_take_out : K.lookup f_Memory_take_out = some ⟨oc_Memory_take_out, od_Memory_take_out, .func (PySem.W.fnOf "take_out" "Memory.take_out" (defArgs s_Memory_take_out) (defBody s_Memory_take_out) (defScope s_Memory_take_out) .none kV_Memory_take_out dc_Memory_take_out pm_Memory_take_out an_Memory_take_out cd_Memory_take_out ct_Memory_take_out), sl_Memory_take_out⟩)
    (co_Memory_take_out : PySem.W.codeIn K cd_Memory_take_out "Memory.take_out" = true)
    (k_Memory_take_out : PySem.W.keepIn K (.ref f_Memory_take_out) = true)
    (a_Memory_places : PySem.W.findIn K (.ref C_Memory) "places" = some (some (.ref f_Memory_places)))
    (i_Memory_places : PySem.W.isFn K (.ref f_Memory_places) = true)
    (l_Memory_places : K.lookup f_Memory_places = some ⟨oc_Memory_places, od_Memory_places, .func (PySem.W.fnOf "places" "Memory.places" (defArgs s_Memory_places) (defBody s_Memory_places) (defScope s_Memory_places) .none kV_Memory_places dc_Memory_places pm_Memory_places an_Memory_places cd_Memory_places ct_Memory_places), sl_Memory_places⟩)
    (co_Memory_places : PySem.W.codeIn K cd_Memory_places "Memory.places" = true)
    (k_Memory_places : PySem.W.keepIn K (.ref f_Memory_places) = true)
    (a_Memory_places_in : PySem.W.findIn K (.ref C_Memory) "places_in" = some (some (.ref f_Memory_places_in)))
    (i_Memory_places_in : PySem.W.isFn K (.ref f_Memory_places_in) = true)
    (l_Memory_places_in : K.lookup f_Memory_places_in = some ⟨oc_Memory_places_in, od_Memory_places_in, .func (PySem.W.fnOf "places_in" "Memory.places_in" (defArgs s_Memory_places_in) (defBody s_Memory_places_in) (defScope s_Memory_places_in) .none kV_Memory_places_in dc_Memory_places_in pm_Memory_places_in an_Memory_places_in cd_Memory_places_in ct_Memory_places_in), sl_Memory_places_in⟩)
    (co_Memory_places_in : PySem.W.codeIn K cd_Memory_places_in "Memory.places_in" = true)
    (k_Memory_places_in : PySem.W.keepIn K (.ref f_Memory_places_in) = true)
    (a_law_cell_at : PySem.W.nsIn K mainGlobals "_law_cell_at" = some (some (.ref f_law_cell_at)))
    (l_law_cell_at : K.lookup f_law_cell_at = some ⟨oc_law_cell_at, od_law_cell_at, .func (PySem.W.fnOf "_law_cell_at" "_law_cell_at" (defArgs s_law_cell_at) (defBody s_law_cell_at) (defScope s_law_cell_at) .none kV_law_cell_at dc_law_cell_at pm_law_cell_at an_law_cell_at cd_law_cell_at ct_law_cell_at), sl_law_cell_at⟩)
    (co_law_cell_at : PySem.W.codeIn K cd_law_cell_at "_law_cell_at" = true)
    (k_law_cell_at : PySem.W.keepIn K (.ref f_law_cell_at) = true)
    (a_law_drawn : PySem.W.nsIn K mainGlobals "_law_drawn" = some (some (.ref f_law_drawn)))
    (l_law_drawn : K.lookup f_law_drawn = some ⟨oc_law_drawn, od_law_drawn, .func (PySem.W.fnOf "_law_drawn" "_law_drawn" (defArgs s_law_drawn) (defBody s_law_drawn) (defScope s_law_drawn) .none kV_law_drawn dc_law_drawn pm_law_drawn an_law_drawn cd_law_drawn ct_law_drawn), sl_law_drawn⟩)
    (co_law_drawn : PySem.W.codeIn K cd_law_drawn "_law_drawn" = true)
    (k_law_drawn : PySem.W.keepIn K (.ref f_law_drawn) = true)
    (a_law_value : PySem.W.nsIn K mainGlobals "_law_value" = some (some (.ref f_law_value)))
    (l_law_value : K.lookup f_law_value = some ⟨oc_law_value, od_law_value, .func (PySem.W.fnOf "_law_value" "_law_value" (defArgs s_law_value) (defBody s_law_value) (defScope s_law_value) .none kV_law_value dc_law_value pm_law_value an_law_value cd_law_value ct_law_value), sl_law_value⟩)
    (co_law_value : PySem.W.codeIn K cd_law_value "_law_value" = true)
    (k_law_value : PySem.W.keepIn K (.ref f_law_value) = true)
    (a_law_shape : PySem.W.nsIn K mainGlobals "_law_shape" = some (some (.ref f_law_shape)))
    (l_law_shape : K.lookup f_law_shape = some ⟨oc_law_shape, od_law_shape, .func (PySem.W.fnOf "_law_shape" "_law_shape" (defArgs s_law_shape) (defBody s_law_shape) (defScope s_law_shape) .none kV_law_shape dc_law_shape pm_law_shape an_law_shape cd_law_shape ct_law_shape), sl_law_shape⟩)
    (co_law_shape : PySem.W.codeIn K cd_law_shape "_law_shape" = true)
    (k_law_shape : PySem.W.keepIn K (.ref f_law_shape) = true)
    (a_law_thing : PySem.W.nsIn K mainGlobals "_law_thing" = some (some (.ref f_law_thing)))
    (l_law_thing : K.lookup f_law_thing = some ⟨oc_law_thing, od_law_thing, .func (PySem.W.fnOf "_law_thing" "_law_thing" (defArgs s_law_thing) (defBody s_law_thing) (defScope s_law_thing) .none kV_law_thing dc_law_thing pm_law_thing an_law_thing cd_law_thing ct_law_thing), sl_law_thing⟩)
    (co_law_thing : PySem.W.codeIn K cd_law_thing "_law_thing" = true)
    (k_law_thing : PySem.W.keepIn K (.ref f_law_thing) = true)
    (a_law_size : PySem.W.nsIn K mainGlobals "_law_size" = some (some (.ref f_law_size)))
    (l_law_size : K.lookup f_law_size = some ⟨oc_law_size, od_law_size, .func (PySem.W.fnOf "_law_size" "_law_size" (defArgs s_law_size) (defBody s_law_size) (defScope s_law_size) .none kV_law_size dc_law_size pm_law_size an_law_size cd_law_size ct_law_size), sl_law_size⟩)
    (co_law_size : PySem.W.codeIn K cd_law_size "_law_size" = true)
    (k_law_size : PySem.W.keepIn K (.ref f_law_size) = true)
    (a_law_whole : PySem.W.nsIn K mainGlobals "_law_whole" = some (some (.ref f_law_whole)))
    (l_law_whole : K.lookup f_law_whole = some ⟨oc_law_whole, od_law_whole, .func (PySem.W.fnOf "_law_whole" "_law_whole" (defArgs s_law_whole) (defBody s_law_whole) (defScope s_law_whole) .none kV_law_whole dc_law_whole pm_law_whole an_law_whole cd_law_whole ct_law_whole), sl_law_whole⟩)
    (co_law_whole : PySem.W.codeIn K cd_law_whole "_law_whole" = true)
    (k_law_whole : PySem.W.keepIn K (.ref f_law_whole) = true)
    (a_law_held : PySem.W.nsIn K mainGlobals "_law_held" = some (some (.ref f_law_held)))
    (l_law_held : K.lookup f_law_held = some ⟨oc_law_held, od_law_held, .func (PySem.W.fnOf "_law_held" "_law_held" (defArgs s_law_held) (defBody s_law_held) (defScope s_law_held) .none kV_law_held dc_law_held pm_law_held an_law_held cd_law_held ct_law_held), sl_law_held⟩)
    (co_law_held : PySem.W.codeIn K cd_law_held "_law_held" = true)
    (k_law_held : PySem.W.keepIn K (.ref f_law_held) = true)
    (a_law_apart : PySem.W.nsIn K mainGlobals "_law_apart" = some (some (.ref f_law_apart)))
    (l_law_apart : K.lookup f_law_apart = some ⟨oc_law_apart, od_law_apart, .func (PySem.W.fnOf "_law_apart" "_law_apart" (defArgs s_law_apart) (defBody s_law_apart) (defScope s_law_apart) .none kV_law_apart dc_law_apart pm_law_apart an_law_apart cd_law_apart ct_law_apart), sl_law_apart⟩)
    (co_law_apart : PySem.W.codeIn K cd_law_apart "_law_apart" = true)
    (k_law_apart : PySem.W.keepIn K (.ref f_law_apart) = true)
    (a_law_least : PySem.W.nsIn K mainGlobals "_law_least" = some (some (.ref f_law_least)))
    (l_law_least : K.lookup f_law_least = some ⟨oc_law_least, od_law_least, .func (PySem.W.fnOf "_law_least" "_law_least" (defArgs s_law_least) (defBody s_law_least) (defScope s_law_least) .none kV_law_least dc_law_least pm_law_least an_law_least cd_law_least ct_law_least), sl_law_least⟩)
    (co_law_least : PySem.W.codeIn K cd_law_least "_law_least" = true)
    (k_law_least : PySem.W.keepIn K (.ref f_law_least) = true)
    (a_law_done : PySem.W.nsIn K mainGlobals "_law_done" = some (some (.ref f_law_done)))
    (l_law_done : K.lookup f_law_done = some ⟨oc_law_done, od_law_done, .func (PySem.W.fnOf "_law_done" "_law_done" (defArgs s_law_done) (defBody s_law_done) (defScope s_law_done) .none kV_law_done dc_law_done pm_law_done an_law_done cd_law_done ct_law_done), sl_law_done⟩)
    (co_law_done : PySem.W.codeIn K cd_law_done "_law_done" = true)
    (k_law_done : PySem.W.keepIn K (.ref f_law_done) = true)
    (a_law : PySem.W.nsIn K mainGlobals "law" = some (some (.ref f_law)))
    (l_law : K.lookup f_law = some ⟨oc_law, od_law, .func (PySem.W.fnOf "law" "law" (defArgs s_law) (defBody s_law) (defScope s_law) .none kV_law dc_law pm_law an_law cd_law ct_law), sl_law⟩)
    (co_law : PySem.W.codeIn K cd_law "law" = true)
    (k_law : PySem.W.keepIn K (.ref f_law) = true)
    (pg_Rooms : PySem.W.plainGet K C_Rooms Str.empty = true)
    (hd_Rooms : PySem.W.hasDictIn K C_Rooms = true)
    (po_Rooms : PySem.W.plainOver K C_Rooms = true)
    (sa_Rooms : PySem.W.findIn K (.ref C_Rooms) "__setattr__" = some (some (.builtin "object.__setattr__")))
    (mi_Rooms : PySem.W.makesIn K C_Rooms = true)
    (kc_Rooms : PySem.W.keepIn K (.ref C_Rooms) = true)
    (na_Rooms_many : PySem.W.findIn K (.ref C_Rooms) "many" = some none)
    (na_Rooms_cells : PySem.W.findIn K (.ref C_Rooms) "cells" = some none)
    (na_Rooms_inside : PySem.W.findIn K (.ref C_Rooms) "inside" = some none)
    (pg_Thing : PySem.W.plainGet K C_Thing Str.empty = true)
    (hd_Thing : PySem.W.hasDictIn K C_Thing = true)
    (po_Thing : PySem.W.plainOver K C_Thing = true)
    (sa_Thing : PySem.W.findIn K (.ref C_Thing) "__setattr__" = some (some (.builtin "object.__setattr__")))
    (mi_Thing : PySem.W.makesIn K C_Thing = true)
    (kc_Thing : PySem.W.keepIn K (.ref C_Thing) = true)
    (na_Thing_called : PySem.W.findIn K (.ref C_Thing) "called" = some none)
    (na_Thing_parts : PySem.W.findIn K (.ref C_Thing) "parts" = some none)
    (pg_PlainThing : PySem.W.plainGet K C_PlainThing Str.empty = true)
    (hd_PlainThing : PySem.W.hasDictIn K C_PlainThing = true)
    (po_PlainThing : PySem.W.plainOver K C_PlainThing = true)
    (sa_PlainThing : PySem.W.findIn K (.ref C_PlainThing) "__setattr__" = some (some (.builtin "object.__setattr__")))
    (mi_PlainThing : PySem.W.makesIn K C_PlainThing = true)
    (kc_PlainThing : PySem.W.keepIn K (.ref C_PlainThing) = true)
    (na_PlainThing_called : PySem.W.findIn K (.ref C_PlainThing) "called" = some none)
    (na_PlainThing_parts : PySem.W.findIn K (.ref C_PlainThing) "parts" = some none)
    (na_PlainThing_last_words : PySem.W.findIn K (.ref C_PlainThing) "last_words" = some none)
    (pg_PairThing : PySem.W.plainGet K C_PairThing Str.empty = true)
    (hd_PairThing : PySem.W.hasDictIn K C_PairThing = true)
    (po_PairThing : PySem.W.plainOver K C_PairThing = true)
    (sa_PairThing : PySem.W.findIn K (.ref C_PairThing) "__setattr__" = some (some (.builtin "object.__setattr__")))
    (mi_PairThing : PySem.W.makesIn K C_PairThing = true)
    (kc_PairThing : PySem.W.keepIn K (.ref C_PairThing) = true)
    (na_PairThing_called : PySem.W.findIn K (.ref C_PairThing) "called" = some none)
    (na_PairThing_parts : PySem.W.findIn K (.ref C_PairThing) "parts" = some none)
    (pg_Memory : PySem.W.plainGet K C_Memory Str.empty = true)
    (hd_Memory : PySem.W.hasDictIn K C_Memory = true)
    (po_Memory : PySem.W.plainOver K C_Memory = true)
    (sa_Memory : PySem.W.findIn K (.ref C_Memory) "__setattr__" = some (some (.builtin "object.__setattr__")))
    (mi_Memory : PySem.W.makesIn K C_Memory = true)
    (kc_Memory : PySem.W.keepIn K (.ref C_Memory) = true)
    (na_Memory_rooms : PySem.W.findIn K (.ref C_Memory) "rooms" = some none)
    (na_Memory_begins : PySem.W.findIn K (.ref C_Memory) "begins" = some none)
    (g_KIND_BITS : PySem.W.nsIn K mainGlobals "KIND_BITS" = some (some (.int 3 t_KIND_BITS)))
    (g_MARK_BIT : PySem.W.nsIn K mainGlobals "MARK_BIT" = some (some (.int 4 t_MARK_BIT)))
    (g_WORDS_BIT : PySem.W.nsIn K mainGlobals "WORDS_BIT" = some (some (.int 8 t_WORDS_BIT)))
    (g_SIZE_FROM : PySem.W.nsIn K mainGlobals "SIZE_FROM" = some (some (.int 4 t_SIZE_FROM)))
    (g_NOTHING : PySem.W.nsIn K mainGlobals "NOTHING" = some (some (.ref t_NOTHING)))
    (gk_NOTHING : K.lookup t_NOTHING = some ⟨.type "tuple", none, .seq #[.str "nothing" tk_NOTHING_0] tn_NOTHING, ts_NOTHING⟩)
    (g_SORTS : PySem.W.nsIn K mainGlobals "SORTS" = some (some (.ref t_SORTS)))
    (gk_SORTS : K.lookup t_SORTS = some ⟨.type "tuple", none, .seq #[.str "plain" tk_SORTS_0, .str "weak" tk_SORTS_1, .str "pair" tk_SORTS_2] tn_SORTS, ts_SORTS⟩)
    (g_SERIAL_AT : PySem.W.nsIn K mainGlobals "SERIAL_AT" = some (some (.int 1 t_SERIAL_AT)))
    (g_WORDS_AT : PySem.W.nsIn K mainGlobals "WORDS_AT" = some (some (.int 2 t_WORDS_AT)))
    (h_PlainThing_sort_of : PySem.W.findIn K (.ref C_PlainThing) "sort_of" = some (some (.ref f_Thing_sort_of)))
    (h_PlainThing_fields : PySem.W.findIn K (.ref C_PlainThing) "fields" = some (some (.ref f_Thing_fields)))
    (h_PairThing_sort_of : PySem.W.findIn K (.ref C_PairThing) "sort_of" = some (some (.ref f_Thing_sort_of)))
    (h_PairThing_fields : PySem.W.findIn K (.ref C_PairThing) "fields" = some (some (.ref f_Thing_fields)))
    (h_PairThing_words : PySem.W.findIn K (.ref C_PairThing) "words" = some (some (.ref f_Thing_words)))
    (cf1_Thing_init : PySem.W.specialIn K (.ref C_Thing) "__getattribute__" = some (some (.builtin "type.__getattribute__")))
    (cf2_Thing_init : PySem.W.readsIn K C_Thing (.type "type") = true)
    (cf3_Thing_init : PySem.W.findCls K (.ref C_Thing) (.type "type") "__init__" = some (.val (.ref f_Thing_init)))
    (tyg : PySem.W.specialIn K (.builtin "object.__class__") "__get__" = some (some (.builtin "getset_descriptor.__get__")))
    (tyt : PySem.W.takesIn K (.builtin "object.__class__") = some true)
    (tya_Thing : PySem.W.findIn K (.ref C_Thing) "__class__" = some (some (.builtin "object.__class__")))
    (tym_Thing : PySem.W.mroIn K C_Thing (.type "object") = some true)
    (tya_PlainThing : PySem.W.findIn K (.ref C_PlainThing) "__class__" = some (some (.builtin "object.__class__")))
    (tym_PlainThing : PySem.W.mroIn K C_PlainThing (.type "object") = some true)
    (tya_PairThing : PySem.W.findIn K (.ref C_PairThing) "__class__" = some (some (.builtin "object.__class__")))
    (tym_PairThing : PySem.W.mroIn K C_PairThing (.type "object") = some true)
    (ki_Thing_Thing : PySem.W.kitOne K (.ref C_Thing) (.ref C_Thing) = some true)
    (ki_PlainThing_Thing : PySem.W.kitOne K (.ref C_PlainThing) (.ref C_Thing) = some true)
    (ki_PairThing_Thing : PySem.W.kitOne K (.ref C_PairThing) (.ref C_Thing) = some true)
    (n_abs : PySem.W.nsIn K mainGlobals "abs" = some none)
    (n_bool : PySem.W.nsIn K mainGlobals "bool" = some none)
    (n_enumerate : PySem.W.nsIn K mainGlobals "enumerate" = some none)
    (n_int : PySem.W.nsIn K mainGlobals "int" = some none)
    (n_isinstance : PySem.W.nsIn K mainGlobals "isinstance" = some none)
    (n_len : PySem.W.nsIn K mainGlobals "len" = some none)
    (n_list : PySem.W.nsIn K mainGlobals "list" = some none)
    (n_min : PySem.W.nsIn K mainGlobals "min" = some none)
    (n_range : PySem.W.nsIn K mainGlobals "range" = some none)
    (n_sorted : PySem.W.nsIn K mainGlobals "sorted" = some none)
    : ∃ fd : FuncData, (∀ (s : Shared) (v : Value), BindsTo s fd ⟨[v], []⟩ [("_law_script", v)]) ∧ ∀ base : Heap, K.In base → base.Ns mainGlobals mg → FnOk l.prog w K mg base CX0 12 fa fd ["_law_script"] (sp_law K) := by
  have e : f_law = fa := by
    have e := hfa.symm.trans (PySem.W.mg_of X G a_law)
    cases e
    rfl
  subst e
  have F_header := fun_mk (st := s_header) l_header co_header k_header
  have F_kind_in := fun_mk (st := s_kind_in) l_kind_in co_kind_in k_kind_in
  have F_size_in := fun_mk (st := s_size_in) l_size_in co_size_in k_size_in
  have F_is_marked := fun_mk (st := s_is_marked) l_is_marked co_is_marked k_is_marked
  have F_has_words := fun_mk (st := s_has_words) l_has_words co_has_words k_has_words
  have F_with_mark := fun_mk (st := s_with_mark) l_with_mark co_with_mark k_with_mark
  have F_with_words := fun_mk (st := s_with_words) l_with_words co_with_words k_with_words
  have F_with_bit := fun_mk (st := s_with_bit) l_with_bit co_with_bit k_with_bit
  have F_Rooms_init := fun_mk (st := s_Rooms_init) l_Rooms_init co_Rooms_init k_Rooms_init
  have F_Rooms_gap := fun_mk (st := s_Rooms_gap) l_Rooms_gap co_Rooms_gap k_Rooms_gap
  have F_Rooms_gap_in := fun_mk (st := s_Rooms_gap_in) l_Rooms_gap_in co_Rooms_gap_in k_Rooms_gap_in
  have F_Rooms_fill_in := fun_mk (st := s_Rooms_fill_in) l_Rooms_fill_in co_Rooms_fill_in k_Rooms_fill_in
  have F_Rooms_set_free := fun_mk (st := s_Rooms_set_free) l_Rooms_set_free co_Rooms_set_free k_Rooms_set_free
  have F_Rooms_read := fun_mk (st := s_Rooms_read) l_Rooms_read co_Rooms_read k_Rooms_read
  have F_Rooms_write := fun_mk (st := s_Rooms_write) l_Rooms_write co_Rooms_write k_Rooms_write
  have F_Rooms_room_of := fun_mk (st := s_Rooms_room_of) l_Rooms_room_of co_Rooms_room_of k_Rooms_room_of
  have F_Thing_init := fun_mk (st := s_Thing_init) l_Thing_init co_Thing_init k_Thing_init
  have F_Thing_sort_of := fun_mk (st := s_Thing_sort_of) l_Thing_sort_of co_Thing_sort_of k_Thing_sort_of
  have F_Thing_fields := fun_mk (st := s_Thing_fields) l_Thing_fields co_Thing_fields k_Thing_fields
  have F_Thing_words := fun_mk (st := s_Thing_words) l_Thing_words co_Thing_words k_Thing_words
  have F_PlainThing_init := fun_mk (st := s_PlainThing_init) l_PlainThing_init co_PlainThing_init k_PlainThing_init
  have F_PlainThing_words := fun_mk (st := s_PlainThing_words) l_PlainThing_words co_PlainThing_words k_PlainThing_words
  have F_PairThing_init := fun_mk (st := s_PairThing_init) l_PairThing_init co_PairThing_init k_PairThing_init
  have F_plain := fun_mk (st := s_plain) l_plain co_plain k_plain
  have F_weak := fun_mk (st := s_weak) l_weak co_weak k_weak
  have F_pair := fun_mk (st := s_pair) l_pair co_pair k_pair
  have F_first_field := fun_mk (st := s_first_field) l_first_field co_first_field k_first_field
  have F_size_of := fun_mk (st := s_size_of) l_size_of co_size_of k_size_of
  have F_words_cell := fun_mk (st := s_words_cell) l_words_cell co_words_cell k_words_cell
  have F_cells_of := fun_mk (st := s_cells_of) l_cells_of co_cells_of k_cells_of
  have F_Memory_init := fun_mk (st := s_Memory_init) l_Memory_init co_Memory_init k_Memory_init
  have F_Memory_put_in := fun_mk (st := s_Memory_put_in) l_Memory_put_in co_Memory_put_in k_Memory_put_in
  have F_Memory_fill_from := fun_mk (st := s_Memory_fill_from) l_Memory_fill_from co_Memory_fill_from k_Memory_fill_from
  have F_Memory_head_at := fun_mk (st := s_Memory_head_at) l_Memory_head_at co_Memory_head_at k_Memory_head_at
  have F_Memory_thing_at := fun_mk (st := s_Memory_thing_at) l_Memory_thing_at co_Memory_thing_at k_Memory_thing_at
  have F_Memory_words_at := fun_mk (st := s_Memory_words_at) l_Memory_words_at co_Memory_words_at k_Memory_words_at
  have F_Memory_serial_at := fun_mk (st := s_Memory_serial_at) l_Memory_serial_at co_Memory_serial_at k_Memory_serial_at
  have F_Memory_size_at := fun_mk (st := s_Memory_size_at) l_Memory_size_at co_Memory_size_at k_Memory_size_at
  have F_Memory_sort_at := fun_mk (st := s_Memory_sort_at) l_Memory_sort_at co_Memory_sort_at k_Memory_sort_at
  have F_Memory_marked_at := fun_mk (st := s_Memory_marked_at) l_Memory_marked_at co_Memory_marked_at k_Memory_marked_at
  have F_Memory_set_mark := fun_mk (st := s_Memory_set_mark) l_Memory_set_mark co_Memory_set_mark k_Memory_set_mark
  have F_Memory_set_field := fun_mk (st := s_Memory_set_field) l_Memory_set_field co_Memory_set_field k_Memory_set_field
  have F_Memory_set_words := fun_mk (st := s_Memory_set_words) l_Memory_set_words co_Memory_set_words k_Memory_set_words
  have F_Memory_take_out := fun_mk (st := s_Memory_take_out) l_Memory_take_out co_Memory_take_out k_Memory_take_out
  have F_Memory_places := fun_mk (st := s_Memory_places) l_Memory_places co_Memory_places k_Memory_places
  have F_Memory_places_in := fun_mk (st := s_Memory_places_in) l_Memory_places_in co_Memory_places_in k_Memory_places_in
  have F_law_cell_at := fun_mk (st := s_law_cell_at) l_law_cell_at co_law_cell_at k_law_cell_at
  have F_law_drawn := fun_mk (st := s_law_drawn) l_law_drawn co_law_drawn k_law_drawn
  have F_law_value := fun_mk (st := s_law_value) l_law_value co_law_value k_law_value
  have F_law_shape := fun_mk (st := s_law_shape) l_law_shape co_law_shape k_law_shape
  have F_law_thing := fun_mk (st := s_law_thing) l_law_thing co_law_thing k_law_thing
  have F_law_size := fun_mk (st := s_law_size) l_law_size co_law_size k_law_size
  have F_law_whole := fun_mk (st := s_law_whole) l_law_whole co_law_whole k_law_whole
  have F_law_held := fun_mk (st := s_law_held) l_law_held co_law_held k_law_held
  have F_law_apart := fun_mk (st := s_law_apart) l_law_apart co_law_apart k_law_apart
  have F_law_least := fun_mk (st := s_law_least) l_law_least co_law_least k_law_least
  have F_law_done := fun_mk (st := s_law_done) l_law_done co_law_done k_law_done
  have F_law := fun_mk (st := s_law) l_law co_law k_law
  have B_header := F_header.binds (ps := ["kind", "marked", "words", "size"]) fun _ _ _ _ _ _ us hl => match us, hl with | [_, _, _, _], _ => rfl
  have B_kind_in := F_kind_in.binds (ps := ["number"]) fun _ _ _ _ _ _ us hl => match us, hl with | [_], _ => rfl
  have B_size_in := F_size_in.binds (ps := ["number"]) fun _ _ _ _ _ _ us hl => match us, hl with | [_], _ => rfl
  have B_is_marked := F_is_marked.binds (ps := ["number"]) fun _ _ _ _ _ _ us hl => match us, hl with | [_], _ => rfl
  have B_has_words := F_has_words.binds (ps := ["number"]) fun _ _ _ _ _ _ us hl => match us, hl with | [_], _ => rfl
  have B_with_mark := F_with_mark.binds (ps := ["number", "marked"]) fun _ _ _ _ _ _ us hl => match us, hl with | [_, _], _ => rfl
  have B_with_words := F_with_words.binds (ps := ["number", "words"]) fun _ _ _ _ _ _ us hl => match us, hl with | [_, _], _ => rfl
  have B_with_bit := F_with_bit.binds (ps := ["number", "bit", "is_set"]) fun _ _ _ _ _ _ us hl => match us, hl with | [_, _, _], _ => rfl
  have B_Rooms_init := F_Rooms_init.binds (ps := ["self", "many", "cells"]) fun _ _ _ _ _ _ us hl => match us, hl with | [_, _, _], _ => rfl
  have B_Rooms_gap := F_Rooms_gap.binds (ps := ["self", "length"]) fun _ _ _ _ _ _ us hl => match us, hl with | [_, _], _ => rfl
  have B_Rooms_gap_in := F_Rooms_gap_in.binds (ps := ["self", "room", "length"]) fun _ _ _ _ _ _ us hl => match us, hl with | [_, _, _], _ => rfl
  have B_Rooms_fill_in := F_Rooms_fill_in.binds (ps := ["self", "place", "some"]) fun _ _ _ _ _ _ us hl => match us, hl with | [_, _, _], _ => rfl
  have B_Rooms_set_free := F_Rooms_set_free.binds (ps := ["self", "place", "length"]) fun _ _ _ _ _ _ us hl => match us, hl with | [_, _, _], _ => rfl
  have B_Rooms_read := F_Rooms_read.binds (ps := ["self", "place"]) fun _ _ _ _ _ _ us hl => match us, hl with | [_, _], _ => rfl
  have B_Rooms_write := F_Rooms_write.binds (ps := ["self", "place", "value"]) fun _ _ _ _ _ _ us hl => match us, hl with | [_, _, _], _ => rfl
  have B_Rooms_room_of := F_Rooms_room_of.binds (ps := ["self", "place"]) fun _ _ _ _ _ _ us hl => match us, hl with | [_, _], _ => rfl
  have B_Thing_init := F_Thing_init.binds (ps := ["self", "sort", "some"]) fun _ _ _ _ _ _ us hl => match us, hl with | [_, _, _], _ => rfl
  have B_Thing_sort_of := F_Thing_sort_of.binds (ps := ["self"]) fun _ _ _ _ _ _ us hl => match us, hl with | [_], _ => rfl
  have B_Thing_fields := F_Thing_fields.binds (ps := ["self"]) fun _ _ _ _ _ _ us hl => match us, hl with | [_], _ => rfl
  have B_Thing_words := F_Thing_words.binds (ps := ["self"]) fun _ _ _ _ _ _ us hl => match us, hl with | [_], _ => rfl
  have B_PlainThing_init := F_PlainThing_init.binds (ps := ["self", "some", "last_words"]) fun _ _ _ _ _ _ us hl => match us, hl with | [_, _, _], _ => rfl
  have B_PlainThing_words := F_PlainThing_words.binds (ps := ["self"]) fun _ _ _ _ _ _ us hl => match us, hl with | [_], _ => rfl
  have B_PairThing_init := F_PairThing_init.binds (ps := ["self", "key", "value"]) fun _ _ _ _ _ _ us hl => match us, hl with | [_, _, _], _ => rfl
  have B_plain := F_plain.binds (ps := ["fields", "words"]) fun _ _ _ _ _ _ us hl => match us, hl with | [_, _], _ => rfl
  have B_weak := F_weak.binds (ps := ["field"]) fun _ _ _ _ _ _ us hl => match us, hl with | [_], _ => rfl
  have B_pair := F_pair.binds (ps := ["key", "value"]) fun _ _ _ _ _ _ us hl => match us, hl with | [_, _], _ => rfl
  have B_first_field := F_first_field.binds (ps := ["sort"]) fun _ _ _ _ _ _ us hl => match us, hl with | [_], _ => rfl
  have B_size_of := F_size_of.binds (ps := ["thing"]) fun _ _ _ _ _ _ us hl => match us, hl with | [_], _ => rfl
  have B_words_cell := F_words_cell.binds (ps := ["words"]) fun _ _ _ _ _ _ us hl => match us, hl with | [_], _ => rfl
  have B_cells_of := F_cells_of.binds (ps := ["thing", "serial", "marked"]) fun _ _ _ _ _ _ us hl => match us, hl with | [_, _, _], _ => rfl
  have B_Memory_init := F_Memory_init.binds (ps := ["self", "many", "cells"]) fun _ _ _ _ _ _ us hl => match us, hl with | [_, _, _], _ => rfl
  have B_Memory_put_in := F_Memory_put_in.binds (ps := ["self", "thing", "serial", "marked"]) fun _ _ _ _ _ _ us hl => match us, hl with | [_, _, _, _], _ => rfl
  have B_Memory_fill_from := F_Memory_fill_from.binds (ps := ["self", "place", "some"]) fun _ _ _ _ _ _ us hl => match us, hl with | [_, _, _], _ => rfl
  have B_Memory_head_at := F_Memory_head_at.binds (ps := ["self", "place"]) fun _ _ _ _ _ _ us hl => match us, hl with | [_, _], _ => rfl
  have B_Memory_thing_at := F_Memory_thing_at.binds (ps := ["self", "place"]) fun _ _ _ _ _ _ us hl => match us, hl with | [_, _], _ => rfl
  have B_Memory_words_at := F_Memory_words_at.binds (ps := ["self", "place"]) fun _ _ _ _ _ _ us hl => match us, hl with | [_, _], _ => rfl
  have B_Memory_serial_at := F_Memory_serial_at.binds (ps := ["self", "place"]) fun _ _ _ _ _ _ us hl => match us, hl with | [_, _], _ => rfl
  have B_Memory_size_at := F_Memory_size_at.binds (ps := ["self", "place"]) fun _ _ _ _ _ _ us hl => match us, hl with | [_, _], _ => rfl
  have B_Memory_sort_at := F_Memory_sort_at.binds (ps := ["self", "place"]) fun _ _ _ _ _ _ us hl => match us, hl with | [_, _], _ => rfl
  have B_Memory_marked_at := F_Memory_marked_at.binds (ps := ["self", "place"]) fun _ _ _ _ _ _ us hl => match us, hl with | [_, _], _ => rfl
  have B_Memory_set_mark := F_Memory_set_mark.binds (ps := ["self", "place", "marked"]) fun _ _ _ _ _ _ us hl => match us, hl with | [_, _, _], _ => rfl
  have B_Memory_set_field := F_Memory_set_field.binds (ps := ["self", "place", "at", "value"]) fun _ _ _ _ _ _ us hl => match us, hl with | [_, _, _, _], _ => rfl
  have B_Memory_set_words := F_Memory_set_words.binds (ps := ["self", "place", "words"]) fun _ _ _ _ _ _ us hl => match us, hl with | [_, _, _], _ => rfl
  have B_Memory_take_out := F_Memory_take_out.binds (ps := ["self", "place"]) fun _ _ _ _ _ _ us hl => match us, hl with | [_, _], _ => rfl
  have B_Memory_places := F_Memory_places.binds (ps := ["self"]) fun _ _ _ _ _ _ us hl => match us, hl with | [_], _ => rfl
  have B_Memory_places_in := F_Memory_places_in.binds (ps := ["self", "room"]) fun _ _ _ _ _ _ us hl => match us, hl with | [_, _], _ => rfl
  have B_law_cell_at := F_law_cell_at.binds (ps := ["_law_script", "_law_k"]) fun _ _ _ _ _ _ us hl => match us, hl with | [_, _], _ => rfl
  have B_law_drawn := F_law_drawn.binds (ps := ["_law_cell", "_law_sizes", "_law_free"]) fun _ _ _ _ _ _ us hl => match us, hl with | [_, _, _], _ => rfl
  have B_law_value := F_law_value.binds (ps := ["_law_parts", "_law_there"]) fun _ _ _ _ _ _ us hl => match us, hl with | [_, _], _ => rfl
  have B_law_shape := F_law_shape.binds (ps := ["_law_cell", "_law_there", "_law_free"]) fun _ _ _ _ _ _ us hl => match us, hl with | [_, _, _], _ => rfl
  have B_law_thing := F_law_thing.binds (ps := ["_law_shape_here"]) fun _ _ _ _ _ _ us hl => match us, hl with | [_], _ => rfl
  have B_law_size := F_law_size.binds (ps := ["_law_shape_here"]) fun _ _ _ _ _ _ us hl => match us, hl with | [_], _ => rfl
  have B_law_whole := F_law_whole.binds (ps := ["_law_found"]) fun _ _ _ _ _ _ us hl => match us, hl with | [_], _ => rfl
  have B_law_held := F_law_held.binds (ps := ["_law_memory", "_law_place", "_law_row"]) fun _ _ _ _ _ _ us hl => match us, hl with | [_, _, _], _ => rfl
  have B_law_apart := F_law_apart.binds (ps := ["_law_memory", "_law_rows", "_law_wide"]) fun _ _ _ _ _ _ us hl => match us, hl with | [_, _, _], _ => rfl
  have B_law_least := F_law_least.binds (ps := ["_law_rows", "_law_many", "_law_wide", "_law_size_here"]) fun _ _ _ _ _ _ us hl => match us, hl with | [_, _, _, _], _ => rfl
  have B_law_done := F_law_done.binds (ps := ["_law_memory", "_law_rows", "_law_drawn_here", "_law_shape_here", "_law_serial", "_law_many", "_law_wide"]) fun _ _ _ _ _ _ us hl => match us, hl with | [_, _, _, _, _, _, _], _ => rfl
  have T : Txt K mg ⟨f_header, PySem.W.fnOf "header" "header" (defArgs s_header) (defBody s_header) (defScope s_header) .none kV_header dc_header pm_header an_header cd_header ct_header, f_kind_in, PySem.W.fnOf "kind_in" "kind_in" (defArgs s_kind_in) (defBody s_kind_in) (defScope s_kind_in) .none kV_kind_in dc_kind_in pm_kind_in an_kind_in cd_kind_in ct_kind_in, f_size_in, PySem.W.fnOf "size_in" "size_in" (defArgs s_size_in) (defBody s_size_in) (defScope s_size_in) .none kV_size_in dc_size_in pm_size_in an_size_in cd_size_in ct_size_in, f_is_marked, PySem.W.fnOf "is_marked" "is_marked" (defArgs s_is_marked) (defBody s_is_marked) (defScope s_is_marked) .none kV_is_marked dc_is_marked pm_is_marked an_is_marked cd_is_marked ct_is_marked, f_has_words, PySem.W.fnOf "has_words" "has_words" (defArgs s_has_words) (defBody s_has_words) (defScope s_has_words) .none kV_has_words dc_has_words pm_has_words an_has_words cd_has_words ct_has_words, f_with_mark, PySem.W.fnOf "with_mark" "with_mark" (defArgs s_with_mark) (defBody s_with_mark) (defScope s_with_mark) .none kV_with_mark dc_with_mark pm_with_mark an_with_mark cd_with_mark ct_with_mark, f_with_words, PySem.W.fnOf "with_words" "with_words" (defArgs s_with_words) (defBody s_with_words) (defScope s_with_words) .none kV_with_words dc_with_words pm_with_words an_with_words cd_with_words ct_with_words, f_with_bit, PySem.W.fnOf "with_bit" "with_bit" (defArgs s_with_bit) (defBody s_with_bit) (defScope s_with_bit) .none kV_with_bit dc_with_bit pm_with_bit an_with_bit cd_with_bit ct_with_bit, f_Rooms_init, PySem.W.fnOf "__init__" "Rooms.__init__" (defArgs s_Rooms_init) (defBody s_Rooms_init) (defScope s_Rooms_init) .none kV_Rooms_init dc_Rooms_init pm_Rooms_init an_Rooms_init cd_Rooms_init ct_Rooms_init, f_Rooms_gap, PySem.W.fnOf "gap" "Rooms.gap" (defArgs s_Rooms_gap) (defBody s_Rooms_gap) (defScope s_Rooms_gap) .none kV_Rooms_gap dc_Rooms_gap pm_Rooms_gap an_Rooms_gap cd_Rooms_gap ct_Rooms_gap, f_Rooms_gap_in, PySem.W.fnOf "gap_in" "Rooms.gap_in" (defArgs s_Rooms_gap_in) (defBody s_Rooms_gap_in) (defScope s_Rooms_gap_in) .none kV_Rooms_gap_in dc_Rooms_gap_in pm_Rooms_gap_in an_Rooms_gap_in cd_Rooms_gap_in ct_Rooms_gap_in, f_Rooms_fill_in, PySem.W.fnOf "fill_in" "Rooms.fill_in" (defArgs s_Rooms_fill_in) (defBody s_Rooms_fill_in) (defScope s_Rooms_fill_in) .none kV_Rooms_fill_in dc_Rooms_fill_in pm_Rooms_fill_in an_Rooms_fill_in cd_Rooms_fill_in ct_Rooms_fill_in, f_Rooms_set_free, PySem.W.fnOf "set_free" "Rooms.set_free" (defArgs s_Rooms_set_free) (defBody s_Rooms_set_free) (defScope s_Rooms_set_free) .none kV_Rooms_set_free dc_Rooms_set_free pm_Rooms_set_free an_Rooms_set_free cd_Rooms_set_free ct_Rooms_set_free, f_Rooms_read, PySem.W.fnOf "read" "Rooms.read" (defArgs s_Rooms_read) (defBody s_Rooms_read) (defScope s_Rooms_read) .none kV_Rooms_read dc_Rooms_read pm_Rooms_read an_Rooms_read cd_Rooms_read ct_Rooms_read, f_Rooms_write, PySem.W.fnOf "write" "Rooms.write" (defArgs s_Rooms_write) (defBody s_Rooms_write) (defScope s_Rooms_write) .none kV_Rooms_write dc_Rooms_write pm_Rooms_write an_Rooms_write cd_Rooms_write ct_Rooms_write, f_Rooms_room_of, PySem.W.fnOf "room_of" "Rooms.room_of" (defArgs s_Rooms_room_of) (defBody s_Rooms_room_of) (defScope s_Rooms_room_of) .none kV_Rooms_room_of dc_Rooms_room_of pm_Rooms_room_of an_Rooms_room_of cd_Rooms_room_of ct_Rooms_room_of, f_Thing_init, PySem.W.fnOf "__init__" "Thing.__init__" (defArgs s_Thing_init) (defBody s_Thing_init) (defScope s_Thing_init) .none kV_Thing_init dc_Thing_init pm_Thing_init an_Thing_init cd_Thing_init ct_Thing_init, f_Thing_sort_of, PySem.W.fnOf "sort_of" "Thing.sort_of" (defArgs s_Thing_sort_of) (defBody s_Thing_sort_of) (defScope s_Thing_sort_of) .none kV_Thing_sort_of dc_Thing_sort_of pm_Thing_sort_of an_Thing_sort_of cd_Thing_sort_of ct_Thing_sort_of, f_Thing_fields, PySem.W.fnOf "fields" "Thing.fields" (defArgs s_Thing_fields) (defBody s_Thing_fields) (defScope s_Thing_fields) .none kV_Thing_fields dc_Thing_fields pm_Thing_fields an_Thing_fields cd_Thing_fields ct_Thing_fields, f_Thing_words, PySem.W.fnOf "words" "Thing.words" (defArgs s_Thing_words) (defBody s_Thing_words) (defScope s_Thing_words) .none kV_Thing_words dc_Thing_words pm_Thing_words an_Thing_words cd_Thing_words ct_Thing_words, f_PlainThing_init, PySem.W.fnOf "__init__" "PlainThing.__init__" (defArgs s_PlainThing_init) (defBody s_PlainThing_init) (defScope s_PlainThing_init) .none kV_PlainThing_init dc_PlainThing_init pm_PlainThing_init an_PlainThing_init cd_PlainThing_init ct_PlainThing_init, f_PlainThing_words, PySem.W.fnOf "words" "PlainThing.words" (defArgs s_PlainThing_words) (defBody s_PlainThing_words) (defScope s_PlainThing_words) .none kV_PlainThing_words dc_PlainThing_words pm_PlainThing_words an_PlainThing_words cd_PlainThing_words ct_PlainThing_words, f_PairThing_init, PySem.W.fnOf "__init__" "PairThing.__init__" (defArgs s_PairThing_init) (defBody s_PairThing_init) (defScope s_PairThing_init) .none kV_PairThing_init dc_PairThing_init pm_PairThing_init an_PairThing_init cd_PairThing_init ct_PairThing_init, f_plain, PySem.W.fnOf "plain" "plain" (defArgs s_plain) (defBody s_plain) (defScope s_plain) .none kV_plain dc_plain pm_plain an_plain cd_plain ct_plain, f_weak, PySem.W.fnOf "weak" "weak" (defArgs s_weak) (defBody s_weak) (defScope s_weak) .none kV_weak dc_weak pm_weak an_weak cd_weak ct_weak, f_pair, PySem.W.fnOf "pair" "pair" (defArgs s_pair) (defBody s_pair) (defScope s_pair) .none kV_pair dc_pair pm_pair an_pair cd_pair ct_pair, f_first_field, PySem.W.fnOf "first_field" "first_field" (defArgs s_first_field) (defBody s_first_field) (defScope s_first_field) .none kV_first_field dc_first_field pm_first_field an_first_field cd_first_field ct_first_field, f_size_of, PySem.W.fnOf "size_of" "size_of" (defArgs s_size_of) (defBody s_size_of) (defScope s_size_of) .none kV_size_of dc_size_of pm_size_of an_size_of cd_size_of ct_size_of, f_words_cell, PySem.W.fnOf "words_cell" "words_cell" (defArgs s_words_cell) (defBody s_words_cell) (defScope s_words_cell) .none kV_words_cell dc_words_cell pm_words_cell an_words_cell cd_words_cell ct_words_cell, f_cells_of, PySem.W.fnOf "cells_of" "cells_of" (defArgs s_cells_of) (defBody s_cells_of) (defScope s_cells_of) .none kV_cells_of dc_cells_of pm_cells_of an_cells_of cd_cells_of ct_cells_of, f_Memory_init, PySem.W.fnOf "__init__" "Memory.__init__" (defArgs s_Memory_init) (defBody s_Memory_init) (defScope s_Memory_init) .none kV_Memory_init dc_Memory_init pm_Memory_init an_Memory_init cd_Memory_init ct_Memory_init, f_Memory_put_in, PySem.W.fnOf "put_in" "Memory.put_in" (defArgs s_Memory_put_in) (defBody s_Memory_put_in) (defScope s_Memory_put_in) .none kV_Memory_put_in dc_Memory_put_in pm_Memory_put_in an_Memory_put_in cd_Memory_put_in ct_Memory_put_in, f_Memory_fill_from, PySem.W.fnOf "fill_from" "Memory.fill_from" (defArgs s_Memory_fill_from) (defBody s_Memory_fill_from) (defScope s_Memory_fill_from) .none kV_Memory_fill_from dc_Memory_fill_from pm_Memory_fill_from an_Memory_fill_from cd_Memory_fill_from ct_Memory_fill_from, f_Memory_head_at, PySem.W.fnOf "head_at" "Memory.head_at" (defArgs s_Memory_head_at) (defBody s_Memory_head_at) (defScope s_Memory_head_at) .none kV_Memory_head_at dc_Memory_head_at pm_Memory_head_at an_Memory_head_at cd_Memory_head_at ct_Memory_head_at, f_Memory_thing_at, PySem.W.fnOf "thing_at" "Memory.thing_at" (defArgs s_Memory_thing_at) (defBody s_Memory_thing_at) (defScope s_Memory_thing_at) .none kV_Memory_thing_at dc_Memory_thing_at pm_Memory_thing_at an_Memory_thing_at cd_Memory_thing_at ct_Memory_thing_at, f_Memory_words_at, PySem.W.fnOf "words_at" "Memory.words_at" (defArgs s_Memory_words_at) (defBody s_Memory_words_at) (defScope s_Memory_words_at) .none kV_Memory_words_at dc_Memory_words_at pm_Memory_words_at an_Memory_words_at cd_Memory_words_at ct_Memory_words_at, f_Memory_serial_at, PySem.W.fnOf "serial_at" "Memory.serial_at" (defArgs s_Memory_serial_at) (defBody s_Memory_serial_at) (defScope s_Memory_serial_at) .none kV_Memory_serial_at dc_Memory_serial_at pm_Memory_serial_at an_Memory_serial_at cd_Memory_serial_at ct_Memory_serial_at, f_Memory_size_at, PySem.W.fnOf "size_at" "Memory.size_at" (defArgs s_Memory_size_at) (defBody s_Memory_size_at) (defScope s_Memory_size_at) .none kV_Memory_size_at dc_Memory_size_at pm_Memory_size_at an_Memory_size_at cd_Memory_size_at ct_Memory_size_at, f_Memory_sort_at, PySem.W.fnOf "sort_at" "Memory.sort_at" (defArgs s_Memory_sort_at) (defBody s_Memory_sort_at) (defScope s_Memory_sort_at) .none kV_Memory_sort_at dc_Memory_sort_at pm_Memory_sort_at an_Memory_sort_at cd_Memory_sort_at ct_Memory_sort_at, f_Memory_marked_at, PySem.W.fnOf "marked_at" "Memory.marked_at" (defArgs s_Memory_marked_at) (defBody s_Memory_marked_at) (defScope s_Memory_marked_at) .none kV_Memory_marked_at dc_Memory_marked_at pm_Memory_marked_at an_Memory_marked_at cd_Memory_marked_at ct_Memory_marked_at, f_Memory_set_mark, PySem.W.fnOf "set_mark" "Memory.set_mark" (defArgs s_Memory_set_mark) (defBody s_Memory_set_mark) (defScope s_Memory_set_mark) .none kV_Memory_set_mark dc_Memory_set_mark pm_Memory_set_mark an_Memory_set_mark cd_Memory_set_mark ct_Memory_set_mark, f_Memory_set_field, PySem.W.fnOf "set_field" "Memory.set_field" (defArgs s_Memory_set_field) (defBody s_Memory_set_field) (defScope s_Memory_set_field) .none kV_Memory_set_field dc_Memory_set_field pm_Memory_set_field an_Memory_set_field cd_Memory_set_field ct_Memory_set_field, f_Memory_set_words, PySem.W.fnOf "set_words" "Memory.set_words" (defArgs s_Memory_set_words) (defBody s_Memory_set_words) (defScope s_Memory_set_words) .none kV_Memory_set_words dc_Memory_set_words pm_Memory_set_words an_Memory_set_words cd_Memory_set_words ct_Memory_set_words, f_Memory_take_out, PySem.W.fnOf "take_out" "Memory.take_out" (defArgs s_Memory_take_out) (defBody s_Memory_take_out) (defScope s_Memory_take_out) .none kV_Memory_take_out dc_Memory_take_out pm_Memory_take_out an_Memory_take_out cd_Memory_take_out ct_Memory_take_out, f_Memory_places, PySem.W.fnOf "places" "Memory.places" (defArgs s_Memory_places) (defBody s_Memory_places) (defScope s_Memory_places) .none kV_Memory_places dc_Memory_places pm_Memory_places an_Memory_places cd_Memory_places ct_Memory_places, f_Memory_places_in, PySem.W.fnOf "places_in" "Memory.places_in" (defArgs s_Memory_places_in) (defBody s_Memory_places_in) (defScope s_Memory_places_in) .none kV_Memory_places_in dc_Memory_places_in pm_Memory_places_in an_Memory_places_in cd_Memory_places_in ct_Memory_places_in, f_law_cell_at, PySem.W.fnOf "_law_cell_at" "_law_cell_at" (defArgs s_law_cell_at) (defBody s_law_cell_at) (defScope s_law_cell_at) .none kV_law_cell_at dc_law_cell_at pm_law_cell_at an_law_cell_at cd_law_cell_at ct_law_cell_at, f_law_drawn, PySem.W.fnOf "_law_drawn" "_law_drawn" (defArgs s_law_drawn) (defBody s_law_drawn) (defScope s_law_drawn) .none kV_law_drawn dc_law_drawn pm_law_drawn an_law_drawn cd_law_drawn ct_law_drawn, f_law_value, PySem.W.fnOf "_law_value" "_law_value" (defArgs s_law_value) (defBody s_law_value) (defScope s_law_value) .none kV_law_value dc_law_value pm_law_value an_law_value cd_law_value ct_law_value, f_law_shape, PySem.W.fnOf "_law_shape" "_law_shape" (defArgs s_law_shape) (defBody s_law_shape) (defScope s_law_shape) .none kV_law_shape dc_law_shape pm_law_shape an_law_shape cd_law_shape ct_law_shape, f_law_thing, PySem.W.fnOf "_law_thing" "_law_thing" (defArgs s_law_thing) (defBody s_law_thing) (defScope s_law_thing) .none kV_law_thing dc_law_thing pm_law_thing an_law_thing cd_law_thing ct_law_thing, f_law_size, PySem.W.fnOf "_law_size" "_law_size" (defArgs s_law_size) (defBody s_law_size) (defScope s_law_size) .none kV_law_size dc_law_size pm_law_size an_law_size cd_law_size ct_law_size, f_law_whole, PySem.W.fnOf "_law_whole" "_law_whole" (defArgs s_law_whole) (defBody s_law_whole) (defScope s_law_whole) .none kV_law_whole dc_law_whole pm_law_whole an_law_whole cd_law_whole ct_law_whole, f_law_held, PySem.W.fnOf "_law_held" "_law_held" (defArgs s_law_held) (defBody s_law_held) (defScope s_law_held) .none kV_law_held dc_law_held pm_law_held an_law_held cd_law_held ct_law_held, f_law_apart, PySem.W.fnOf "_law_apart" "_law_apart" (defArgs s_law_apart) (defBody s_law_apart) (defScope s_law_apart) .none kV_law_apart dc_law_apart pm_law_apart an_law_apart cd_law_apart ct_law_apart, f_law_least, PySem.W.fnOf "_law_least" "_law_least" (defArgs s_law_least) (defBody s_law_least) (defScope s_law_least) .none kV_law_least dc_law_least pm_law_least an_law_least cd_law_least ct_law_least, f_law_done, PySem.W.fnOf "_law_done" "_law_done" (defArgs s_law_done) (defBody s_law_done) (defScope s_law_done) .none kV_law_done dc_law_done pm_law_done an_law_done cd_law_done ct_law_done, f_law, PySem.W.fnOf "law" "law" (defArgs s_law) (defBody s_law) (defScope s_law) .none kV_law dc_law pm_law an_law cd_law ct_law, C_Rooms, C_Thing, C_PlainThing, C_PairThing, C_Memory, t_KIND_BITS, t_MARK_BIT, t_WORDS_BIT, t_SIZE_FROM, t_NOTHING, t_SORTS, t_SERIAL_AT, t_WORDS_AT⟩ := by
    exact {
      f_header := F_header,
      b_header := B_header,
      m_header := PySem.W.mg_of X G a_header,
      f_kind_in := F_kind_in,
      b_kind_in := B_kind_in,
      m_kind_in := PySem.W.mg_of X G a_kind_in,
      f_size_in := F_size_in,
      b_size_in := B_size_in,
      m_size_in := PySem.W.mg_of X G a_size_in,
      f_is_marked := F_is_marked,
      b_is_marked := B_is_marked,
      m_is_marked := PySem.W.mg_of X G a_is_marked,
      f_has_words := F_has_words,
      b_has_words := B_has_words,
      m_has_words := PySem.W.mg_of X G a_has_words,
      f_with_mark := F_with_mark,
      b_with_mark := B_with_mark,
      m_with_mark := PySem.W.mg_of X G a_with_mark,
      f_with_words := F_with_words,
      b_with_words := B_with_words,
      m_with_words := PySem.W.mg_of X G a_with_words,
      f_with_bit := F_with_bit,
      b_with_bit := B_with_bit,
      m_with_bit := PySem.W.mg_of X G a_with_bit,
      f_Rooms_init := F_Rooms_init,
      b_Rooms_init := B_Rooms_init,
      mk_Rooms := ⟨mi_Rooms, a_Rooms_init, i_Rooms_init, kc_Rooms⟩,
      f_Rooms_gap := F_Rooms_gap,
      b_Rooms_gap := B_Rooms_gap,
      me_Rooms_gap := ⟨a_Rooms_gap, i_Rooms_gap, k_Rooms_gap⟩,
      f_Rooms_gap_in := F_Rooms_gap_in,
      b_Rooms_gap_in := B_Rooms_gap_in,
      me_Rooms_gap_in := ⟨a_Rooms_gap_in, i_Rooms_gap_in, k_Rooms_gap_in⟩,
      f_Rooms_fill_in := F_Rooms_fill_in,
      b_Rooms_fill_in := B_Rooms_fill_in,
      me_Rooms_fill_in := ⟨a_Rooms_fill_in, i_Rooms_fill_in, k_Rooms_fill_in⟩,
      f_Rooms_set_free := F_Rooms_set_free,
      b_Rooms_set_free := B_Rooms_set_free,
      me_Rooms_set_free := ⟨a_Rooms_set_free, i_Rooms_set_free, k_Rooms_set_free⟩,
      f_Rooms_read := F_Rooms_read,
      b_Rooms_read := B_Rooms_read,
      me_Rooms_read := ⟨a_Rooms_read, i_Rooms_read, k_Rooms_read⟩,
      f_Rooms_write := F_Rooms_write,
      b_Rooms_write := B_Rooms_write,
      me_Rooms_write := ⟨a_Rooms_write, i_Rooms_write, k_Rooms_write⟩,
      f_Rooms_room_of := F_Rooms_room_of,
      b_Rooms_room_of := B_Rooms_room_of,
      me_Rooms_room_of := ⟨a_Rooms_room_of, i_Rooms_room_of, k_Rooms_room_of⟩,
      f_Thing_init := F_Thing_init,
      b_Thing_init := B_Thing_init,
      mk_Thing := ⟨mi_Thing, a_Thing_init, i_Thing_init, kc_Thing⟩,
      f_Thing_sort_of := F_Thing_sort_of,
      b_Thing_sort_of := B_Thing_sort_of,
      me_Thing_sort_of := ⟨a_Thing_sort_of, i_Thing_sort_of, k_Thing_sort_of⟩,
      f_Thing_fields := F_Thing_fields,
      b_Thing_fields := B_Thing_fields,
      me_Thing_fields := ⟨a_Thing_fields, i_Thing_fields, k_Thing_fields⟩,
      f_Thing_words := F_Thing_words,
      b_Thing_words := B_Thing_words,
      me_Thing_words := ⟨a_Thing_words, i_Thing_words, k_Thing_words⟩,
      f_PlainThing_init := F_PlainThing_init,
      b_PlainThing_init := B_PlainThing_init,
      mk_PlainThing := ⟨mi_PlainThing, a_PlainThing_init, i_PlainThing_init, kc_PlainThing⟩,
      f_PlainThing_words := F_PlainThing_words,
      b_PlainThing_words := B_PlainThing_words,
      me_PlainThing_words := ⟨a_PlainThing_words, i_PlainThing_words, k_PlainThing_words⟩,
      f_PairThing_init := F_PairThing_init,
      b_PairThing_init := B_PairThing_init,
      mk_PairThing := ⟨mi_PairThing, a_PairThing_init, i_PairThing_init, kc_PairThing⟩,
      f_plain := F_plain,
      b_plain := B_plain,
      m_plain := PySem.W.mg_of X G a_plain,
      f_weak := F_weak,
      b_weak := B_weak,
      m_weak := PySem.W.mg_of X G a_weak,
      f_pair := F_pair,
      b_pair := B_pair,
      m_pair := PySem.W.mg_of X G a_pair,
      f_first_field := F_first_field,
      b_first_field := B_first_field,
      m_first_field := PySem.W.mg_of X G a_first_field,
      f_size_of := F_size_of,
      b_size_of := B_size_of,
      m_size_of := PySem.W.mg_of X G a_size_of,
      f_words_cell := F_words_cell,
      b_words_cell := B_words_cell,
      m_words_cell := PySem.W.mg_of X G a_words_cell,
      f_cells_of := F_cells_of,
      b_cells_of := B_cells_of,
      m_cells_of := PySem.W.mg_of X G a_cells_of,
      f_Memory_init := F_Memory_init,
      b_Memory_init := B_Memory_init,
      mk_Memory := ⟨mi_Memory, a_Memory_init, i_Memory_init, kc_Memory⟩,
      f_Memory_put_in := F_Memory_put_in,
      b_Memory_put_in := B_Memory_put_in,
      me_Memory_put_in := ⟨a_Memory_put_in, i_Memory_put_in, k_Memory_put_in⟩,
      f_Memory_fill_from := F_Memory_fill_from,
      b_Memory_fill_from := B_Memory_fill_from,
      me_Memory_fill_from := ⟨a_Memory_fill_from, i_Memory_fill_from, k_Memory_fill_from⟩,
      f_Memory_head_at := F_Memory_head_at,
      b_Memory_head_at := B_Memory_head_at,
      me_Memory_head_at := ⟨a_Memory_head_at, i_Memory_head_at, k_Memory_head_at⟩,
      f_Memory_thing_at := F_Memory_thing_at,
      b_Memory_thing_at := B_Memory_thing_at,
      me_Memory_thing_at := ⟨a_Memory_thing_at, i_Memory_thing_at, k_Memory_thing_at⟩,
      f_Memory_words_at := F_Memory_words_at,
      b_Memory_words_at := B_Memory_words_at,
      me_Memory_words_at := ⟨a_Memory_words_at, i_Memory_words_at, k_Memory_words_at⟩,
      f_Memory_serial_at := F_Memory_serial_at,
      b_Memory_serial_at := B_Memory_serial_at,
      me_Memory_serial_at := ⟨a_Memory_serial_at, i_Memory_serial_at, k_Memory_serial_at⟩,
      f_Memory_size_at := F_Memory_size_at,
      b_Memory_size_at := B_Memory_size_at,
      me_Memory_size_at := ⟨a_Memory_size_at, i_Memory_size_at, k_Memory_size_at⟩,
      f_Memory_sort_at := F_Memory_sort_at,
      b_Memory_sort_at := B_Memory_sort_at,
      me_Memory_sort_at := ⟨a_Memory_sort_at, i_Memory_sort_at, k_Memory_sort_at⟩,
      f_Memory_marked_at := F_Memory_marked_at,
      b_Memory_marked_at := B_Memory_marked_at,
      me_Memory_marked_at := ⟨a_Memory_marked_at, i_Memory_marked_at, k_Memory_marked_at⟩,
      f_Memory_set_mark := F_Memory_set_mark,
      b_Memory_set_mark := B_Memory_set_mark,
      me_Memory_set_mark := ⟨a_Memory_set_mark, i_Memory_set_mark, k_Memory_set_mark⟩,
      f_Memory_set_field := F_Memory_set_field,
      b_Memory_set_field := B_Memory_set_field,
      me_Memory_set_field := ⟨a_Memory_set_field, i_Memory_set_field, k_Memory_set_field⟩,
      f_Memory_set_words := F_Memory_set_words,
      b_Memory_set_words := B_Memory_set_words,
      me_Memory_set_words := ⟨a_Memory_set_words, i_Memory_set_words, k_Memory_set_words⟩,
      f_Memory_take_out := F_Memory_take_out,
      b_Memory_take_out := B_Memory_take_out,
      me_Memory_take_out := ⟨a_Memory_take_out, i_Memory_take_out, k_Memory_take_out⟩,
      f_Memory_places := F_Memory_places,
      b_Memory_places := B_Memory_places,
      me_Memory_places := ⟨a_Memory_places, i_Memory_places, k_Memory_places⟩,
      f_Memory_places_in := F_Memory_places_in,
      b_Memory_places_in := B_Memory_places_in,
      me_Memory_places_in := ⟨a_Memory_places_in, i_Memory_places_in, k_Memory_places_in⟩,
      f_law_cell_at := F_law_cell_at,
      b_law_cell_at := B_law_cell_at,
      m_law_cell_at := PySem.W.mg_of X G a_law_cell_at,
      f_law_drawn := F_law_drawn,
      b_law_drawn := B_law_drawn,
      m_law_drawn := PySem.W.mg_of X G a_law_drawn,
      f_law_value := F_law_value,
      b_law_value := B_law_value,
      m_law_value := PySem.W.mg_of X G a_law_value,
      f_law_shape := F_law_shape,
      b_law_shape := B_law_shape,
      m_law_shape := PySem.W.mg_of X G a_law_shape,
      f_law_thing := F_law_thing,
      b_law_thing := B_law_thing,
      m_law_thing := PySem.W.mg_of X G a_law_thing,
      f_law_size := F_law_size,
      b_law_size := B_law_size,
      m_law_size := PySem.W.mg_of X G a_law_size,
      f_law_whole := F_law_whole,
      b_law_whole := B_law_whole,
      m_law_whole := PySem.W.mg_of X G a_law_whole,
      f_law_held := F_law_held,
      b_law_held := B_law_held,
      m_law_held := PySem.W.mg_of X G a_law_held,
      f_law_apart := F_law_apart,
      b_law_apart := B_law_apart,
      m_law_apart := PySem.W.mg_of X G a_law_apart,
      f_law_least := F_law_least,
      b_law_least := B_law_least,
      m_law_least := PySem.W.mg_of X G a_law_least,
      f_law_done := F_law_done,
      b_law_done := B_law_done,
      m_law_done := PySem.W.mg_of X G a_law_done,
      f_law := F_law,
      m_law := PySem.W.mg_of X G a_law,
      me_PlainThing_sort_of := ⟨h_PlainThing_sort_of, i_Thing_sort_of, k_Thing_sort_of⟩,
      me_PlainThing_fields := ⟨h_PlainThing_fields, i_Thing_fields, k_Thing_fields⟩,
      me_PairThing_sort_of := ⟨h_PairThing_sort_of, i_Thing_sort_of, k_Thing_sort_of⟩,
      me_PairThing_fields := ⟨h_PairThing_fields, i_Thing_fields, k_Thing_fields⟩,
      me_PairThing_words := ⟨h_PairThing_words, i_Thing_words, k_Thing_words⟩,
      cf_Thing_init := ⟨cf1_Thing_init, cf2_Thing_init, cf3_Thing_init, k_Thing_init⟩,
      ty_Thing := ⟨tya_Thing, tyg, tyt, tym_Thing⟩,
      ty_PlainThing := ⟨tya_PlainThing, tyg, tyt, tym_PlainThing⟩,
      ty_PairThing := ⟨tya_PairThing, tyg, tyt, tym_PairThing⟩,
      ki_Thing_Thing := ki_Thing_Thing,
      ki_PlainThing_Thing := ki_PlainThing_Thing,
      ki_PairThing_Thing := ki_PairThing_Thing,
      cl_Rooms := ⟨pg_Rooms, hd_Rooms, po_Rooms, sa_Rooms⟩,
      mc_Rooms := PySem.W.mg_of X G cc_Rooms,
      na_Rooms_many := na_Rooms_many,
      na_Rooms_cells := na_Rooms_cells,
      na_Rooms_inside := na_Rooms_inside,
      cl_Thing := ⟨pg_Thing, hd_Thing, po_Thing, sa_Thing⟩,
      mc_Thing := PySem.W.mg_of X G cc_Thing,
      na_Thing_called := na_Thing_called,
      na_Thing_parts := na_Thing_parts,
      cl_PlainThing := ⟨pg_PlainThing, hd_PlainThing, po_PlainThing, sa_PlainThing⟩,
      mc_PlainThing := PySem.W.mg_of X G cc_PlainThing,
      na_PlainThing_called := na_PlainThing_called,
      na_PlainThing_parts := na_PlainThing_parts,
      na_PlainThing_last_words := na_PlainThing_last_words,
      cl_PairThing := ⟨pg_PairThing, hd_PairThing, po_PairThing, sa_PairThing⟩,
      mc_PairThing := PySem.W.mg_of X G cc_PairThing,
      na_PairThing_called := na_PairThing_called,
      na_PairThing_parts := na_PairThing_parts,
      cl_Memory := ⟨pg_Memory, hd_Memory, po_Memory, sa_Memory⟩,
      mc_Memory := PySem.W.mg_of X G cc_Memory,
      na_Memory_rooms := na_Memory_rooms,
      na_Memory_begins := na_Memory_begins,
      c_KIND_BITS := PySem.W.mg_of X G g_KIND_BITS,
      c_MARK_BIT := PySem.W.mg_of X G g_MARK_BIT,
      c_WORDS_BIT := PySem.W.mg_of X G g_WORDS_BIT,
      c_SIZE_FROM := PySem.W.mg_of X G g_SIZE_FROM,
      c_NOTHING := PySem.W.mg_of X G g_NOTHING,
      d_NOTHING := ⟨_, gk_NOTHING, rfl, rfl⟩,
      q_NOTHING := fun H => .inr ⟨_, _, _, gk_NOTHING, rfl, rfl, (by show 1 ≤ sizeLine; decide), (.cons ⟨_, rfl⟩ Paired.nil)⟩,
      c_SORTS := PySem.W.mg_of X G g_SORTS,
      d_SORTS := ⟨_, gk_SORTS, rfl, rfl⟩,
      q_SORTS := fun H => .inr ⟨_, _, _, gk_SORTS, rfl, rfl, (by show 3 ≤ sizeLine; decide), (.cons ⟨_, rfl⟩ (.cons ⟨_, rfl⟩ (.cons ⟨_, rfl⟩ Paired.nil)))⟩,
      c_SERIAL_AT := PySem.W.mg_of X G g_SERIAL_AT,
      c_WORDS_AT := PySem.W.mg_of X G g_WORDS_AT,
      n_abs := PySem.W.mg_none_of X G n_abs,
      n_bool := PySem.W.mg_none_of X G n_bool,
      n_enumerate := PySem.W.mg_none_of X G n_enumerate,
      n_int := PySem.W.mg_none_of X G n_int,
      n_isinstance := PySem.W.mg_none_of X G n_isinstance,
      n_len := PySem.W.mg_none_of X G n_len,
      n_list := PySem.W.mg_none_of X G n_list,
      n_min := PySem.W.mg_none_of X G n_min,
      n_range := PySem.W.mg_none_of X G n_range,
      n_sorted := PySem.W.mg_none_of X G n_sorted }
  exact ⟨_, fun s v => .of_eq rfl, fun base _ _ => ok_law T⟩
theorem walk {l : PySem.W.OpenLaw} {q : Program} {loose : List Str} {XP : (Str → Option Value) → Heap → Prop} {YP : World → Heap → Prop} {d : DefRec} {K : Params → PySem.W.Frag} (hn : l.most = some 63) (hdf : d.params.defaults = [])
    (hY : ∀ (w : World) (h : Heap), YP w h → (K w.params).In h)
    (F : ∀ (w : World) (mg : Str → Option Value) (fa : Addr) (h : Heap), (K w.params).In h → h.Ns mainGlobals mg → mg d.name = some (.ref fa) →
      ∃ fd : FuncData, (∀ (s : Shared) (u : Value), BindsTo s fd ⟨[u], []⟩ [("_law_script", u)]) ∧ ∀ base : Heap, (K w.params).In base → base.Ns mainGlobals mg → FnOk l.prog w (K w.params) mg base CX0 12 fa fd ["_law_script"] (sp_law (K w.params))) :
    PySem.W.WalkO q loose XP YP l.row.toRowW d [] (fun f vs => PySem.call f vs) :=
  L2.walk_of (n := 63) (k := 12) (x := "_law_script") (CX := fun _ => CX0) (sp := fun w => sp_law (K w.params)) hn (by decide) hdf ⟨rfl, by decide, by decide⟩ hY F (fun _ _ a ns hl _ hS => ⟨a, ns, rfl, hS, hl, fun _ => rfl⟩) fun _ _ _ _ _ z => z
end K34
namespace PySem.W.Fast
def tw10042203563039495986:=()
def tw10060127561379534311:=()
def tw10084622163888701060:=()
def tw10111365937228287170:=()
def tw10112407130630908965:=()
def tw10157413196505989862:=()
def tw10162467095257847799:=()
def tw10176917661517490991:=()
def tw10198145139819231723:=()
def tw10200427188079752628:=()
def tw10251637400277551963:=()
def tw10288689087387478903:=()
def tw1029048054249800972:=()
def tw10330865267673860771:=()
def tw103333617393122294:=()
def tw10336884756524878392:=()
def tw103411637577372320:=()
def tw10376683373003918432:=()
def tw10453440618820537726:=()
def tw10514176690849408414:=()
def tw10565443970677519289:=()
def tw1058415573156572863:=()
def tw10592641807805461415:=()
def tw10618492544949930656:=()
def tw10621499988364277069:=()
def tw10623144538425722852:=()
def tw10654270500970548423:=()
def tw1066820091620040570:=()
def tw10673347802574582218:=()
def tw10677803170211531929:=()
def tw10770953341432476416:=()
def tw10778020956329947029:=()
def tw10833660347837560248:=()
def tw10838105440228609926:=()
def tw1084701634631602877:=()
def tw10864422505589479456:=()
def tw1086535409982342569:=()
def tw10950196832958357559:=()
def tw1101195364394424305:=()
def tw11026146729987131216:=()
def tw11030253516045533231:=()
def tw11090914913244287326:=()
def tw11104418465327198557:=()
def tw11212878583735636904:=()
def tw11220519595311658695:=()
def tw11264426173150207832:=()
def tw11309013984683597804:=()
def tw11309629372847363060:=()
def tw11330163447473029177:=()
def tw11332748042015074226:=()
def tw11381140149797932227:=()
def tw11394260204621180580:=()
def tw11429088605539693229:=()
def tw11460022844431626721:=()
def tw11493826851576808350:=()
def tw11580581074621986865:=()
def tw11594291932088452928:=()
def tw11610023811296706201:=()
def tw11645262694993572215:=()
def tw11662164500704195001:=()
def tw11673896610322998983:=()
def tw11683068011979055095:=()
def tw1180270054362071757:=()
def tw11877718377373195376:=()
def tw1199127316614548245:=()
def tw12024981061187556571:=()
def tw12042269114234660573:=()
def tw12066470851513248608:=()
def tw12102410055712323006:=()
def tw1211626786025852148:=()
def tw12131234889402582764:=()
def tw12135893292858706146:=()
def tw12144257751016111204:=()
def tw12148220332528903106:=()
def tw12195141786476559917:=()
def tw12215880998334489880:=()
def tw12269888906795617972:=()
def tw12270627070385844536:=()
def tw12299248435501873021:=()
def tw12319220145083280551:=()
def tw12344012338911984525:=()
def tw12353684569588044039:=()
def tw12354030175267160610:=()
def tw12366415429173630186:=()
def tw12370439785094348331:=()
def tw12467810525135455843:=()
def tw12542351623949675061:=()
def tw12561910545830792052:=()
def tw12570757960850720434:=()
def tw12588836073383174977:=()
def tw1260546919753003250:=()
def tw12625774961973471483:=()
def tw1263236815050707912:=()
def tw12632743573786196118:=()
def tw12656576201240576550:=()
def tw12675016605721766237:=()
def tw12715973079371585741:=()
def tw12732949462615061975:=()
def tw12786149527943171903:=()
def tw12789326716327019269:=()
def tw12809663658991611999:=()
def tw12832908192874305382:=()
def tw1289194203874048276:=()
def tw12898172007459314740:=()
def tw12951585244456884298:=()
def tw1299174682345018545:=()
def tw13000375675939409169:=()
def tw13016210080485927686:=()
def tw13042820512032601506:=()
def tw13062713542920543044:=()
def tw13062810909392363699:=()
def tw13063115872598031702:=()
def tw13093541813305211252:=()
def tw13114317518958953866:=()
def tw13128221775456355406:=()
def tw13158026046822216377:=()
def tw13159084319173639757:=()
def tw13175796703635498725:=()
def tw13210464039056079407:=()
def tw13223165872008034811:=()
def tw1327779856951364129:=()
def tw13277871880793740361:=()
def tw13278426915647541789:=()
def tw13338120979234603489:=()
def tw13366972038330260173:=()
def tw13372934630764875925:=()
def tw13391878205297755228:=()
def tw13422507178655800908:=()
def tw13460126582704585314:=()
def tw13475749455148869518:=()
def tw13498509301076766895:=()
def tw13532494423335973119:=()
def tw13536543686823983778:=()
def tw13564089040394971266:=()
def tw1361703960133454138:=()
def tw13661662730531097481:=()
def tw1372017039363546351:=()
def tw13760524795392341199:=()
def tw13761989416171510663:=()
def tw13845702175455082439:=()
def tw13968170248454989348:=()
def tw13988519724989437610:=()
def tw14019599469895044582:=()
def tw14124332671843408612:=()
def tw14128548144249668896:=()
def tw14145521082737311596:=()
def tw14168546786306518339:=()
def tw14207280930446693485:=()
def tw14212603467325263547:=()
def tw14213952501031768297:=()
def tw14225554104553674497:=()
def tw14227918723186354668:=()
def tw14296288058332905220:=()
def tw14302501653487381237:=()
def tw1438909396031347824:=()
def tw14389260623521847779:=()
def tw14398013367136037391:=()
def tw1449555264926621129:=()
def tw14497515917689275525:=()
def tw14545127195828340580:=()
def tw1462926699183712403:=()
def tw14635918672719343960:=()
def tw14732796145894539555:=()
def tw14793728028438390640:=()
def tw14809695058291831308:=()
def tw14837121311435275762:=()
def tw14877821930758256003:=()
def tw14881650249146865423:=()
def tw14923644567128706102:=()
def tw14958052006594118083:=()
def tw14973524086397597335:=()
def tw15066889675521416967:=()
def tw1513870918835347361:=()
def tw15141908167220195544:=()
def tw15158829044285616606:=()
def tw15208935186604409408:=()
def tw15224520913593808181:=()
def tw15238230099959576781:=()
def tw15252480969855113851:=()
def tw15253734766213312894:=()
def tw15290408470742223724:=()
def tw15309832551963696032:=()
def tw15315835271208601840:=()
def tw15316820067922275144:=()
def tw15335441250477894999:=()
def tw15349539377927997173:=()
def tw15398383948135985061:=()
def tw15417030635673822730:=()
def tw15423204738613614959:=()
def tw15463603772525014505:=()
def tw15466070336917662751:=()
def tw15504263422699754724:=()
def tw15523298515061535760:=()
def tw15583006190597867461:=()
def tw15584434284014783890:=()
def tw155945520098526060:=()
def tw15605154986729311022:=()
def tw15608035594180771428:=()
def tw15615535329259858904:=()
def tw15643526714519349717:=()
def tw1572854323914272786:=()
def tw15739605776637159572:=()
def tw15839085572661503596:=()
def tw15859608067501310380:=()
def tw15884995614388844169:=()
def tw15942758662360403954:=()
def tw15966724048977153175:=()
def tw15987736515452360257:=()
def tw15990477833991467914:=()
def tw16032492652839437664:=()
def tw1605284367108479724:=()
def tw16096913536529744979:=()
def tw16107991609911938107:=()
def tw16125899876206358393:=()
def tw1612846395465463162:=()
def tw16140565258628642717:=()
def tw16171109991393770101:=()
def tw1623722674263814268:=()
def tw16254299309245802258:=()
def tw16274897867691332927:=()
def tw16295793965755302689:=()
def tw16299283630746105123:=()
def tw16323994591503630558:=()
def tw16328346384348737126:=()
def tw16394419978944411497:=()
def tw16400979469438153998:=()
def tw16403608990242932552:=()
def tw16440090565951236827:=()
def tw16443647620455100292:=()
def tw16478720747107046431:=()
def tw16480351072855104220:=()
def tw16511358695416023013:=()
def tw16541679865827494135:=()
def tw16559890184982629404:=()
def tw16561558397486357254:=()
def tw16602078222031504107:=()
def tw16621415553919047679:=()
def tw16634861185549508711:=()
def tw16639699956297809156:=()
def tw16645817230106659838:=()
def tw1669845142601039986:=()
def tw1674868009297092060:=()
def tw1675565205496592754:=()
def tw16759110098550352066:=()
def tw16762645129998304190:=()
def tw16805097910674487766:=()
def tw16858397727720565998:=()
def tw16908429973805384640:=()
def tw16912129286891216929:=()
def tw16920887138412977132:=()
def tw16940299185002176993:=()
def tw17032779577161590800:=()
def tw1703846084102921672:=()
def tw17154909402295519692:=()
def tw17170214432740143592:=()
def tw17202744193144443939:=()
def tw17203475498674449711:=()
def tw17204916066907646170:=()
def tw17217609968670141404:=()
def tw17269144667536028308:=()
def tw17275343383336238995:=()
def tw17284717614980572801:=()
def tw17302628672231854737:=()
def tw1730365466398787804:=()
def tw17392971240376793546:=()
def tw17425298554452416851:=()
def tw17459693483717807441:=()
def tw17527537917603134219:=()
def tw17528450161723808040:=()
def tw17529579672262642233:=()
def tw17568671516606299588:=()
def tw17580060859016566539:=()
def tw17584867305520354592:=()
def tw17626823799376643928:=()
def tw17644618975679849713:=()
def tw17739812514052158142:=()
def tw17755478733004801333:=()
def tw17768497125671097507:=()
def tw17802175423930307298:=()
def tw17807052362425174969:=()
def tw17807279051257136071:=()
def tw17807994563183642142:=()
def tw17852765703400259065:=()
def tw17945298485231779423:=()
def tw18013378013022026613:=()
def tw18014821062634210069:=()
def tw1807045950311695106:=()
def tw18078324077051627753:=()
def tw18079260091305619747:=()
def tw18115767743058583052:=()
def tw18138277158152716578:=()
def tw18225645700753788490:=()
def tw18227454767448298677:=()
def tw18248121289505967357:=()
def tw18285132251120549269:=()
def tw18287015599945222322:=()
def tw18302909703461793683:=()
def tw18306516550666957319:=()
def tw18314991635641643714:=()
def tw18325819290298543440:=()
def tw18375429951516000773:=()
def tw18392670601610302776:=()
def tw18424435943801044667:=()
def tw18437938517019084610:=()
def tw18444981020484318043:=()
def tw1855996974093299958:=()
def tw1867336381750319046:=()
def tw1901875635926416910:=()
def tw1927623870116270514:=()
def tw1941367680166566408:=()
def tw1962785776911419155:=()
def tw1972352192316756409:=()
def tw1979177555600164914:=()
def tw2025983785604513229:=()
def tw2046617222670626775:=()
def tw2094992320539336807:=()
def tw211160332927084437:=()
def tw2140209509842535373:=()
def tw2141128487602078279:=()
def tw2190908352231760547:=()
def tw2240415571913739506:=()
def tw2255086266533317087:=()
def tw229508891939806803:=()
def tw2306297267486247169:=()
def tw2410448873258566454:=()
def tw2431404856860193179:=()
def tw2457999951531058416:=()
def tw2465490392278065709:=()
def tw2494519607357330837:=()
def tw2519929808907125318:=()
def tw2633096045582888858:=()
def tw2702772399952923821:=()
def tw2749651930566704787:=()
def tw2781162477378002812:=()
def tw279240617843409477:=()
def tw2827764481915373521:=()
def tw2852952264889019010:=()
def tw285491311893307793:=()
def tw2992735205188850756:=()
def tw3005984614293578904:=()
def tw3021284022783980676:=()
def tw302380186103761566:=()
def tw3145735819141628229:=()
def tw3160704841635640062:=()
def tw31925928933043298:=()
def tw3208196461970711263:=()
def tw3223021908982901408:=()
def tw3232050554143749851:=()
def tw3306280031467442581:=()
def tw3323069172512492788:=()
def tw3348233174818603431:=()
def tw3365284540377966792:=()
def tw3369959056831085715:=()
def tw3371716373118729803:=()
def tw3408907955363688897:=()
def tw3431936215255434444:=()
def tw3450698434188013985:=()
def tw3517885322490289841:=()
def tw3523502233187295388:=()
def tw3548171441030245676:=()
def tw3569678257955142586:=()
def tw365025500233787575:=()
def tw3651944753244728507:=()
def tw3666187548155884416:=()
def tw3676095421861339927:=()
def tw3724560052599784577:=()
def tw3732111785882622252:=()
def tw3759660460554469344:=()
def tw3768513153764178065:=()
def tw3782137148456865439:=()
def tw3789246648947461496:=()
def tw3830254090890260723:=()
def tw3835007666536527426:=()
def tw3851534587136192561:=()
def tw3854868955845464889:=()
def tw3865220721656514956:=()
def tw3909065397246730456:=()
def tw3965326850942275806:=()
def tw3966826995982010253:=()
def tw4036189911206918400:=()
def tw4043358018527585516:=()
def tw407721323046859274:=()
def tw4117769348663054730:=()
def tw4164425656129519929:=()
def tw4175740201282505049:=()
def tw4184175911488184259:=()
def tw4186542490041079263:=()
def tw4255421527003104022:=()
def tw4261326351010251278:=()
def tw4265573787011563665:=()
def tw4328081283975237509:=()
def tw4343486986360915468:=()
def tw4379776576097185669:=()
def tw4396089907717567280:=()
def tw4399594914665322590:=()
def tw4472571300681542205:=()
def tw4485713975499152785:=()
def tw4487877985976933739:=()
def tw449814678668131368:=()
def tw4511143761096414195:=()
def tw4517931423188799168:=()
def tw4561418979366242931:=()
def tw4633158892987403844:=()
def tw464040561005919847:=()
def tw4671371088360476791:=()
def tw4682155310371872366:=()
def tw4761592935966086193:=()
def tw4786490811200582913:=()
def tw4874758434539723649:=()
def tw4894179770346090513:=()
def tw4898755220842393619:=()
def tw4899134261499981083:=()
def tw4941681059500968695:=()
def tw5030465208314953521:=()
def tw5062290273130165878:=()
def tw5097111891852963134:=()
def tw5103746537728308410:=()
def tw5189612705927922292:=()
def tw5214570447413178140:=()
def tw5234172420224284217:=()
def tw5235570401207677471:=()
def tw5259638654485878325:=()
def tw5304042391058456226:=()
def tw533894009464426531:=()
def tw5437376170434837676:=()
def tw5464232573590942659:=()
def tw5495743481959898219:=()
def tw5500275867856984788:=()
def tw5527505718296750107:=()
def tw5557660510982386212:=()
def tw5564252903662661560:=()
def tw556893124125631743:=()
def tw558040617858246680:=()
def tw5608552578552503217:=()
def tw5625174411258869836:=()
def tw5718770427532373206:=()
def tw5723401940134389549:=()
def tw5749687090481557628:=()
def tw5765925069446376170:=()
def tw5862425639366884803:=()
def tw590873652636063608:=()
def tw5968226624600363401:=()
def tw6004456688653298070:=()
def tw6035921707522854475:=()
def tw6068958756597805333:=()
def tw6082605283582108536:=()
def tw6089477875717566233:=()
def tw6124068266029182416:=()
def tw6125426664039328403:=()
def tw6172474945458464436:=()
def tw6176094212905926515:=()
def tw625446671472106220:=()
def tw6273391858468982060:=()
def tw6278205036924566823:=()
def tw6313592068088960721:=()
def tw6379621109018378696:=()
def tw6452692607380042175:=()
def tw6490005903785506596:=()
def tw6501607275366707193:=()
def tw6520960929818851073:=()
def tw65327219217146864:=()
def tw6589391063116384240:=()
def tw6637016740748271398:=()
def tw6670877753887909281:=()
def tw6677496623710779602:=()
def tw6689062049992509074:=()
def tw6750123118509971807:=()
def tw6865891460987082337:=()
def tw687024949650304527:=()
def tw6882295626189198432:=()
def tw696280023417044445:=()
def tw6983825553257975778:=()
def tw7006576552785751427:=()
def tw7043126020993144514:=()
def tw7060111689289723650:=()
def tw7107045354209149898:=()
def tw712951339659655732:=()
def tw7157772357146909908:=()
def tw7158345553389596506:=()
def tw7196915996444028810:=()
def tw721411982771311218:=()
def tw7228636778533597789:=()
def tw7243992450129996842:=()
def tw724500835056034327:=()
def tw7297668326224324399:=()
def tw7366613474817233097:=()
def tw7395542267404903628:=()
def tw7414047906512218075:=()
def tw7480994779462257138:=()
def tw7484258723620558267:=()
def tw7516373499123814766:=()
def tw7522874998212365591:=()
def tw757695725298396187:=()
def tw7583188163664135652:=()
def tw7599836266382935502:=()
def tw7631970983200051045:=()
def tw7704303678643349876:=()
def tw771829563726311515:=()
def tw7800808761668751395:=()
def tw7806235298774590757:=()
def tw7868718805770786580:=()
def tw7908301572025092477:=()
def tw7973993848419537990:=()
def tw7989463835357105982:=()
def tw8002426007067284778:=()
def tw8074806369028828845:=()
def tw8206476790488015810:=()
def tw8240633444207499416:=()
def tw825096065423475297:=()
def tw8286469021750123902:=()
def tw829774835577564231:=()
def tw8313516411461964562:=()
def tw832208267755983743:=()
def tw8322198027795655218:=()
def tw83372514613943120:=()
def tw8337661091440305707:=()
def tw8392092832817767455:=()
def tw8392224431957013030:=()
def tw8409122648619198953:=()
def tw8475347622323041183:=()
def tw8492134340597477512:=()
def tw8497954206119833468:=()
def tw8510021704193074237:=()
def tw8561371920542196417:=()
def tw8570951753276113530:=()
def tw8596231245396812929:=()
def tw8611741378527723355:=()
def tw8639136476591921357:=()
def tw864957812524955171:=()
def tw8650564465322695533:=()
def tw8754609115563243570:=()
def tw8925894606354085080:=()
def tw9013337911560900952:=()
def tw9047336278089721910:=()
def tw9067711556763404655:=()
def tw9091984471147359852:=()
def tw9109500682353756525:=()
def tw9121206100209601673:=()
def tw913275013856181206:=()
def tw914569345094409295:=()
def tw9172846838972791971:=()
def tw9181775826969807167:=()
def tw919650295317289578:=()
def tw9228031485784432001:=()
def tw9242660548796546110:=()
def tw9274157793743701591:=()
def tw9287498467831493341:=()
def tw9317135049650488557:=()
def tw9363272147973778558:=()
def tw9381681803749432247:=()
def tw9479896354518958617:=()
def tw9523999786984701592:=()
def tw9526384615820299740:=()
def tw9549864700603140629:=()
def tw9602743470284277273:=()
def tw9639547320703291589:=()
def tw9643318494989777158:=()
def tw9644052826333858093:=()
def tw9706346407182471549:=()
def tw9731313854352933012:=()
def tw9750779071175322141:=()
def tw977653337992937713:=()
def tw9863709809194953672:=()
def tw9876841175545516888:=()
def tw991114144698692058:=()
def tw9926561473703946395:=()
def tw9962462940372568127:=()
def tw9965977682881541900:=()
def tw9992545716458292748:=()
end PySem.W.Fast
namespace K34
end K34
open PySem PySem.W PyProof.Rows
set_option maxRecDepth 100000 in
set_option maxHeartbeats 0 in
theorem K34head : PySem.Challenge.rw_heapsafe_k34_whole_memory_through_deeds.Holds := by
  w_on; o_law; k_head; (case hw => w_witness2)
  k_fill
  refine K34.walk (l := PySem.Challenge.rw_heapsafe_k34_whole_memory_through_deeds) rfl rfl (fun w h Y => PySem.W.kIn_of Y) ?F
  case F =>
    intro w mg fa h KX G hmg
    refine' K34.all_mk KX G hmg ?x_cc_Rooms ?x_cc_Thing ?x_cc_PlainThing ?x_cc_PairThing ?x_cc_Memory ?x_a_header ?x_l_header ?x_co_header ?x_k_header ?x_a_kind_in ?x_l_kind_in ?x_co_kind_in ?x_k_kind_in ?x_a_size_in ?x_l_size_in ?x_co_size_in ?x_k_size_in ?x_a_is_marked ?x_l_is_marked ?x_co_is_marked ?x_k_is_marked ?x_a_has_words ?x_l_has_words ?x_co_has_words ?x_k_has_words ?x_a_with_mark ?x_l_with_mark ?x_co_with_mark ?x_k_with_mark ?x_a_with_words ?x_l_with_words ?x_co_with_words ?x_k_with_words ?x_a_with_bit ?x_l_with_bit ?x_co_with_bit ?x_k_with_bit ?x_a_Rooms_init ?x_i_Rooms_init ?x_l_Rooms_init ?x_co_Rooms_init ?x_k_Rooms_init ?x_a_Rooms_gap ?x_i_Rooms_gap ?x_l_Rooms_gap ?x_co_Rooms_gap ?x_k_Rooms_gap ?x_a_Rooms_gap_in ?x_i_Rooms_gap_in ?x_l_Rooms_gap_in ?x_co_Rooms_gap_in ?x_k_Rooms_gap_in ?x_a_Rooms_fill_in ?x_i_Rooms_fill_in ?x_l_Rooms_fill_in ?x_co_Rooms_fill_in ?x_k_Rooms_fill_in ?x_a_Rooms_set_free ?x_i_Rooms_set_free ?x_l_Rooms_set_free ?x_co_Rooms_set_free ?x_k_Rooms_set_free ?x_a_Rooms_read ?x_i_Rooms_read ?x_l_Rooms_read ?x_co_Rooms_read ?x_k_Rooms_read ?x_a_Rooms_write ?x_i_Rooms_write ?x_l_Rooms_write ?x_co_Rooms_write ?x_k_Rooms_write ?x_a_Rooms_room_of ?x_i_Rooms_room_of ?x_l_Rooms_room_of ?x_co_Rooms_room_of ?x_k_Rooms_room_of ?x_a_Thing_init ?x_i_Thing_init ?x_l_Thing_init ?x_co_Thing_init ?x_k_Thing_init ?x_a_Thing_sort_of ?x_i_Thing_sort_of ?x_l_Thing_sort_of ?x_co_Thing_sort_of ?x_k_Thing_sort_of ?x_a_Thing_fields ?x_i_Thing_fields ?x_l_Thing_fields ?x_co_Thing_fields ?x_k_Thing_fields ?x_a_Thing_words ?x_i_Thing_words ?x_l_Thing_words ?x_co_Thing_words ?x_k_Thing_words ?x_a_PlainThing_init ?x_i_PlainThing_init ?x_l_PlainThing_init ?x_co_PlainThing_init ?x_k_PlainThing_init ?x_a_PlainThing_words ?x_i_PlainThing_words ?x_l_PlainThing_words ?x_co_PlainThing_words ?x_k_PlainThing_words ?x_a_PairThing_init ?x_i_PairThing_init ?x_l_PairThing_init ?x_co_PairThing_init ?x_k_PairThing_init ?x_a_plain ?x_l_plain ?x_co_plain ?x_k_plain ?x_a_weak ?x_l_weak ?x_co_weak ?x_k_weak ?x_a_pair ?x_l_pair ?x_co_pair ?x_k_pair ?x_a_first_field ?x_l_first_field ?x_co_first_field ?x_k_first_field ?x_a_size_of ?x_l_size_of ?x_co_size_of ?x_k_size_of ?x_a_words_cell ?x_l_words_cell ?x_co_words_cell ?x_k_words_cell ?x_a_cells_of ?x_l_cells_of ?x_co_cells_of ?x_k_cells_of ?x_a_Memory_init ?x_i_Memory_init ?x_l_Memory_init ?x_co_Memory_init ?x_k_Memory_init ?x_a_Memory_put_in ?x_i_Memory_put_in ?x_l_Memory_put_in ?x_co_Memory_put_in ?x_k_Memory_put_in ?x_a_Memory_fill_from ?x_i_Memory_fill_from ?x_l_Memory_fill_from ?x_co_Memory_fill_from ?x_k_Memory_fill_from ?x_a_Memory_head_at ?x_i_Memory_head_at ?x_l_Memory_head_at ?x_co_Memory_head_at ?x_k_Memory_head_at ?x_a_Memory_thing_at ?x_i_Memory_thing_at ?x_l_Memory_thing_at ?x_co_Memory_thing_at ?x_k_Memory_thing_at ?x_a_Memory_words_at ?x_i_Memory_words_at ?x_l_Memory_words_at ?x_co_Memory_words_at ?x_k_Memory_words_at ?x_a_Memory_serial_at ?x_i_Memory_serial_at ?x_l_Memory_serial_at ?x_co_Memory_serial_at ?x_k_Memory_serial_at ?x_a_Memory_size_at ?x_i_Memory_size_at ?x_l_Memory_size_at ?x_co_Memory_size_at ?x_k_Memory_size_at ?x_a_Memory_sort_at ?x_i_Memory_sort_at ?x_l_Memory_sort_at ?x_co_Memory_sort_at ?x_k_Memory_sort_at ?x_a_Memory_marked_at ?x_i_Memory_marked_at ?x_l_Memory_marked_at ?x_co_Memory_marked_at ?x_k_Memory_marked_at ?x_a_Memory_set_mark ?x_i_Memory_set_mark ?x_l_Memory_set_mark ?x_co_Memory_set_mark ?x_k_Memory_set_mark ?x_a_Memory_set_field ?x_i_Memory_set_field ?x_l_Memory_set_field ?x_co_Memory_set_field ?x_k_Memory_set_field ?x_a_Memory_set_words ?x_i_Memory_set_words ?x_l_Memory_set_words ?x_co_Memory_set_words ?x_k_Memory_set_words ?x_a_Memory_take_out ?x_i_Memory_take_out ?x_l_Memory_take_out ?x_co_Memory_take_out ?x_k_Memory_take_out ?x_a_Memory_places ?x_i_Memory_places ?x_l_Memory_places ?x_co_Memory_places ?x_k_Memory_places ?x_a_Memory_places_in ?x_i_Memory_places_in ?x_l_Memory_places_in ?x_co_Memory_places_in ?x_k_Memory_places_in ?x_a_law_cell_at ?x_l_law_cell_at ?x_co_law_cell_at ?x_k_law_cell_at ?x_a_law_drawn ?x_l_law_drawn ?x_co_law_drawn ?x_k_law_drawn ?x_a_law_value ?x_l_law_value ?x_co_law_value ?x_k_law_value ?x_a_law_shape ?x_l_law_shape ?x_co_law_shape ?x_k_law_shape ?x_a_law_thing ?x_l_law_thing ?x_co_law_thing ?x_k_law_thing ?x_a_law_size ?x_l_law_size ?x_co_law_size ?x_k_law_size ?x_a_law_whole ?x_l_law_whole ?x_co_law_whole ?x_k_law_whole ?x_a_law_held ?x_l_law_held ?x_co_law_held ?x_k_law_held ?x_a_law_apart ?x_l_law_apart ?x_co_law_apart ?x_k_law_apart ?x_a_law_least ?x_l_law_least ?x_co_law_least ?x_k_law_least ?x_a_law_done ?x_l_law_done ?x_co_law_done ?x_k_law_done ?x_a_law ?x_l_law ?x_co_law ?x_k_law ?x_pg_Rooms ?x_hd_Rooms ?x_po_Rooms ?x_sa_Rooms ?x_mi_Rooms ?x_kc_Rooms ?x_na_Rooms_many ?x_na_Rooms_cells ?x_na_Rooms_inside ?x_pg_Thing ?x_hd_Thing ?x_po_Thing ?x_sa_Thing ?x_mi_Thing ?x_kc_Thing ?x_na_Thing_called ?x_na_Thing_parts ?x_pg_PlainThing ?x_hd_PlainThing ?x_po_PlainThing ?x_sa_PlainThing ?x_mi_PlainThing ?x_kc_PlainThing ?x_na_PlainThing_called ?x_na_PlainThing_parts ?x_na_PlainThing_last_words ?x_pg_PairThing ?x_hd_PairThing ?x_po_PairThing ?x_sa_PairThing ?x_mi_PairThing ?x_kc_PairThing ?x_na_PairThing_called ?x_na_PairThing_parts ?x_pg_Memory ?x_hd_Memory ?x_po_Memory ?x_sa_Memory ?x_mi_Memory ?x_kc_Memory ?x_na_Memory_rooms ?x_na_Memory_begins ?x_g_KIND_BITS ?x_g_MARK_BIT ?x_g_WORDS_BIT ?x_g_SIZE_FROM ?x_g_NOTHING ?x_gk_NOTHING ?x_g_SORTS ?x_gk_SORTS ?x_g_SERIAL_AT ?x_g_WORDS_AT ?x_h_PlainThing_sort_of ?x_h_PlainThing_fields ?x_h_PairThing_sort_of ?x_h_PairThing_fields ?x_h_PairThing_words ?x_cf1_Thing_init ?x_cf2_Thing_init ?x_cf3_Thing_init ?x_tyg ?x_tyt ?x_tya_Thing ?x_tym_Thing ?x_tya_PlainThing ?x_tym_PlainThing ?x_tya_PairThing ?x_tym_PairThing ?x_ki_Thing_Thing ?x_ki_PlainThing_Thing ?x_ki_PairThing_Thing ?x_n_abs ?x_n_bool ?x_n_enumerate ?x_n_int ?x_n_isinstance ?x_n_len ?x_n_list ?x_n_min ?x_n_range ?x_n_sorted
    (case x_cc_Rooms => k_is)
    (case x_cc_Thing => k_is)
    (case x_cc_PlainThing => k_is)
    (case x_cc_PairThing => k_is)
    (case x_cc_Memory => k_is)
    (case x_a_header => k_is)
    (case x_l_header => k_is)
    (case x_co_header => k_is)
    (case x_k_header => k_is)
    (case x_a_kind_in => k_is)
    (case x_l_kind_in => k_is)
    (case x_co_kind_in => k_is)
    (case x_k_kind_in => k_is)
    (case x_a_size_in => k_is)
    (case x_l_size_in => k_is)
    (case x_co_size_in => k_is)
    (case x_k_size_in => k_is)
    (case x_a_is_marked => k_is)
    (case x_l_is_marked => k_is)
    (case x_co_is_marked => k_is)
    (case x_k_is_marked => k_is)
    (case x_a_has_words => k_is)
    (case x_l_has_words => k_is)
    (case x_co_has_words => k_is)
    (case x_k_has_words => k_is)
    (case x_a_with_mark => k_is)
    (case x_l_with_mark => k_is)
    (case x_co_with_mark => k_is)
    (case x_k_with_mark => k_is)
    (case x_a_with_words => k_is)
    (case x_l_with_words => k_is)
    (case x_co_with_words => k_is)
    (case x_k_with_words => k_is)
    (case x_a_with_bit => k_is)
    (case x_l_with_bit => k_is)
    (case x_co_with_bit => k_is)
    (case x_k_with_bit => k_is)
    (case x_a_Rooms_init => k_is)
    (case x_i_Rooms_init => k_is)
    (case x_l_Rooms_init => k_is)
    (case x_co_Rooms_init => k_is)
    (case x_k_Rooms_init => k_is)
    (case x_a_Rooms_gap => k_is)
    (case x_i_Rooms_gap => k_is)
    (case x_l_Rooms_gap => k_is)
    (case x_co_Rooms_gap => k_is)
    (case x_k_Rooms_gap => k_is)
    (case x_a_Rooms_gap_in => k_is)
    (case x_i_Rooms_gap_in => k_is)
    (case x_l_Rooms_gap_in => k_is)
    (case x_co_Rooms_gap_in => k_is)
    (case x_k_Rooms_gap_in => k_is)
    (case x_a_Rooms_fill_in => k_is)
    (case x_i_Rooms_fill_in => k_is)
    (case x_l_Rooms_fill_in => k_is)
    (case x_co_Rooms_fill_in => k_is)
    (case x_k_Rooms_fill_in => k_is)
    (case x_a_Rooms_set_free => k_is)
    (case x_i_Rooms_set_free => k_is)
    (case x_l_Rooms_set_free => k_is)
    (case x_co_Rooms_set_free => k_is)
    (case x_k_Rooms_set_free => k_is)
    (case x_a_Rooms_read => k_is)
    (case x_i_Rooms_read => k_is)
    (case x_l_Rooms_read => k_is)
    (case x_co_Rooms_read => k_is)
    (case x_k_Rooms_read => k_is)
    (case x_a_Rooms_write => k_is)
    (case x_i_Rooms_write => k_is)
    (case x_l_Rooms_write => k_is)
    (case x_co_Rooms_write => k_is)
    (case x_k_Rooms_write => k_is)
    (case x_a_Rooms_room_of => k_is)
    (case x_i_Rooms_room_of => k_is)
    (case x_l_Rooms_room_of => k_is)
    (case x_co_Rooms_room_of => k_is)
    (case x_k_Rooms_room_of => k_is)
    (case x_a_Thing_init => k_is)
    (case x_i_Thing_init => k_is)
    (case x_l_Thing_init => k_is)
    (case x_co_Thing_init => k_is)
    (case x_k_Thing_init => k_is)
    (case x_a_Thing_sort_of => k_is)
    (case x_i_Thing_sort_of => k_is)
    (case x_l_Thing_sort_of => k_is)
    (case x_co_Thing_sort_of => k_is)
    (case x_k_Thing_sort_of => k_is)
    (case x_a_Thing_fields => k_is)
    (case x_i_Thing_fields => k_is)
    (case x_l_Thing_fields => k_is)
    (case x_co_Thing_fields => k_is)
    (case x_k_Thing_fields => k_is)
    (case x_a_Thing_words => k_is)
    (case x_i_Thing_words => k_is)
    (case x_l_Thing_words => k_is)
    (case x_co_Thing_words => k_is)
    (case x_k_Thing_words => k_is)
    (case x_a_PlainThing_init => k_is)
    (case x_i_PlainThing_init => k_is)
    (case x_l_PlainThing_init => k_is)
    (case x_co_PlainThing_init => k_is)
    (case x_k_PlainThing_init => k_is)
    (case x_a_PlainThing_words => k_is)
    (case x_i_PlainThing_words => k_is)
    (case x_l_PlainThing_words => k_is)
    (case x_co_PlainThing_words => k_is)
    (case x_k_PlainThing_words => k_is)
    (case x_a_PairThing_init => k_is)
    (case x_i_PairThing_init => k_is)
    (case x_l_PairThing_init => k_is)
    (case x_co_PairThing_init => k_is)
    (case x_k_PairThing_init => k_is)
    (case x_a_plain => k_is)
    (case x_l_plain => k_is)
    (case x_co_plain => k_is)
    (case x_k_plain => k_is)
    (case x_a_weak => k_is)
    (case x_l_weak => k_is)
    (case x_co_weak => k_is)
    (case x_k_weak => k_is)
    (case x_a_pair => k_is)
    (case x_l_pair => k_is)
    (case x_co_pair => k_is)
    (case x_k_pair => k_is)
    (case x_a_first_field => k_is)
    (case x_l_first_field => k_is)
    (case x_co_first_field => k_is)
    (case x_k_first_field => k_is)
    (case x_a_size_of => k_is)
    (case x_l_size_of => k_is)
    (case x_co_size_of => k_is)
    (case x_k_size_of => k_is)
    (case x_a_words_cell => k_is)
    (case x_l_words_cell => k_is)
    (case x_co_words_cell => k_is)
    (case x_k_words_cell => k_is)
    (case x_a_cells_of => k_is)
    (case x_l_cells_of => k_is)
    (case x_co_cells_of => k_is)
    (case x_k_cells_of => k_is)
    (case x_a_Memory_init => k_is)
    (case x_i_Memory_init => k_is)
    (case x_l_Memory_init => k_is)
    (case x_co_Memory_init => k_is)
    (case x_k_Memory_init => k_is)
    (case x_a_Memory_put_in => k_is)
    (case x_i_Memory_put_in => k_is)
    (case x_l_Memory_put_in => k_is)
    (case x_co_Memory_put_in => k_is)
    (case x_k_Memory_put_in => k_is)
    (case x_a_Memory_fill_from => k_is)
    (case x_i_Memory_fill_from => k_is)
    (case x_l_Memory_fill_from => k_is)
    (case x_co_Memory_fill_from => k_is)
    (case x_k_Memory_fill_from => k_is)
    (case x_a_Memory_head_at => k_is)
    (case x_i_Memory_head_at => k_is)
    (case x_l_Memory_head_at => k_is)
    (case x_co_Memory_head_at => k_is)
    (case x_k_Memory_head_at => k_is)
    (case x_a_Memory_thing_at => k_is)
    (case x_i_Memory_thing_at => k_is)
    (case x_l_Memory_thing_at => k_is)
    (case x_co_Memory_thing_at => k_is)
    (case x_k_Memory_thing_at => k_is)
    (case x_a_Memory_words_at => k_is)
    (case x_i_Memory_words_at => k_is)
    (case x_l_Memory_words_at => k_is)
    (case x_co_Memory_words_at => k_is)
    (case x_k_Memory_words_at => k_is)
    (case x_a_Memory_serial_at => k_is)
    (case x_i_Memory_serial_at => k_is)
    (case x_l_Memory_serial_at => k_is)
    (case x_co_Memory_serial_at => k_is)
    (case x_k_Memory_serial_at => k_is)
    (case x_a_Memory_size_at => k_is)
    (case x_i_Memory_size_at => k_is)
    (case x_l_Memory_size_at => k_is)
    (case x_co_Memory_size_at => k_is)
    (case x_k_Memory_size_at => k_is)
    (case x_a_Memory_sort_at => k_is)
    (case x_i_Memory_sort_at => k_is)
    (case x_l_Memory_sort_at => k_is)
    (case x_co_Memory_sort_at => k_is)
    (case x_k_Memory_sort_at => k_is)
    (case x_a_Memory_marked_at => k_is)
    (case x_i_Memory_marked_at => k_is)
    (case x_l_Memory_marked_at => k_is)
    (case x_co_Memory_marked_at => k_is)
    (case x_k_Memory_marked_at => k_is)
    (case x_a_Memory_set_mark => k_is)
    (case x_i_Memory_set_mark => k_is)
    (case x_l_Memory_set_mark => k_is)
    (case x_co_Memory_set_mark => k_is)
    (case x_k_Memory_set_mark => k_is)
    (case x_a_Memory_set_field => k_is)
    (case x_i_Memory_set_field => k_is)
    (case x_l_Memory_set_field => k_is)
    (case x_co_Memory_set_field => k_is)
    (case x_k_Memory_set_field => k_is)
    (case x_a_Memory_set_words => k_is)
    (case x_i_Memory_set_words => k_is)
    (case x_l_Memory_set_words => k_is)
    (case x_co_Memory_set_words => k_is)
    (case x_k_Memory_set_words => k_is)
    (case x_a_Memory_take_out => k_is)
    (case x_i_Memory_take_out => k_is)
    (case x_l_Memory_take_out => k_is)
    (case x_co_Memory_take_out => k_is)
    (case x_k_Memory_take_out => k_is)
    (case x_a_Memory_places => k_is)
    (case x_i_Memory_places => k_is)
    (case x_l_Memory_places => k_is)
    (case x_co_Memory_places => k_is)
    (case x_k_Memory_places => k_is)
    (case x_a_Memory_places_in => k_is)
    (case x_i_Memory_places_in => k_is)
    (case x_l_Memory_places_in => k_is)
    (case x_co_Memory_places_in => k_is)
    (case x_k_Memory_places_in => k_is)
    (case x_a_law_cell_at => k_is)
    (case x_l_law_cell_at => k_is)
    (case x_co_law_cell_at => k_is)
    (case x_k_law_cell_at => k_is)
    (case x_a_law_drawn => k_is)
    (case x_l_law_drawn => k_is)
    (case x_co_law_drawn => k_is)
    (case x_k_law_drawn => k_is)
    (case x_a_law_value => k_is)
    (case x_l_law_value => k_is)
    (case x_co_law_value => k_is)
    (case x_k_law_value => k_is)
    (case x_a_law_shape => k_is)
    (case x_l_law_shape => k_is)
    (case x_co_law_shape => k_is)
    (case x_k_law_shape => k_is)
    (case x_a_law_thing => k_is)
    (case x_l_law_thing => k_is)
    (case x_co_law_thing => k_is)
    (case x_k_law_thing => k_is)
    (case x_a_law_size => k_is)
    (case x_l_law_size => k_is)
    (case x_co_law_size => k_is)
    (case x_k_law_size => k_is)
    (case x_a_law_whole => k_is)
    (case x_l_law_whole => k_is)
    (case x_co_law_whole => k_is)
    (case x_k_law_whole => k_is)
    (case x_a_law_held => k_is)
    (case x_l_law_held => k_is)
    (case x_co_law_held => k_is)
    (case x_k_law_held => k_is)
    (case x_a_law_apart => k_is)
    (case x_l_law_apart => k_is)
    (case x_co_law_apart => k_is)
    (case x_k_law_apart => k_is)
    (case x_a_law_least => k_is)
    (case x_l_law_least => k_is)
    (case x_co_law_least => k_is)
    (case x_k_law_least => k_is)
    (case x_a_law_done => k_is)
    (case x_l_law_done => k_is)
    (case x_co_law_done => k_is)
    (case x_k_law_done => k_is)
    (case x_a_law => k_is)
    (case x_l_law => k_is)
    (case x_co_law => k_is)
    (case x_k_law => k_is)
    (case x_pg_Rooms => k_is)
    (case x_hd_Rooms => k_is)
    (case x_po_Rooms => k_is)
    (case x_sa_Rooms => k_is)
    (case x_mi_Rooms => k_is)
    (case x_kc_Rooms => k_is)
    (case x_na_Rooms_many => k_is)
    (case x_na_Rooms_cells => k_is)
    (case x_na_Rooms_inside => k_is)
    (case x_pg_Thing => k_is)
    (case x_hd_Thing => k_is)
    (case x_po_Thing => k_is)
    (case x_sa_Thing => k_is)
    (case x_mi_Thing => k_is)
    (case x_kc_Thing => k_is)
    (case x_na_Thing_called => k_is)
    (case x_na_Thing_parts => k_is)
    (case x_pg_PlainThing => k_is)
    (case x_hd_PlainThing => k_is)
    (case x_po_PlainThing => k_is)
    (case x_sa_PlainThing => k_is)
    (case x_mi_PlainThing => k_is)
    (case x_kc_PlainThing => k_is)
    (case x_na_PlainThing_called => k_is)
    (case x_na_PlainThing_parts => k_is)
    (case x_na_PlainThing_last_words => k_is)
    (case x_pg_PairThing => k_is)
    (case x_hd_PairThing => k_is)
    (case x_po_PairThing => k_is)
    (case x_sa_PairThing => k_is)
    (case x_mi_PairThing => k_is)
    (case x_kc_PairThing => k_is)
    (case x_na_PairThing_called => k_is)
    (case x_na_PairThing_parts => k_is)
    (case x_pg_Memory => k_is)
    (case x_hd_Memory => k_is)
    (case x_po_Memory => k_is)
    (case x_sa_Memory => k_is)
    (case x_mi_Memory => k_is)
    (case x_kc_Memory => k_is)
    (case x_na_Memory_rooms => k_is)
    (case x_na_Memory_begins => k_is)
    (case x_g_KIND_BITS => k_is)
    (case x_g_MARK_BIT => k_is)
    (case x_g_WORDS_BIT => k_is)
    (case x_g_SIZE_FROM => k_is)
    (case x_g_NOTHING => k_is)
    (case x_gk_NOTHING => k_is)
    (case x_g_SORTS => k_is)
    (case x_gk_SORTS => k_is)
    (case x_g_SERIAL_AT => k_is)
    (case x_g_WORDS_AT => k_is)
    (case x_h_PlainThing_sort_of => k_is)
    (case x_h_PlainThing_fields => k_is)
    (case x_h_PairThing_sort_of => k_is)
    (case x_h_PairThing_fields => k_is)
    (case x_h_PairThing_words => k_is)
    (case x_cf1_Thing_init => k_is)
    (case x_cf2_Thing_init => k_is)
    (case x_cf3_Thing_init => k_is)
    (case x_tyg => k_is)
    (case x_tyt => k_is)
    (case x_tya_Thing => k_is)
    (case x_tym_Thing => k_is)
    (case x_tya_PlainThing => k_is)
    (case x_tym_PlainThing => k_is)
    (case x_tya_PairThing => k_is)
    (case x_tym_PairThing => k_is)
    (case x_ki_Thing_Thing => kit_is)
    (case x_ki_PlainThing_Thing => kit_is)
    (case x_ki_PairThing_Thing => kit_is)
    (case x_n_abs => k_is)
    (case x_n_bool => k_is)
    (case x_n_enumerate => k_is)
    (case x_n_int => k_is)
    (case x_n_isinstance => k_is)
    (case x_n_len => k_is)
    (case x_n_list => k_is)
    (case x_n_min => k_is)
    (case x_n_range => k_is)
    (case x_n_sorted => k_is)
theorem PySem.Challenge.cw_heapsafe_k34_whole_memory_through_deeds_holds : PySem.Challenge.rw_heapsafe_k34_whole_memory_through_deeds.Holds :=
  K34head
