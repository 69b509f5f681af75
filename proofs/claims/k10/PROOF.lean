import PyProof.Rows.All
import Wide.All
import OpenK.AllK
import Wide.FinOn
import Lean
import PyProof.EqAt
import PyProof.EqKinds
import PyProof.TupleCall
import PySem.Challenge.RW_heapsafe_k10_what_things_hold
set_option Elab.async false
set_option linter.all false
set_option maxRecDepth 100000
namespace L2
open PySem PySem.Spec PyProof.Rows
abbrev Key := Sum Int Str
def keyIs : Key → Value → Bool
  | .inl k, v => Value.isInt k v
  | .inr x, v => Value.isStrOf x v
def keyH (w : World) : Key → Int
  | .inl k => hashInt k
  | .inr x => hashStr w x
theorem keyIs_shape : ∀ {k : Key} {v : Value}, keyIs k v = true → (∃ i t, k = Sum.inl i ∧ v = Value.int i t) ∨ (∃ x t, k = Sum.inr x ∧ v = Value.str x t)
  | .inl i, v, h => by
    obtain ⟨t, e⟩ := Value.isInt_shape (k := i) (v := v) h
    exact .inl ⟨i, t, rfl, e⟩
  | .inr x, v, h => by
    obtain ⟨t, e⟩ := Value.isStrOf_shape (x := x) (v := v) h
    exact .inr ⟨x, t, rfl, e⟩
theorem key_ll (a b : Int) : decide ((Sum.inl a : Key) = Sum.inl b) = (a == b) := by
  by_cases e : a = b
  · subst e; simp
  · have h : ¬ (Sum.inl a : Key) = Sum.inl b := fun q => e (Sum.inl.inj q)
    rw [decide_eq_false h]
    exact (beq_eq_false_iff_ne.mpr e).symm
theorem key_rr (a b : Str) : decide ((Sum.inr a : Key) = Sum.inr b) = decide (a = b) := by
  by_cases e : a = b
  · subst e; simp
  · have h : ¬ (Sum.inr a : Key) = Sum.inr b := fun q => e (Sum.inr.inj q)
    rw [decide_eq_false h, decide_eq_false e]
theorem key_lr (a : Int) (b : Str) : decide ((Sum.inl a : Key) = Sum.inr b) = false := decide_eq_false (fun q => nomatch q)
theorem key_rl (a : Str) (b : Int) : decide ((Sum.inr a : Key) = Sum.inl b) = false := decide_eq_false (fun q => nomatch q)
def mixKind (prog : Program) (w : World) : PySem.KeyKind prog w Key where
  is := keyIs
  hash := keyH w
  inj := fun v a b ha hb => by
    rcases keyIs_shape ha with ⟨i, t, rfl, rfl⟩ | ⟨x, t, rfl, rfl⟩
    · rcases keyIs_shape hb with ⟨j, u, rfl, e⟩ | ⟨y, u, rfl, e⟩
      · injection e with e1 _; rw [e1]
      · exact nomatch e
    · rcases keyIs_shape hb with ⟨j, u, rfl, e⟩ | ⟨y, u, rfl, e⟩
      · exact nomatch e
      · injection e with e1 _; rw [e1]
  byValue := fun k v h => by
    rcases keyIs_shape h with ⟨i, t, rfl, rfl⟩ | ⟨x, t, rfl, rfl⟩ <;> rfl
  pyHash := fun hv h => by
    rcases keyIs_shape hv with ⟨i, t, rfl, rfl⟩ | ⟨x, t, rfl, rfl⟩
    · exact wpAny_pyHash_int h
    · exact wpAny_pyHash_str h
  eqBool := fun hu hv h => by
    rcases keyIs_shape hu with ⟨i, t, rfl, rfl⟩ | ⟨x, t, rfl, rfl⟩
    · rcases keyIs_shape hv with ⟨j, u, rfl, rfl⟩ | ⟨y, u, rfl, rfl⟩
      · rw [key_ll] at h; exact wpAny_eqBool_int h
      · rw [key_lr] at h; exact SeqAt.EqAt.int_str i t y u _ _ _ _ h
    · rcases keyIs_shape hv with ⟨j, u, rfl, rfl⟩ | ⟨y, u, rfl, rfl⟩
      · rw [key_rl] at h; exact SeqAt.EqAt.str_int x t j u _ _ _ _ h
      · rw [key_rr] at h; exact wpAny_eqBool_str h
  «strs» := fun k x t v h => by
    rcases keyIs_shape h with ⟨i, u, rfl, e⟩ | ⟨y, u, rfl, e⟩
    · exact nomatch e
    · injection e with e1 _
      subst e1
      cases v <;> rfl
end L2
namespace L2
open PySem PySem.Spec PyProof.Rows
inductive V where
  | non | bl (b : Bool) | int (i : Int) | str (x : Str) | byt (b : Array UInt8) | flt (b : UInt64) | ref (a : Addr) | ty (n : String)
  deriving DecidableEq
def RelV : V → Value → Prop
  | .non, u => u = Value.none
  | .bl b, u => u = Value.bool b
  | .int i, u => ∃ t, u = Value.int i t
  | .str x, u => ∃ t, u = Value.str x t
  | .byt b, u => ∃ t, u = Value.bytes b t
  | .flt b, u => ∃ t, u = Value.float b t
  | .ref a, u => u = Value.ref a
  | .ty n, u => u = Value.type n
abbrev Vals : List V → List Value → Prop := Paired RelV
theorem Vals.length {xs : List V} {us : List Value} (r : Vals xs us) : xs.length = us.length := Paired.length r
theorem Vals.get : ∀ {xs : List V} {us : List Value} {i : Nat} {x : V}, Vals xs us → xs[i]? = some x → ∃ u, us[i]? = some u ∧ RelV x u
  | _, _, _, _, .nil, e => by simp at e
  | _, _, 0, _, .cons r _, e => by simp at e; subst e; exact ⟨_, rfl, r⟩
  | _, _, i + 1, x, .cons _ t, e => by
    obtain ⟨u, h1, h2⟩ := Vals.get (i := i) (x := x) t (by simpa using e)
    exact ⟨u, by simpa using h1, h2⟩
theorem Vals.set {x : V} {u : Value} (r : RelV x u) : ∀ {xs : List V} {us : List Value} (i : Nat), Vals xs us → Vals (xs.set i x) (us.set i u)
  | _, _, _, .nil => .nil
  | _, _, 0, .cons _ t => .cons r t
  | _, _, i + 1, .cons q t => .cons q (Vals.set r i t)
theorem Vals.append : ∀ {xs ys : List V} {us ws : List Value}, Vals xs us → Vals ys ws → Vals (xs ++ ys) (us ++ ws)
  | _, _, _, _, .nil, s => s
  | _, _, _, _, .cons r t, s => .cons r (Vals.append t s)
theorem Vals.take : ∀ {xs : List V} {us : List Value} (n : Nat), Vals xs us → Vals (xs.take n) (us.take n)
  | _, _, 0, _ => .nil
  | _, _, _ + 1, .nil => .nil
  | _, _, n + 1, .cons r t => .cons r (Vals.take n t)
theorem Vals.drop : ∀ {xs : List V} {us : List Value} (n : Nat), Vals xs us → Vals (xs.drop n) (us.drop n)
  | _, _, 0, r => r
  | _, _, _ + 1, .nil => .nil
  | _, _, n + 1, .cons _ t => Vals.drop n t
theorem Vals.none_of : ∀ {xs : List V} {us : List Value} {i : Nat}, Vals xs us → xs[i]? = none → us[i]? = none := fun {xs us i} r e => by
  have h1 := r.length
  have h2 : xs.length ≤ i := List.getElem?_eq_none_iff.mp e
  exact List.getElem?_eq_none_iff.mpr (by omega)
def RelO : Option V → Option Value → Prop
  | some v, some u => RelV v u
  | none, none => True
  | _, _ => False
def KV {κ : Type} : List (κ × V) → List (κ × Value) → Prop := Paired fun (p : κ × V) (q : κ × Value) => p.1 = q.1 ∧ RelV p.2 q.2
def kV : Key → V
  | .inl i => .int i
  | .inr x => .str x
inductive HO where
  
  | lst (xs : List V)
  
  | tup (xs : List V)
  
  | dK (kvs : List (Key × V)) | dT (kvs : List (List Key × V))
  
  | set (S : Int → Bool) (n : Nat)
  
  | ins (C dx : Addr) (fs : List (Str × V))
  
  | own (x : Addr)
  
  | xd (fs : List (Str × V))
  
  | met (f x : Addr)
  
  | rng (lo hi : Int)
  
  | frz (o : Obj) (u : HO)
  
  | tbl (ps : Array Value)
  
  | ext (φ : Heap → Prop)
abbrev Hp := Addr → Option HO
def upd (H : Hp) (a : Addr) (o : HO) : Hp := fun b => if b = a then some o else H b
theorem upd_same {H : Hp} {a : Addr} {o : HO} : upd H a o a = some o := by unfold upd; rw [if_pos rfl]
theorem upd_ne {H : Hp} {a b : Addr} {o : HO} (h : b ≠ a) : upd H a o b = H b := by unfold upd; rw [if_neg h]
theorem upd_upd {H : Hp} {a : Addr} {o u : HO} : upd (upd H a o) a u = upd H a u := by
  funext b; unfold upd; split <;> rfl
theorem ne_of {H : Hp} {a b : Addr} {o u : HO} (h : H a = some o) (h' : H b = some u) (d : o ≠ u) : a ≠ b := by
  intro e; subst e; rw [h] at h'; exact d (Option.some.inj h')
theorem ne_of_none {H : Hp} {a b : Addr} {o : HO} (h : H a = some o) (h' : H b = none) : a ≠ b := by
  intro e; subst e; rw [h] at h'; cases h'
section
variable (P : Program) (w : World)
def ObjOk (H : Hp) (h : Heap) (a : Addr) : HO → Prop
  | .lst xs => xs.length ≤ sizeLine ∧ ∃ (its : List Value) (n : Nat), Vals xs its ∧ h.get? a = some { cls := .type "list", data := .seq its.toArray n }
  | .tup xs => xs.length ≤ sizeLine ∧ ∃ its : List Value, Vals xs its ∧ IsTup h a its.toArray
  | .dK kvs => kvs.length ≤ sizeLine ∧ (a == sysModules) = false ∧ ∃ vs, KV kvs vs ∧ h.DictOf (mixKind P w) a vs
  | .dT kvs => kvs.length ≤ sizeLine ∧ (a == sysModules) = false ∧ ∃ xs : List (List Key × Addr × Value),
      Paired (fun (p : List Key × V) (q : List Key × Addr × Value) => p.1 = q.1 ∧ H q.2.1 = some (.tup (p.1.map kV)) ∧ RelV p.2 q.2.2) kvs xs ∧
      ∃ o es ep, h.get? a = some o ∧ o.ExactDict ∧ o.data = .dict es ep ∧ es.toList = xs.map (entryOfKey (tupleKind (mixKind P w))) ∧ (xs.map (·.1)).Nodup
  | .set S n => h.SetOf (intKind P w) a S n
  | .ins C dx fs => H dx = some (.own a) ∧ fs.length ≤ 1000 ∧ dx ≠ a ∧ h.get? a = some (PySem.W.instObj C dx) ∧
      ∃ mA, h.Ns1 dx mA ∧ (∀ f, RelO (fs.lookup f) (mA f)) ∧ PySem.Within mA (fs.map (·.1))
  | .own _ => ∃ o, h.get? a = some o
  | .xd fs => ∃ mA, h.Ns1 a mA ∧ ∀ f, RelO (fs.lookup f) (mA f)
  | .rng lo hi => ∃ t u v, h.get? a = some { cls := .type "range", data := .fields #[.int lo t, .int hi u, .int 1 v] }
  | .frz o u => h.get? a = some o ∧ ObjOk H h a u
  | .tbl ps => h.get? a = some { cls := .none, data := .fields ps }
  | .met f x => h.get? a = some (PySem.W.methodObj (.ref f) (.ref x))
  | .ext φ => φ h ∧ (∃ o, h.get? a = some o) ∧ ∀ h1 h2 : Heap, φ h1 → (∀ o, h1.get? a = some o → h2.get? a = some o) → φ h2
def HOk (H : Hp) (h : Heap) : Prop := ∀ a o, H a = some o → ObjOk P w H h a o
end
section
variable {P : Program} {w : World} {H H' : Hp} {h h' : Heap} {a : Addr} {o : HO}
theorem ObjOk.lt (x : ObjOk P w H h a o) : a < h.objs.size := by
  cases o with
  | lst xs => obtain ⟨_, _, _, _, e⟩ := x; exact Heap.lt_size e
  | tup xs => obtain ⟨_, _, _, p⟩ := x; exact p.lt
  | dK kvs => obtain ⟨_, _, _, _, o, _, _, e, _⟩ := x; exact Heap.lt_size e
  | dT kvs => obtain ⟨_, _, _, _, o, _, _, e, _⟩ := x; exact Heap.lt_size e
  | set S n => obtain ⟨o, _, _, _, e, _⟩ := x; exact Heap.lt_size e
  | ins C dx fs => obtain ⟨_, _, _, e, _⟩ := x; exact Heap.lt_size e
  | own y => obtain ⟨_, e⟩ := x; exact Heap.lt_size e
  | xd fs => obtain ⟨_, ⟨_, _, _, e, _⟩, _⟩ := x; exact Heap.lt_size e
  | rng lo hi => obtain ⟨_, _, _, e⟩ := x; exact Heap.lt_size e
  | frz ob u => obtain ⟨e, _⟩ := x; exact Heap.lt_size e
  | tbl ps => exact Heap.lt_size (show h.get? a = some _ from x)
  | met f y => exact Heap.lt_size (show h.get? a = some _ from x)
  | ext φ => obtain ⟨_, ⟨_, e⟩, _⟩ := x; exact Heap.lt_size e
theorem Paired.mapP {α β : Type} {F G : α → β → Prop} : ∀ {l₁ : List α} {l₂ : List β}, Paired F l₁ l₂ → (∀ a b, F a b → G a b) → Paired G l₁ l₂
  | _, _, .nil, _ => .nil
  | _, _, .cons r t, f => .cons (f _ _ r) (Paired.mapP t f)
theorem ObjOk.stay (x : ObjOk P w H h a o) (k : ∀ b u, (b = a ∨ H b = some (.own a)) → h.get? b = some u → h'.get? b = some u)
    (ho : ∀ b, H b = some (.own a) → H' b = some (.own a)) (ht : ∀ b xs, H b = some (.tup xs) → H' b = some (.tup xs)) : ObjOk P w H' h' a o := by
  induction o with
  | lst xs => obtain ⟨z, its, n, r, e⟩ := x; exact ⟨z, its, n, r, k _ _ (.inl rfl) e⟩
  | tup xs => obtain ⟨z, its, r, ob, e, c⟩ := x; exact ⟨z, its, r, ob, k _ _ (.inl rfl) e, c⟩
  | dK kvs => obtain ⟨z, y, vs, r, ob, es, ep, e, c⟩ := x; exact ⟨z, y, vs, r, ob, es, ep, k _ _ (.inl rfl) e, c⟩
  | dT kvs =>
    obtain ⟨z, y, xs, r, ob, es, ep, e, c⟩ := x
    exact ⟨z, y, xs, Paired.mapP r fun p q z => ⟨z.1, ht _ _ z.2.1, z.2.2⟩, ob, es, ep, k _ _ (.inl rfl) e, c⟩
  | set S n => obtain ⟨ob, es, ep, t, e, c⟩ := x; exact ⟨ob, es, ep, t, k _ _ (.inl rfl) e, c⟩
  | ins C dx fs =>
    obtain ⟨d, z, ne, e, mA, ⟨od, es, ep, e2, c⟩, r⟩ := x
    exact ⟨ho _ d, z, ne, k _ _ (.inl rfl) e, mA, ⟨od, es, ep, k _ _ (.inr d) e2, c⟩, r⟩
  | own y => obtain ⟨ob, e⟩ := x; exact ⟨ob, k _ _ (.inl rfl) e⟩
  | xd fs => obtain ⟨mA, ⟨od, es, ep, e, c⟩, r⟩ := x; exact ⟨mA, ⟨od, es, ep, k _ _ (.inl rfl) e, c⟩, r⟩
  | rng lo hi => obtain ⟨t, u, v, e⟩ := x; exact ⟨t, u, v, k _ _ (.inl rfl) e⟩
  | frz ob u ih => obtain ⟨e, q⟩ := x; exact ⟨k _ _ (.inl rfl) e, ih q⟩
  | tbl ps =>
    have e : h.get? a = some { cls := .none, data := .fields ps } := x
    show h'.get? a = some { cls := .none, data := .fields ps }
    exact k a _ (.inl rfl) e
  | met f y =>
    have e : h.get? a = some (PySem.W.methodObj (.ref f) (.ref y)) := x
    show h'.get? a = some (PySem.W.methodObj (.ref f) (.ref y))
    exact k a _ (.inl rfl) e
  | ext φ => obtain ⟨p, ⟨o, e⟩, st⟩ := x; exact ⟨st _ _ p fun o q => k _ _ (.inl rfl) q, ⟨o, k _ _ (.inl rfl) e⟩, st⟩
theorem HOk.lt (x : HOk P w H h) (e : H a = some o) : a < h.objs.size := (x a o e).lt
theorem HOk.fresh (x : HOk P w H h) (e : h.objs.size ≤ a) : H a = none := by
  cases q : H a with
  | none => rfl
  | some u => exact absurd (Nat.lt_of_lt_of_le (x.lt q) e) (Nat.lt_irrefl _)
theorem HOk.kept (x : HOk P w H h) (k : ∀ b u, h.get? b = some u → h'.get? b = some u) : HOk P w H h' := fun a o e =>
  (x a o e).stay (fun b u _ q => k b u q) (fun _ q => q) fun _ _ q => q
theorem HOk.laid (x : HOk P w H h) (k : ∀ b u, h.get? b = some u → h'.get? b = some u) (hp : h.objs.size ≤ a) (new : ObjOk P w (upd H a o) h' a o) : HOk P w (upd H a o) h' := fun b u e => by
  have hn := x.fresh hp
  by_cases hb : b = a
  · subst hb; rw [upd_same] at e; cases e; exact new
  · rw [upd_ne hb] at e
    exact (x b u e).stay (fun c v _ q => k c v q) (fun c q => by rw [upd_ne (ne_of_none q hn)]; exact q) fun c xs q => by rw [upd_ne (ne_of_none q hn)]; exact q
end
def Rd (H : Hp) (a : Addr) (u : HO) : Prop := H a = some u ∨ ∃ o, H a = some (.frz o u)
theorem Rd.of {H : Hp} {a : Addr} {u : HO} (h : H a = some u) : Rd H a u := .inl h
theorem Rd.ok {P : Program} {w : World} {H : Hp} {h : Heap} {a : Addr} {u : HO} (r : Rd H a u) (x : HOk P w H h) : ObjOk P w H h a u := by
  rcases r with r | ⟨o, r⟩
  · exact x a u r
  · obtain ⟨_, q⟩ := x a _ r
    exact q
def Mut : Option HO → Prop
  | some (.lst _) => True
  | some (.dK _) => True
  | some (.dT _) => True
  | some (.set _ _) => True
  | some (.ins _ _ _) => True
  | some (.ext _) => True
  | _ => False
section
variable {P : Program} {w : World} {H : Hp} {h h' : Heap} {x e : Addr} {o' : HO}
theorem HOk.write (ok : HOk P w H h) (mu : Mut (H x)) (he : e = x ∨ H e = some (.own x)) (k : ∀ b u, b ≠ e → h.get? b = some u → h'.get? b = some u) (heo : ∃ u, h'.get? e = some u)
    (new : ObjOk P w (upd H x o') h' x o') : HOk P w (upd H x o') h' := fun b u q => by
  have nown : ∀ c y, H c = some (.own y) → c ≠ x := fun c y r z => by subst z; rw [r] at mu; exact mu
  have ntup : ∀ c xs, H c = some (.tup xs) → c ≠ x := fun c xs r z => by subst z; rw [r] at mu; exact mu
  by_cases hb : b = x
  · subst hb; rw [upd_same] at q; cases q; exact new
  · rw [upd_ne hb] at q
    by_cases hbe : b = e
    · have q' : H b = some (.own x) := by
        rcases he with z | z
        · exact absurd (hbe.trans z) hb
        · rw [hbe]; exact z
      rw [q] at q'; cases q'
      obtain ⟨v, hv⟩ := heo
      exact ⟨v, by rw [hbe]; exact hv⟩
    · refine (ok b u q).stay (fun c v hc r => k c v ?_ r) (fun c r => by rw [upd_ne (nown c b r)]; exact r) fun c xs r => by rw [upd_ne (ntup c xs r)]; exact r
      rcases hc with rfl | hc
      · exact hbe
      · rintro rfl
        rcases he with z | z
        · exact nown c b hc z
        · rw [hc] at z; cases z; exact hb rfl
end
structure Un (fs ex : List Addr) (H H' : Hp) (h h' : Heap) : Prop where
  keep : ∀ b o, h.get? b = some o → H b = none → b ∉ fs → b ∉ ex → h'.get? b = some o
  slot : ∀ b o, h.get? b = some o → H b = none → b ∈ fs → b ∉ ex → ∃ sl, h'.get? b = some { o with slots := sl }
  free : ∀ b o, h.get? b = some o → H b = none → b ∉ ex → H' b = none
  there : ∀ b o, h.get? b = some o → b ∉ ex → ∃ o', h'.get? b = some o'
  tups : ∀ b xs, H b = some (.tup xs) → H' b = some (.tup xs)
  frzs : ∀ b o u, H b = some (.frz o u) → H' b = some (.frz o u)
  tbls : ∀ b ps, H b = some (.tbl ps) → ∃ more, H' b = some (.tbl (ps ++ more))
section
variable {fs fs' ex ex' : List Addr} {H H1 H2 : Hp} {h h1 h2 h' : Heap} {a x e : Addr} {o : HO}
theorem Un.any (u : Un fs ex H H1 h h1) {b : Addr} {ob : Obj} (q : h.get? b = some ob) (n : H b = none) (hx : b ∉ ex) : ∃ sl, h1.get? b = some { ob with slots := sl } := by
  by_cases hb : b ∈ fs
  · exact u.slot b ob q n hb hx
  · exact ⟨ob.slots, u.keep b ob q n hb hx⟩
theorem Un.trans (a : Un fs ex H H1 h h1) (b : Un fs ex H1 H2 h1 h2) : Un fs ex H H2 h h2 where
  keep := fun c ob q n hc hx => b.keep c ob (a.keep c ob q n hc hx) (a.free c ob q n hx) hc hx
  slot := fun c ob q n hc hx => by
    obtain ⟨sl, e1⟩ := a.slot c ob q n hc hx
    obtain ⟨sl', e2⟩ := b.slot c _ e1 (a.free c ob q n hx) hc hx
    exact ⟨sl', e2⟩
  free := fun c ob q n hx => by
    obtain ⟨o', e1⟩ := a.there c ob q hx
    exact b.free c o' e1 (a.free c ob q n hx) hx
  there := fun c ob q hx => by
    obtain ⟨o', e1⟩ := a.there c ob q hx
    exact b.there c o' e1 hx
  tups := fun c xs q => b.tups c xs (a.tups c xs q)
  frzs := fun c ob xs q => b.frzs c ob xs (a.frzs c ob xs q)
  tbls := fun c ps q => by
    obtain ⟨m1, e1⟩ := a.tbls c ps q
    obtain ⟨m2, e2⟩ := b.tbls c _ e1
    exact ⟨m1 ++ m2, by rw [e2, Array.append_assoc]⟩
theorem Un.kept (k : ∀ b u, h.get? b = some u → h'.get? b = some u) : Un fs ex H H h h' :=
  ⟨fun b ob q _ _ _ => k b ob q, fun b ob q _ _ _ => ⟨ob.slots, k b ob q⟩, fun _ _ _ n _ => n, fun b ob q _ => ⟨ob, k b ob q⟩, fun _ _ q => q, fun _ _ _ q => q, fun _ ps q => ⟨#[], by rw [q]; simp⟩⟩
theorem Un.refl : Un fs ex H H h h := Un.kept fun _ _ q => q
theorem Un.laid (k : ∀ b u, h.get? b = some u → h'.get? b = some u) (hp : h.objs.size ≤ a) (hn : H a = none) : Un fs ex H (upd H a o) h h' where
  keep := fun b u q _ _ _ => k b u q
  slot := fun b u q _ _ _ => ⟨u.slots, k b u q⟩
  free := fun b u q n _ => by rw [upd_ne (Nat.ne_of_lt (Nat.lt_of_lt_of_le (Heap.lt_size q) hp))]; exact n
  there := fun b u q _ => ⟨u, k b u q⟩
  tups := fun b xs q => by rw [upd_ne (ne_of_none q hn)]; exact q
  frzs := fun b u xs q => by rw [upd_ne (ne_of_none q hn)]; exact q
  tbls := fun b ps q => ⟨#[], by rw [upd_ne (ne_of_none q hn), q]; simp⟩
theorem Un.write (mu : Mut (H x)) (he : e = x ∨ H e = some (.own x)) (k : ∀ b u, b ≠ e → h.get? b = some u → h'.get? b = some u) (heo : ∃ u, h'.get? e = some u) : Un fs ex H (upd H x o) h h' := by
  have hx : ∀ b, H b = none → b ≠ x := fun b n z => by subst z; rw [n] at mu; exact mu
  have hb : ∀ b, H b = none → b ≠ e := fun b n z => by
    subst z
    rcases he with r | r
    · exact hx b n r
    · rw [n] at r; cases r
  have hm : ∀ b u, H b = some u → ¬ Mut (some u) → b ≠ x := fun b u q nm z => by subst z; rw [q] at mu; exact nm mu
  refine ⟨fun b u q n _ _ => k b u (hb b n) q, fun b u q n _ _ => ⟨u.slots, k b u (hb b n) q⟩, fun b u q n _ => by rw [upd_ne (hx b n)]; exact n, fun b u q _ => ?_,
    fun b xs q => by rw [upd_ne (hm b _ q fun z => z)]; exact q, fun b u xs q => by rw [upd_ne (hm b _ q fun z => z)]; exact q, fun b ps q => ⟨#[], by rw [upd_ne (hm b _ q fun z => z), q]; simp⟩⟩
  by_cases hbe : b = e
  · subst hbe; exact heo
  · exact ⟨u, k b u hbe q⟩
theorem Un.mono (u : Un fs ex H H1 h h1) (hs : ∀ b ∈ fs, b ∈ fs') (hx : ∀ b ∈ ex, b ∈ ex') : Un fs' ex' H H1 h h1 :=
  ⟨fun b ob q n hb he => u.keep b ob q n (fun z => hb (hs b z)) fun z => he (hx b z), fun _ _ q n _ he => u.any q n fun z => he (hx _ z), fun b ob q n he => u.free b ob q n fun z => he (hx b z), fun b ob q he => u.there b ob q fun z => he (hx b z), u.tups, u.frzs, u.tbls⟩
end
def trk (h : Heap) (H : Hp) : List Addr := (List.range h.objs.size).filter fun a => (H a).isSome
def hidT (h : Heap) (H : Hp) : Heap := PySem.W.hideAll h (trk h H)
theorem hidT_size (h : Heap) (H : Hp) : (hidT h H).objs.size = h.objs.size := PySem.W.hideAll_size _ _
theorem hidT_get {h : Heap} {H : Hp} {b : Addr} {o : Obj} (e : h.get? b = some o) (n : H b = none) : (hidT h H).get? b = some o :=
  PySem.W.hideAll_get _ e fun hm => by
    have q : (H b).isSome = true := (List.mem_filter.mp hm).2
    rw [n] at q; simp at q
theorem of_hidT {h : Heap} {H : Hp} {b : Addr} {o : Obj} (e : (hidT h H).get? b = some o) : h.get? b = some o ∧ H b = none := by
  have e' : h.get? b = some o := PySem.W.of_hideAll (trk h H) e
  refine ⟨e', ?_⟩
  cases q : H b with
  | none => rfl
  | some x =>
    have hm : b ∈ trk h H := List.mem_filter.mpr ⟨List.mem_range.mpr (Heap.lt_size e'), by simp [q]⟩
    have z : (hidT h H).get? b = none := PySem.W.hideAll_none (trk h H) hm
    rw [z] at e; cases e
def allNews (g h : Heap) (L : Addr) : List (Addr × Obj) := (List.range h.objs.size).filterMap fun a => if a = L ∨ (g.get? a).isSome = true then none else (h.get? a).map fun o => (a, o)
def rest (g h : Heap) (L d : Addr) : List (Addr × Obj) := (allNews g h L).filter fun p => decide (p.1 ≠ d)
end L2
namespace L2
open PySem PySem.Spec PyProof.Rows
structure Mod (K : PySem.W.Frag) (mg : Str → Option Value) (base : Heap) : Prop where
  kin : K.In base
  glob : base.Ns mainGlobals mg
  blt : ∃ mb, base.Ns builtinsNs mb ∧ ∀ x : Str, x ≠ "__name__" → mb x = bootBuiltins x
  nolimit : base.NoLimit
structure Cx where
  prog : Program
  w : World
  K : PySem.W.Frag
  mg : Str → Option Value
  base : Heap
  A : Around
  N : List Str
  s₀ : Shared
  H₀ : Hp
  env : Env
  outer : List Env
  stack : List Env
  ex : List Addr
  fn : Str → Bool
  calm : Bool
  pn : List (Addr × Obj)
  xe : Value → Shared → Prop
def frs (l : List Env) : List Addr := l.filterMap (·.frame)
abbrev Cx.fs (X : Cx) : List Addr := frs X.outer
def Vis (sc : Scope) (x : Str) : Prop := sc.names.lookup x = some .local ∨ sc.names.lookup x = some .cell ∨ sc.names.lookup x = some .free
def Loc (sc : Scope) (x : Str) : Prop := sc.names.lookup x = some .local ∨ sc.names.lookup x = some .cell
def Look (env : Env) (h : Heap) (m : Str → Option Value) (x : Str) (u : Value) : Prop :=
  (env.kindOf x = some .local ∧ m x = some u) ∨ ((env.kindOf x = some .cell ∨ env.kindOf x = some .free) ∧ ∃ c, env.cells.lookup x = some c ∧ h.IsCell c (some u))
structure Cx.Ok (X : Cx) : Prop where
  mod : Mod X.K X.mg X.base
  kind : X.env.scope.kind = .function
  glob : X.env.globals = mainGlobals
  blt : X.env.builtins = builtinsNs
  above : X.s₀.heap.objs.size ≤ X.env.locals
  inj : ∀ x y c, X.env.cells.lookup x = some c → X.env.cells.lookup y = some c → x = y
  has : ∀ x, (X.env.kindOf x = some .cell ∨ X.env.kindOf x = some .free) → ∃ c, X.env.cells.lookup x = some c
  cab : ∀ x c, X.fn x = true → X.env.cells.lookup x = some c → X.s₀.heap.objs.size ≤ c
  hd : X.calm = true → X.A.handled = none
  frames : X.A.frames = some X.stack
  stk : X.stack = X.outer ∨ (X.stack = X.env :: X.outer ∧ X.env.frame = some X.env.locals)
  exf : ∀ b ∈ X.ex, b ≠ X.env.locals ∧ ∀ x c, X.env.cells.lookup x = some c → c ≠ b
  bs : ∀ b o, X.base.get? b = some o → X.s₀.heap.get? b = some o ∧ X.H₀ b = none
  bsz : X.base.objs.size ≤ X.s₀.heap.objs.size
  noex : ∀ b o, X.base.get? b = some o → b ∉ X.ex
  exfs : ∀ b ∈ X.ex, b ∉ X.fs
  funs : X.s₀.heap.FunFrames X.base X.outer
  frf : ∀ b ∈ X.fs, X.H₀ b = none
structure Inv (X : Cx) (pins : List (Addr × Obj)) (σ : List (Option V)) (H : Hp) (s : Shared) : Prop where
  ok : X.Ok
  os : s.os = X.s₀.os
  bare : AllBare s.gens
  base : Un X.fs X.ex X.H₀ H X.s₀.heap s.heap
  loc : ∃ m, s.heap.Ns X.env.locals m ∧ ∀ (i : Nat) (x : Str) (v : V), X.N[i]? = some x → σ[i]? = some (some v) → Vis X.env.scope x → ∃ u, RelV v u ∧ Look X.env s.heap m x u
  cell : ∀ x c, X.env.cells.lookup x = some c → ∃ v, s.heap.IsCell c v
  free : H X.env.locals = none
  freeC : ∀ x c, X.env.cells.lookup x = some c → H c = none
  pin : ∀ p ∈ X.pn ++ pins, s.heap.get? p.1 = some p.2 ∧ H p.1 = none ∧ p.1 ≠ X.env.locals ∧ p.1 ∉ X.fs ∧ ∀ v, p.2.data ≠ .cell v
  hok : HOk X.prog X.w H s.heap
  len : σ.length = X.N.length
section
variable {X : Cx} {pins : List (Addr × Obj)} {σ : List (Option V)} {H H' : Hp} {s : Shared} {h' : Heap}
theorem Cx.Ok.nofr (ok : X.Ok) {b : Addr} {o : Obj} (e : X.base.get? b = some o) : b ∉ X.fs := fun hb => by
  have := (ok.funs.mem hb).1
  rw [e] at this; cases this
theorem Inv.bs (I : Inv X pins σ H s) : ∀ b o, X.base.get? b = some o → s.heap.get? b = some o ∧ H b = none := fun b o e =>
  ⟨I.base.keep b o (I.ok.bs b o e).1 (I.ok.bs b o e).2 (I.ok.nofr e) (I.ok.noex b o e), I.base.free b o (I.ok.bs b o e).1 (I.ok.bs b o e).2 (I.ok.noex b o e)⟩
theorem Inv.bk (I : Inv X pins σ H s) : ∀ b o, X.base.get? b = some o → s.heap.get? b = some o := fun b o e => (I.bs b o e).1
theorem Inv.mod (I : Inv X pins σ H s) : Mod X.K X.mg X.base := I.ok.mod
theorem Inv.kIn (I : Inv X pins σ H s) : X.K.In s.heap := I.ok.mod.kin.keeps I.bk
theorem Inv.nolimit (I : Inv X pins σ H s) : s.heap.NoLimit := I.ok.mod.nolimit.keeps I.bk
theorem Inv.fr (I : Inv X pins σ H s) : ∃ m, Fr X.base X.env.locals s.heap m :=
  let ⟨m, hn, _⟩ := I.loc
  ⟨m, hn, I.bk, Nat.le_trans I.ok.bsz I.ok.above⟩
theorem Inv.lt (I : Inv X pins σ H s) : X.env.locals < s.heap.objs.size := let ⟨_, hn, _⟩ := I.loc; hn.lt
theorem Inv.sz (I : Inv X pins σ H s) : X.s₀.heap.objs.size ≤ s.heap.objs.size := Nat.le_trans I.ok.above (Nat.le_of_lt I.lt)
theorem Inv.nofs (I : Inv X pins σ H s) {a : Addr} (h : s.heap.objs.size ≤ a) : a ∉ X.fs := fun hb => by
  obtain ⟨_, o, ho, _⟩ := I.ok.funs.mem hb
  exact absurd (Nat.lt_of_lt_of_le (Heap.lt_size ho) (Nat.le_trans I.sz h)) (Nat.lt_irrefl _)
theorem Inv.cne (I : Inv X pins σ H s) : ∀ x c, X.env.cells.lookup x = some c → c ≠ X.env.locals := fun x c e z => by
  obtain ⟨v, o, ho, hd⟩ := I.cell x c e
  obtain ⟨m, ⟨o', es, ep, ho', hd', _⟩, _⟩ := I.loc
  rw [z, ho'] at ho; cases ho; rw [hd'] at hd; cases hd
theorem Inv.funs (I : Inv X pins σ H s) : s.heap.FunFrames X.base X.outer := by
  have all : ∀ (l : List Env), (∀ b ∈ frs l, b ∈ X.fs) → X.s₀.heap.FunFrames X.base l → s.heap.FunFrames X.base l := by
    intro l
    induction l with
    | nil => intro _ _; trivial
    | cons env r ih =>
      intro hs hl
      obtain ⟨hk, ⟨L, o, hf, hn, ho, hd⟩, hr⟩ := hl
      have hL : L ∈ X.fs := hs L (by unfold frs; rw [List.filterMap_cons, hf]; exact List.mem_cons_self)
      obtain ⟨sl, e⟩ := I.base.slot L o ho (I.ok.frf L hL) hL fun z => I.ok.exfs L z hL
      exact ⟨hk, ⟨L, _, hf, hn, e, hd⟩, ih (fun b hb => hs b (by unfold frs; rw [List.filterMap_cons, hf]; exact List.mem_cons_of_mem _ hb)) hr⟩
  exact all X.outer (fun _ hb => hb) I.ok.funs
theorem Inv.stack (I : Inv X pins σ H s) : s.heap.FunFrames X.base X.stack := by
  rcases I.ok.stk with e | ⟨e, hf⟩
  · rw [e]; exact I.funs
  · rw [e]
    obtain ⟨m, hn, _⟩ := I.loc
    refine .cons (by rw [I.ok.kind]; decide) hf hn ?_ I.funs
    exact Heap.get?_none_of_le (Nat.le_trans I.ok.bsz I.ok.above)
theorem Inv.stkSub (I : Inv X pins σ H s) : ∀ b ∈ frs X.stack, b ∈ X.env.locals :: X.fs := fun b hb => by
  rcases I.ok.stk with e | ⟨e, hf⟩
  · rw [e] at hb; exact List.mem_cons_of_mem _ hb
  · rw [e] at hb
    unfold frs at hb
    rw [List.filterMap_cons, hf] at hb
    exact hb
theorem Inv.stkFree (I : Inv X pins σ H s) : ∀ b ∈ frs X.stack, H b = none := fun b hb => by
  rcases List.mem_cons.mp (I.stkSub b hb) with e | hb
  · rw [e]; exact I.free
  · obtain ⟨_, o, ho, _⟩ := I.ok.funs.mem hb
    exact I.base.free b o ho (I.ok.frf b hb) fun z => I.ok.exfs b z hb
theorem Inv.step {g' : Array GenState} {t' : Nat} {d' : Drawn} {ch : List Addr} (I : Inv X pins σ H s)
    (hch : ∀ b ∈ ch, (b ∈ X.ex ∨ X.s₀.heap.objs.size ≤ b) ∧ b ≠ X.env.locals ∧ (∀ x c, X.env.cells.lookup x = some c → c ≠ b) ∧ ∀ p ∈ X.pn ++ pins, p.1 ≠ b)
    (keep : ∀ b o, b ≠ X.env.locals → b ∉ X.fs → b ∉ ch → s.heap.get? b = some o → H b = none → h'.get? b = some o)
    (slot : ∀ b o, b ≠ X.env.locals → b ∈ X.fs → b ∉ ch → s.heap.get? b = some o → H b = none → ∃ sl, h'.get? b = some { o with slots := sl }) (free : ∀ b o, b ∉ ch → s.heap.get? b = some o → H b = none → H' b = none)
    (there : ∀ b o, b ∉ ch → s.heap.get? b = some o → ∃ o', h'.get? b = some o')
    (tups : ∀ b xs, H b = some (.tup xs) → H' b = some (.tup xs)) (frzs : ∀ b o u, H b = some (.frz o u) → H' b = some (.frz o u)) (tbls : ∀ b ps, H b = some (.tbl ps) → ∃ more, H' b = some (.tbl (ps ++ more)))
    (ns : ∀ m, s.heap.Ns X.env.locals m → h'.Ns X.env.locals m) (hok : HOk X.prog X.w H' h') (hg : AllBare g') :
    Inv X pins σ H' { s with heap := h', gens := g', drawn := d', toks := t' } := by
  have neL : ∀ b o, X.s₀.heap.get? b = some o → b ≠ X.env.locals := fun b o e => Nat.ne_of_lt (Nat.lt_of_lt_of_le (Heap.lt_size e) I.ok.above)
  have neC : ∀ b o, X.s₀.heap.get? b = some o → b ∉ X.ex → b ∉ ch := fun b o e hx hb => by
    rcases (hch b hb).1 with z | z
    · exact hx z
    · exact absurd (Nat.lt_of_lt_of_le (Heap.lt_size e) z) (Nat.lt_irrefl _)
  have cellK : ∀ x c, X.env.cells.lookup x = some c → ∀ v, s.heap.IsCell c v → h'.IsCell c v := fun x c e v ⟨o, ho, hd⟩ => by
    have nch : c ∉ ch := fun z => (hch c z).2.2.1 x c e rfl
    by_cases hc : c ∈ X.fs
    · obtain ⟨sl, q⟩ := slot c o (I.cne x c e) hc nch ho (I.freeC x c e)
      exact ⟨_, q, hd⟩
    · exact ⟨o, keep c o (I.cne x c e) hc nch ho (I.freeC x c e), hd⟩
  refine ⟨I.ok, I.os, hg, ⟨fun b o e n hb hx => ?_, fun b o e n hb hx => ?_, fun b o e n hx => ?_, fun b o e hx => ?_, fun b xs e => tups b xs (I.base.tups b xs e), fun b o xs e => frzs b o xs (I.base.frzs b o xs e), fun b ps e => ?_⟩, ?_, fun x c e => ?_, ?_, fun x c e => ?_, fun p hp => ?_, hok, I.len⟩
  · exact keep b o (neL b o e) hb (neC b o e hx) (I.base.keep b o e n hb hx) (I.base.free b o e n hx)
  · obtain ⟨sl, e1⟩ := I.base.slot b o e n hb hx
    obtain ⟨sl', e2⟩ := slot b _ (neL b o e) hb (neC b o e hx) e1 (I.base.free b o e n hx)
    exact ⟨sl', e2⟩
  · obtain ⟨o', e1⟩ := I.base.there b o e hx
    exact free b o' (neC b o e hx) e1 (I.base.free b o e n hx)
  · obtain ⟨o', e1⟩ := I.base.there b o e hx
    exact there b o' (neC b o e hx) e1
  · obtain ⟨m1, e1⟩ := I.base.tbls b ps e
    obtain ⟨m2, e2⟩ := tbls b _ e1
    exact ⟨m1 ++ m2, by rw [e2, Array.append_assoc]⟩
  · obtain ⟨m, hn, hl⟩ := I.loc
    refine ⟨m, ns m hn, fun i x v e1 e2 e3 => ?_⟩
    obtain ⟨u, r, l⟩ := hl i x v e1 e2 e3
    refine ⟨u, r, ?_⟩
    rcases l with l | ⟨k, c, e, z⟩
    · exact .inl l
    · exact .inr ⟨k, c, e, cellK x c e _ z⟩
  · obtain ⟨v, z⟩ := I.cell x c e
    exact ⟨v, cellK x c e v z⟩
  · obtain ⟨m, ⟨o, _, _, ho, _⟩, _⟩ := I.loc
    exact free _ o (fun z => (hch _ z).2.1 rfl) ho I.free
  · obtain ⟨v, o, ho, hd⟩ := I.cell x c e
    exact free c o (fun z => (hch c z).2.2.1 x c e rfl) ho (I.freeC x c e)
  · obtain ⟨e, n, ne, nf, d⟩ := I.pin p hp
    have nch : p.1 ∉ ch := fun z => (hch p.1 z).2.2.2 p hp rfl
    exact ⟨keep p.1 p.2 ne nf nch e n, free p.1 p.2 nch e n, ne, nf, d⟩
theorem Inv.un {t' : Nat} (I : Inv X pins σ H s) (u : Un X.fs [] H H' s.heap h') (hok : HOk X.prog X.w H' h') : Inv X pins σ H' { s with heap := h', toks := t' } := by
  obtain ⟨m, ⟨o, es, ep, ho, r⟩, _⟩ := id I.loc
  obtain ⟨sl, hL⟩ := u.any ho I.free (by simp)
  exact I.step (g' := s.gens) (d' := s.drawn) (ch := []) (fun _ z => nomatch z) (fun b o _ hb _ e n => u.keep b o e n hb (by simp)) (fun b o _ hb _ e n => u.slot b o e n hb (by simp)) (fun b o _ e n => u.free b o e n (by simp)) (fun b o _ e => u.there b o e (by simp)) u.tups u.frzs u.tbls (fun m' hm => by
    obtain ⟨o', es', ep', ho', r'⟩ := hm
    rw [ho] at ho'; cases ho'
    exact ⟨_, es', ep', hL, r'⟩) hok I.bare
theorem Inv.call {g' : Array GenState} {t' : Nat} {d' : Drawn} {ch : List Addr} (I : Inv X pins σ H s) (u : Un (frs X.stack) ch H H' s.heap h') (hok : HOk X.prog X.w H' h') (hg : AllBare g')
    (hch : ∀ b ∈ ch, (b ∈ X.ex ∨ X.s₀.heap.objs.size ≤ b) ∧ b ≠ X.env.locals ∧ (∀ x c, X.env.cells.lookup x = some c → c ≠ b) ∧ ∀ p ∈ X.pn ++ pins, p.1 ≠ b) :
    Inv X pins σ H' { s with heap := h', gens := g', drawn := d', toks := t' } := by
  obtain ⟨m, ⟨o, es, ep, ho, r⟩, _⟩ := id I.loc
  obtain ⟨sl, hL⟩ := u.any ho I.free fun z => (hch _ z).2.1 rfl
  exact I.step (ch := ch) hch (fun b o hL hb hc e n => u.keep b o e n (fun z => (List.mem_cons.mp (I.stkSub b z)).elim hL hb) hc) (fun b o _ _ hc e n => u.any e n hc) (fun b o hc e n => u.free b o e n hc) (fun b o hc e => u.there b o e hc) u.tups u.frzs u.tbls (fun m' hm => by
    obtain ⟨o', es', ep', ho', r'⟩ := hm
    rw [ho] at ho'; cases ho'
    exact ⟨_, es', ep', hL, r'⟩) hok hg
theorem Inv.turned {t' : Nat} {it : Addr} (I : Inv X pins σ H s) (k : ∀ b o, b ≠ it → s.heap.get? b = some o → h'.get? b = some o) (hn : H it = none) (hL : it ≠ X.env.locals)
    (h1 : it ∈ X.ex ∨ X.s₀.heap.objs.size ≤ it) (h2 : ∀ x c, X.env.cells.lookup x = some c → c ≠ it) (h3 : ∀ p ∈ X.pn ++ pins, p.1 ≠ it) : Inv X pins σ H { s with heap := h', toks := t' } := by
  have nit : ∀ b u, H b = some u → b ≠ it := fun b u e z => by rw [z, hn] at e; cases e
  refine I.step (g' := s.gens) (d' := s.drawn) (ch := [it]) (fun b hb => ?_) (fun b o _ _ hc e _ => k b o (fun z => hc (by simp [z])) e) (fun b o _ _ hc e _ => ⟨o.slots, k b o (fun z => hc (by simp [z])) e⟩) (fun _ _ _ _ n => n)
    (fun b o hc e => ⟨o, k b o (fun z => hc (by simp [z])) e⟩) (fun _ _ e => e) (fun _ _ _ e => e) (fun b ps e => ⟨#[], by rw [e]; simp⟩) (fun m hm => ?_) (fun b u e => ?_) I.bare
  · have e : b = it := by simpa using hb
    subst e
    exact ⟨h1, hL, h2, h3⟩
  · obtain ⟨o, es, ep, ho, r⟩ := hm
    exact ⟨o, es, ep, k _ o (Ne.symm hL) ho, r⟩
  · refine (I.hok b u e).stay (fun c v hc q => k c v ?_ q) (fun _ q => q) fun _ _ q => q
    rcases hc with z | z
    · rw [z]; exact nit b u e
    · exact nit c _ z
theorem Inv.tok (I : Inv X pins σ H s) (t : Nat) : Inv X pins σ H { s with toks := t } := I.un (h' := s.heap) (t' := t) Un.refl I.hok
theorem Inv.kept {t' : Nat} (I : Inv X pins σ H s) (k : ∀ b u, s.heap.get? b = some u → h'.get? b = some u) : Inv X pins σ H { s with heap := h', toks := t' } := I.un (Un.kept k) (I.hok.kept k)
theorem Inv.laid {a : Addr} {o : HO} {t' : Nat} (I : Inv X pins σ H s) (k : ∀ b u, s.heap.get? b = some u → h'.get? b = some u) (hp : s.heap.objs.size ≤ a) (new : ObjOk X.prog X.w (upd H a o) h' a o) :
    Inv X pins σ (upd H a o) { s with heap := h', toks := t' } := I.un (Un.laid k hp (I.hok.fresh hp)) (I.hok.laid k hp new)
theorem Inv.write {x e : Addr} {o : HO} {t' : Nat} (I : Inv X pins σ H s) (mu : Mut (H x)) (he : e = x ∨ H e = some (.own x)) (k : ∀ b u, b ≠ e → s.heap.get? b = some u → h'.get? b = some u) (heo : ∃ u, h'.get? e = some u)
    (new : ObjOk X.prog X.w (upd H x o) h' x o) : Inv X pins σ (upd H x o) { s with heap := h', toks := t' } := I.un (Un.write mu he k heo) (I.hok.write mu he k heo new)
theorem Inv.weak {σ' : List (Option V)} (I : Inv X pins σ H s) (hl : σ'.length = σ.length) (w : ∀ (i : Nat) v, σ'[i]? = some (some v) → σ[i]? = some (some v)) : Inv X pins σ' H s :=
  ⟨I.ok, I.os, I.bare, I.base, let ⟨m, hn, hl'⟩ := I.loc; ⟨m, hn, fun i x v e1 e2 e3 => hl' i x v e1 (w i v e2) e3⟩, I.cell, I.free, I.freeC, I.pin, I.hok, hl.trans I.len⟩
theorem Inv.pins_of {pins' : List (Addr × Obj)} (I : Inv X pins σ H s) (h : ∀ p ∈ pins', s.heap.get? p.1 = some p.2 ∧ H p.1 = none ∧ p.1 ≠ X.env.locals ∧ p.1 ∉ X.fs ∧ ∀ v, p.2.data ≠ .cell v) : Inv X pins' σ H s :=
  ⟨I.ok, I.os, I.bare, I.base, I.loc, I.cell, I.free, I.freeC, fun p hp => (List.mem_append.mp hp).elim (fun z => I.pin p (List.mem_append_left _ z)) (h p), I.hok, I.len⟩
theorem nodup_ix {N : List Str} (hN : N.Nodup) {i j : Nat} {x : Str} (a : N[i]? = some x) (b : N[j]? = some x) : i = j := by
  obtain ⟨h1, e1⟩ := List.getElem?_eq_some_iff.mp a
  obtain ⟨h2, e2⟩ := List.getElem?_eq_some_iff.mp b
  exact (List.getElem_inj hN).mp (e1.trans e2.symm)
theorem store_ok2 {M : Model} {A : Around} {E : Value → Shared → Prop} {i : Nat} {x : Str} {v : V} {u : Value} {Q : Unit → Shared → Prop} (I : Inv X pins σ H s) (hN : X.N.Nodup) (hi : X.N[i]? = some x) (hx : Loc X.env.scope x) (r : RelV v u)
    (h : ∀ s', Inv X pins (σ.set i (some v)) H s' → (∃ a, Heap.SameBut a s.heap s'.heap ∧ (a = X.env.locals ∨ X.env.cells.lookup x = some a)) → Q () s') (hf : X.fn x = true ∨ X.env.scope.names.lookup x = some .local := by first | exact .inl rfl | exact .inr rfl | assumption) : wpAny M A (storeName X.env x u) Q E s := by
  obtain ⟨m, hn, hl⟩ := id I.loc
  have hcls : (X.env.scope.kind == .class || (X.env.scope.kind == .module && X.env.locals != X.env.globals)) = false := by rw [I.ok.kind]; rfl
  have hiσ : i < σ.length := by rw [I.len]; exact (List.getElem?_eq_some_iff.mp hi).1
  have cne := I.cne
  have tracked : ∀ {a : Addr} {h' : Heap}, (∃ o, s.heap.get? a = some o ∧ H a = none) → Heap.SameBut a s.heap h' → HOk X.prog X.w H h' := fun {a h'} ha hs b ob e => by
    obtain ⟨_, _, hfree⟩ := ha
    refine (I.hok b ob e).stay (fun c w' hc q => (hs.2 c ?_).trans q) (fun _ q => q) fun _ _ q => q
    rintro rfl
    rcases hc with rfl | hc
    · rw [hfree] at e; cases e
    · rw [hfree] at hc; cases hc
  rcases hx with hk | hk
  · refine wpAny_storeName_local hk hn (fun h' hn' hs => ?_) hcls
    obtain ⟨oL, _, _, hoL, _⟩ := id hn
    refine h _ ⟨I.ok, I.os, I.bare, ⟨fun b o e n hb hx => ?_, fun b o e n hb hx => ?_, I.base.free, fun b o e hx => ?_, I.base.tups, I.base.frzs, I.base.tbls⟩, ⟨_, hn', fun j y v' e1 e2 e3 => ?_⟩, fun y c e => ?_, I.free, I.freeC, fun p hp => ?_, tracked ⟨oL, hoL, I.free⟩ hs, by simpa using I.len⟩ ⟨_, hs, .inl rfl⟩
    · exact (hs.2 b (Nat.ne_of_lt (Nat.lt_of_lt_of_le (Heap.lt_size e) I.ok.above))).trans (I.base.keep b o e n hb hx)
    · obtain ⟨sl, e1⟩ := I.base.slot b o e n hb hx
      exact ⟨sl, (hs.2 b (Nat.ne_of_lt (Nat.lt_of_lt_of_le (Heap.lt_size e) I.ok.above))).trans e1⟩
    · obtain ⟨o', e1⟩ := I.base.there b o e hx
      exact ⟨o', (hs.2 b (Nat.ne_of_lt (Nat.lt_of_lt_of_le (Heap.lt_size e) I.ok.above))).trans e1⟩
    · by_cases hj : j = i
      · subst hj
        rw [hi] at e1; cases e1
        rw [List.getElem?_set_self hiσ] at e2
        cases e2
        exact ⟨u, r, .inl ⟨hk, by simp⟩⟩
      · rw [List.getElem?_set_ne (Ne.symm hj)] at e2
        obtain ⟨u', r', q⟩ := hl j y v' e1 e2 e3
        refine ⟨u', r', ?_⟩
        rcases q with ⟨k, e⟩ | ⟨k, c, e, z⟩
        · refine .inl ⟨k, ?_⟩
          have : y ≠ x := fun e => hj (nodup_ix hN e1 (e ▸ hi))
          simp [this, e]
        · exact .inr ⟨k, c, e, z.sameBut hs (cne y c e)⟩
    · obtain ⟨w', z⟩ := I.cell y c e
      exact ⟨w', z.sameBut hs (cne y c e)⟩
    · obtain ⟨e, n, ne, nf, d⟩ := I.pin p hp
      exact ⟨(hs.2 p.1 ne).trans e, n, ne, nf, d⟩
  · have hfn : X.fn x = true := by
      rcases hf with z | z
      · exact z
      · rw [z] at hk; cases hk
    obtain ⟨c, hc⟩ := I.ok.has x (.inl hk)
    obtain ⟨w', z⟩ := I.cell x c hc
    refine wpAny_storeName_cell I.ok.kind hk hc z (fun h' hc' hs => ?_)
    obtain ⟨oc, hoc, hocd⟩ := id z
    refine h { s with heap := h' } ⟨I.ok, I.os, I.bare, ⟨fun b o e n hb hx => ?_, fun b o e n hb hx => ?_, I.base.free, fun b o e hx => ?_, I.base.tups, I.base.frzs, I.base.tbls⟩, ⟨m, hn.sameBut hs (Ne.symm (cne x c hc)), fun j y v' e1 e2 e3 => ?_⟩, fun y c' e => ?_, I.free, I.freeC, fun p hp => ?_, tracked ⟨oc, hoc, I.freeC x c hc⟩ hs, by simpa using I.len⟩ ⟨c, hs, .inr hc⟩
    · exact (hs.2 b (Nat.ne_of_lt (Nat.lt_of_lt_of_le (Heap.lt_size e) (I.ok.cab x c hfn hc)))).trans (I.base.keep b o e n hb hx)
    · obtain ⟨sl, e1⟩ := I.base.slot b o e n hb hx
      exact ⟨sl, (hs.2 b (Nat.ne_of_lt (Nat.lt_of_lt_of_le (Heap.lt_size e) (I.ok.cab x c hfn hc)))).trans e1⟩
    · obtain ⟨o', e1⟩ := I.base.there b o e hx
      exact ⟨o', (hs.2 b (Nat.ne_of_lt (Nat.lt_of_lt_of_le (Heap.lt_size e) (I.ok.cab x c hfn hc)))).trans e1⟩
    · by_cases hj : j = i
      · subst hj
        rw [hi] at e1; cases e1
        rw [List.getElem?_set_self hiσ] at e2
        cases e2
        exact ⟨u, r, .inr ⟨.inl hk, c, hc, hc'⟩⟩
      · rw [List.getElem?_set_ne (Ne.symm hj)] at e2
        obtain ⟨u', r', q⟩ := hl j y v' e1 e2 e3
        refine ⟨u', r', ?_⟩
        rcases q with q | ⟨k, c', e, z'⟩
        · exact .inl q
        · refine .inr ⟨k, c', e, z'.sameBut hs ?_⟩
          rintro rfl
          exact hj (nodup_ix hN e1 (I.ok.inj _ _ _ e hc ▸ hi))
    · by_cases hcc : c' = c
      · subst hcc; exact ⟨_, hc'⟩
      · obtain ⟨w2, z2⟩ := I.cell y c' e
        exact ⟨w2, z2.sameBut hs hcc⟩
    · obtain ⟨e, n, ne, nf, d⟩ := I.pin p hp
      refine ⟨(hs.2 p.1 ?_).trans e, n, ne, nf, d⟩
      intro q
      rw [q, hoc] at e
      have q' : oc = p.2 := Option.some.inj e
      exact d w' (by rw [← q']; exact hocd)
theorem store_ok {M : Model} {A : Around} {E : Value → Shared → Prop} {i : Nat} {x : Str} {v : V} {u : Value} {Q : Unit → Shared → Prop} (I : Inv X pins σ H s) (hN : X.N.Nodup) (hi : X.N[i]? = some x) (hx : Loc X.env.scope x) (r : RelV v u)
    (h : ∀ s', Inv X pins (σ.set i (some v)) H s' → Q () s') (hf : X.fn x = true ∨ X.env.scope.names.lookup x = some .local := by first | exact .inl rfl | exact .inr rfl | assumption) : wpAny M A (storeName X.env x u) Q E s :=
  store_ok2 I hN hi hx r (fun s' I' _ => h s' I') hf
theorem Inv.call' {s' : Shared} {ch : List Addr} (I : Inv X pins σ H s) (ho : s'.os = s.os) (u : Un (frs X.stack) ch H H' s.heap s'.heap) (hok : HOk X.prog X.w H' s'.heap) (hg : AllBare s'.gens)
    (hch : ∀ b ∈ ch, (b ∈ X.ex ∨ X.s₀.heap.objs.size ≤ b) ∧ b ≠ X.env.locals ∧ (∀ x c, X.env.cells.lookup x = some c → c ≠ b) ∧ ∀ p ∈ X.pn ++ pins, p.1 ≠ b) : Inv X pins σ H' s' := by
  obtain ⟨h', g', d', t', o'⟩ := s'
  have e : o' = s.os := ho
  subst e
  exact I.call (g' := g') (t' := t') (d' := d') u hok hg hch
end
abbrev XK := Value → Option Addr → Hp → Prop
abbrev St := List (Option V)
abbrev VK := V → Hp → Prop
abbrev TE := St → Hp → VK → Prop
abbrev TT := St → Hp → (Bool → Hp → Prop) → Prop
abbrev TA := St → Hp → (List V → Hp → Prop) → Prop
structure Ends where
  nx : St → Hp → Prop
  rt : VK
  bk : St → Hp → Prop := fun _ _ => False
  ct : St → Hp → Prop := fun _ _ => False
abbrev TS := Ends → St → Hp → Prop
def EP (X : Cx) (pins : List (Addr × Obj)) (σ : St) (Q : VK) (u : Value) (s' : Shared) : Prop := ∃ v H', Inv X pins σ H' s' ∧ RelV v u ∧ Q v H'
def TP (X : Cx) (pins : List (Addr × Obj)) (σ : St) (Q : Bool → Hp → Prop) (b : Bool) (s' : Shared) : Prop := ∃ H', Inv X pins σ H' s' ∧ Q b H'
def AP (X : Cx) (pins : List (Addr × Obj)) (σ : St) (Q : List V → Hp → Prop) (us : List Value) (s' : Shared) : Prop := ∃ vs H', Inv X pins σ H' s' ∧ Vals vs us ∧ Q vs H'
def SP (X : Cx) (pins : List (Addr × Obj)) (D : Ends) (f : Flow) (s' : Shared) : Prop :=
  match f with
  | .next => ∃ σ' H', Inv X pins σ' H' s' ∧ D.nx σ' H'
  | .brk => ∃ σ' H', Inv X pins σ' H' s' ∧ D.bk σ' H'
  | .cont => ∃ σ' H', Inv X pins σ' H' s' ∧ D.ct σ' H'
  | .ret u => ∃ v σ' H', Inv X pins σ' H' s' ∧ RelV v u ∧ D.rt v H'
def PE (X : Cx) (e : Expr) (t : TE) : Prop :=
  ∀ (pins : List (Addr × Obj)) (s : Shared) (σ : St) (H : Hp) (Q : VK), Inv X pins σ H s → t σ H Q → wpAny (model X.prog X.w) X.A (eval e X.env) (EP X pins σ Q) X.xe s
def PT (X : Cx) (e : Expr) (t : TT) : Prop :=
  ∀ (pins : List (Addr × Obj)) (s : Shared) (σ : St) (H : Hp) (Q : Bool → Hp → Prop), Inv X pins σ H s → t σ H Q → wpAny (model X.prog X.w) X.A (isTrue e X.env (eval e X.env)) (TP X pins σ Q) X.xe s
def PW (X : Cx) (e : Expr) (t : TT) : Prop :=
  ∀ (whole : Sem Value) (pins : List (Addr × Obj)) (s : Shared) (σ : St) (H : Hp) (Q : Bool → Hp → Prop), Inv X pins σ H s → t σ H Q → wpAny (model X.prog X.w) X.A (isTrue e X.env whole) (TP X pins σ Q) X.xe s
theorem PW.pt {X : Cx} {e : Expr} {t : TT} (h : PW X e t) : PT X e t := h _
def PA (X : Cx) (es : List Expr) (t : TA) : Prop :=
  ∀ (pos : Pos) (pins : List (Addr × Obj)) (s : Shared) (σ : St) (H : Hp) (Q : List V → Hp → Prop), Inv X pins σ H s → t σ H Q → wpAny (model X.prog X.w) X.A (spliced (backTo pos (starEach es X.env))) (AP X pins σ Q) X.xe s
def PS (X : Cx) (st : Stmt) (t : TS) : Prop :=
  ∀ (pins : List (Addr × Obj)) (s : Shared) (σ : St) (H : Hp) (D : Ends), Inv X pins σ H s → t D σ H → wpAny (model X.prog X.w) X.A (exec st X.env) (SP X pins D) X.xe s
def PSs (X : Cx) (st : List Stmt) (t : TS) : Prop :=
  ∀ (pins : List (Addr × Obj)) (s : Shared) (σ : St) (H : Hp) (D : Ends), Inv X pins σ H s → t D σ H → wpAny (model X.prog X.w) X.A (execs st X.env) (SP X pins D) X.xe s
theorem thn {α : Type} {t : Sem α} {Q Q' : α → Shared → Prop} {M : Model} {A : Around} {E : Value → Shared → Prop} {s : Shared} (h : wpAny M A t Q E s) (hQ : ∀ a s, Q a s → Q' a s) : wpAny M A t Q' E s := wpAny_mono h hQ fun _ _ x => x
end L2
namespace L2
open PySem PySem.Spec PyProof.Rows
section
variable {X : Cx}
def tVar (i : Nat) : TE := fun σ H Q => ∃ v, σ[i]? = some (some v) ∧ Q v H
def tC (v : V) : TE := fun _ H Q => Q v H
theorem pe_var {i : Nat} {x : Str} {pos : Pos} (hN : X.N[i]? = some x) (hv : Vis X.env.scope x) (hd : (x == ("__debug__" : Str)) = false := by decide) (hcd : (x == ("__classdict__" : Str)) = false := by decide) : PE X (.Name x pos) (tVar i) := by
  intro pins s σ H Q I h
  obtain ⟨v, e, h⟩ := h
  obtain ⟨m, hn, hl⟩ := I.loc
  obtain ⟨u, r, l⟩ := hl i x v hN e hv
  have fin : EP X pins σ Q u s := ⟨v, H, I, r, h⟩
  rcases l with ⟨hk, hm⟩ | ⟨hk, c, hc, hcell⟩
  · exact wpAny_Name (wpAny_loadName_local I.ok.kind hk hn hm fin) hd
  · rcases hk with hk | hk
    · exact wpAny_Name (wpAny_loadName_cell I.ok.kind hk hc hcell fin) hd
    · exact wpAny_Name (wpAny_loadName_free I.ok.kind hk hc hcell fin hcd) hd
theorem pe_int {i j pos} : PE X (.Constant (.int i) j pos) (tC (.int i)) := fun _ _ _ H _ I h => wpAny_Constant_int ⟨.int i, H, I.tok _, ⟨_, rfl⟩, h⟩
theorem pe_bl {b j pos} : PE X (.Constant (.bool b) j pos) (tC (.bl b)) := fun _ _ _ H _ I h => Constant_bool ⟨.bl b, H, I, rfl, h⟩
theorem pe_non {j pos} : PE X (.Constant .none j pos) (tC .non) := fun _ _ _ H _ I h => Constant_none ⟨.non, H, I, rfl, h⟩
theorem pe_str {x j pos} : PE X (.Constant (.str x) j pos) (tC (.str x)) := fun _ _ _ H _ I h => Calls.Constant_str ⟨.str x, H, I.tok _, ⟨_, rfl⟩, h⟩
def Gl (X : Cx) (x : Str) : Prop := X.env.kindOf x = some .globalImplicit
theorem ld_glob {E : Value → Shared → Prop} {pins : List (Addr × Obj)} {s : Shared} {σ : St} {H : Hp} {x : Str} {u : Value} {pos : Pos} {Q : Value → Shared → Prop} (I : Inv X pins σ H s) (hg : Gl X x) (hm : X.mg x = some u) (h : Q u s)
    (hd : (x == ("__debug__" : Str)) = false := by decide) : wpAny (model X.prog X.w) X.A (eval (.Name x pos) X.env) Q E s :=
  Calls.Name_function_global I.ok.kind hg (Calls.loadGlobal_global (by rw [I.ok.glob]; exact I.mod.glob.keeps I.bk) hm h) hd
theorem ld_blt {E : Value → Shared → Prop} {pins : List (Addr × Obj)} {s : Shared} {σ : St} {H : Hp} {x : Str} {u : Value} {pos : Pos} {Q : Value → Shared → Prop} (I : Inv X pins σ H s) (hg : Gl X x) (hm : X.mg x = none) (hv : bootBuiltins x = some u) (h : Q u s)
    (hn : x ≠ "__name__" := by decide) (hd : (x == ("__debug__" : Str)) = false := by decide) : wpAny (model X.prog X.w) X.A (eval (.Name x pos) X.env) Q E s := by
  obtain ⟨mb, h1, h2⟩ := I.mod.blt
  exact Calls.Name_function_global I.ok.kind hg (Calls.loadGlobal_builtin (by rw [I.ok.glob]; exact I.mod.glob.keeps I.bk) hm (by rw [I.ok.blt]; exact h1.keeps I.bk) ((h2 x hn).trans hv) h) hd
theorem pe_glob {x : Str} {v : V} {u : Value} {pos : Pos} (hg : Gl X x) (hm : X.mg x = some u) (r : RelV v u) (hd : (x == ("__debug__" : Str)) = false := by decide) : PE X (.Name x pos) (tC v) :=
  fun _ _ _ H _ I h => ld_glob I hg hm ⟨v, H, I, r, h⟩ hd
theorem pe_bltn {x : Str} {v : V} {u : Value} {pos : Pos} (hg : Gl X x) (hm : X.mg x = none) (hv : bootBuiltins x = some u) (r : RelV v u) (hn : x ≠ "__name__" := by decide) (hd : (x == ("__debug__" : Str)) = false := by decide) : PE X (.Name x pos) (tC v) :=
  fun _ _ _ H _ I h => ld_blt I hg hm hv ⟨v, H, I, r, h⟩ hn hd
variable {a b : Expr} {ta tb : TE} {pos : Pos}
def tB (t : TE) : TT := fun σ H Q => t σ H fun x H1 => ∃ c, x = .bl c ∧ Q c H1
theorem pt_val {e : Expr} {t : TE} (h : PE X e t) (he : ∀ whole, isTrue e X.env whole = (do let v ← whole; standAt e.pos; holding [v] (truthy v)) := by intro _; rfl) : PT X e (tB t) := by
  intro pins s σ H Q I hw
  refine isTrue_plain (thn (h pins s σ H _ I hw) fun v s1 ⟨x, H1, I1, r1, q1⟩ => ?_) (he _)
  obtain ⟨d, rfl, q⟩ := q1
  cases r1
  exact wpAny_truthy_bool ⟨H1, I1, q⟩
variable {tA tB' : TT} {rest : List Expr}
def tAnd (t u : TT) : TT := fun σ H Q => t σ H fun c H1 => if c = true then u σ H1 Q else Q false H1
def tOr (t u : TT) : TT := fun σ H Q => t σ H fun c H1 => if c = true then Q true H1 else u σ H1 Q
def tNot (t : TT) : TT := fun σ H Q => t σ H fun c H1 => Q (!c) H1
theorem pw_and1 (ha : PT X a tA) : PW X (.BoolOp .And [a] pos) tA := by
  intro wh pins s σ H Q I h
  refine isTrue_and (thn (ha pins s σ H Q I h) fun c s1 e => ?_)
  cases c with
  | true => exact isTrue_and_nil e
  | false => exact e
theorem pw_or1 (ha : PT X a tA) : PW X (.BoolOp .Or [a] pos) tA := by
  intro wh pins s σ H Q I h
  refine isTrue_or (thn (ha pins s σ H Q I h) fun c s1 e => ?_)
  cases c with
  | false => exact isTrue_or_nil e
  | true => exact e
theorem pw_and (ha : PT X a tA) (hb : PW X (.BoolOp .And (b :: rest) pos) tB') : PW X (.BoolOp .And (a :: b :: rest) pos) (tAnd tA tB') := by
  intro wh pins s σ H Q I h
  refine isTrue_and (thn (ha pins s σ H _ I h) fun c s1 ⟨H1, I1, q1⟩ => ?_)
  cases c with
  | true => exact hb wh pins s1 σ H1 Q I1 q1
  | false => exact ⟨H1, I1, q1⟩
theorem pw_or (ha : PT X a tA) (hb : PW X (.BoolOp .Or (b :: rest) pos) tB') : PW X (.BoolOp .Or (a :: b :: rest) pos) (tOr tA tB') := by
  intro wh pins s σ H Q I h
  refine isTrue_or (thn (ha pins s σ H _ I h) fun c s1 ⟨H1, I1, q1⟩ => ?_)
  cases c with
  | true => exact ⟨H1, I1, q1⟩
  | false => exact hb wh pins s1 σ H1 Q I1 q1
theorem pt_not (ha : PT X a tA) : PT X (.UnaryOp .Not a pos) (tNot tA) := by
  intro pins s σ H Q I h
  exact isTrue_not (ha pins s σ H (fun c H1 => Q (!c) H1) I h)
def tAndV (ta tb : TE) : TE := fun σ H Q => ta σ H fun x H1 => ∃ c, x = .bl c ∧ if c = true then tb σ H1 Q else Q (.bl false) H1
def tOrV (ta tb : TE) : TE := fun σ H Q => ta σ H fun x H1 => ∃ c, x = .bl c ∧ if c = true then Q (.bl true) H1 else tb σ H1 Q
def tNotV (ta : TE) : TE := fun σ H Q => ta σ H fun x H1 => ∃ c, x = .bl c ∧ Q (.bl (!c)) H1
theorem pe_one {op} {t : TE} (h : PE X a t) : PE X (.BoolOp op [a] pos) t := fun pins s σ H Q I hw => BoolOp_one (h pins s σ H Q I hw)
theorem pe_and (ha : PE X a ta) (hb : PE X (.BoolOp .And (b :: rest) pos) tb) : PE X (.BoolOp .And (a :: b :: rest) pos) (tAndV ta tb) := by
  intro pins s σ H Q I h
  refine BoolOp_and (thn (ha pins s σ H _ I h) fun v s1 ⟨x, H1, I1, r1, q1⟩ => ?_)
  obtain ⟨c, rfl, q1⟩ := q1
  cases r1
  refine wpAny_truthy_bool ?_
  cases c with
  | true => exact hb pins s1 σ H1 Q I1 q1
  | false => exact ⟨.bl false, H1, I1, rfl, q1⟩
theorem pe_not (ha : PE X a ta) : PE X (.UnaryOp .Not a pos) (tNotV ta) := by
  intro pins s σ H Q I h
  refine UnaryOp_ (thn (ha pins s σ H _ I h) fun v s1 ⟨x, H1, I1, r1, q1⟩ => ?_)
  obtain ⟨c, rfl, q1⟩ := q1
  cases r1
  exact not_of (wpAny_truthy_bool ⟨.bl (!c), H1, I1, rfl, q1⟩)
def tIf (t : TT) (ta tb : TE) : TE := fun σ H Q => t σ H fun c H1 => if c = true then ta σ H1 Q else tb σ H1 Q
end
end L2
namespace L2
open PySem PySem.Spec PyProof.Rows
def SqL (K : PySem.W.Frag) (H : Hp) (a : Addr) (xs : List V) : Prop :=
  Rd H a (.lst xs) ∨
    ∃ (o : Obj) (its : Array Value) (n : Nat), K.lookup a = some o ∧ o.cls = .type "list" ∧ o.dict = none ∧ o.data = .seq its n ∧ its.size ≤ sizeLine ∧ Vals xs its.toList
def SqT (K : PySem.W.Frag) (H : Hp) (a : Addr) (xs : List V) : Prop :=
  Rd H a (.tup xs) ∨
    ∃ (o : Obj) (its : Array Value) (n : Nat), K.lookup a = some o ∧ o.cls = .type "tuple" ∧ o.data = .seq its n ∧ its.size ≤ sizeLine ∧ Vals xs its.toList
def absV : Value → Option V
  | .none => some .non
  | .bool b => some (.bl b)
  | .int i _ => some (.int i)
  | .str x _ => some (.str x)
  | .bytes b _ => some (.byt b)
  | .float b _ => some (.flt b)
  | .ref a => some (.ref a)
  | .type n => some (.ty n)
  | _ => none
theorem RelV.abs {x : V} {u : Value} (r : RelV x u) : absV u = some x := by
  cases x with
  | non => cases r; rfl
  | bl _ => cases r; rfl
  | int _ => obtain ⟨t, rfl⟩ := r; rfl
  | str _ => obtain ⟨t, rfl⟩ := r; rfl
  | byt _ => obtain ⟨t, rfl⟩ := r; rfl
  | flt _ => obtain ⟨t, rfl⟩ := r; rfl
  | ref _ => cases r; rfl
  | ty _ => cases r; rfl
theorem RelV.inj {x y : V} {u : Value} (r : RelV x u) (q : RelV y u) : x = y := Option.some.inj (r.abs.symm.trans q.abs)
theorem Vals.inj : ∀ {xs ys : List V} {us : List Value}, Vals xs us → Vals ys us → xs = ys
  | _, _, _, .nil, .nil => rfl
  | _, _, _, .cons r t, .cons r' t' => by rw [r.inj r', Vals.inj t t']
section
variable {X : Cx} {pins : List (Addr × Obj)} {σ : St} {H : Hp} {s : Shared} {a : Addr} {xs ys : List V}
theorem SqL.of {K : PySem.W.Frag} (h : H a = some (.lst xs)) : SqL K H a xs := .inl (.inl h)
theorem SqT.of {K : PySem.W.Frag} (h : H a = some (.tup xs)) : SqT K H a xs := .inl (.inl h)
theorem Inv.list (I : Inv X pins σ H s) (h : SqL X.K H a xs) : ∃ its : List Value, Vals xs its ∧ PlainL s.heap a its.toArray ∧ xs.length ≤ sizeLine := by
  rcases h with h | ⟨o, its, n, hk, hc, hd, hs, hz, r⟩
  · obtain ⟨z, its, n, r, e⟩ := h.ok I.hok
    exact ⟨its, r, ⟨_, n, e, rfl, rfl, rfl⟩, z⟩
  · refine ⟨its.toList, r, ⟨o, n, I.kIn a o hk, hc, hd, by simpa using hs⟩, ?_⟩
    have e := r.length
    simp only [Array.length_toList] at e
    omega
theorem Inv.tuple (I : Inv X pins σ H s) (h : SqT X.K H a xs) : ∃ its : List Value, Vals xs its ∧ IsTup s.heap a its.toArray ∧ xs.length ≤ sizeLine := by
  rcases h with h | ⟨o, its, n, hk, hc, hs, hz, r⟩
  · obtain ⟨z, its, r, p⟩ := h.ok I.hok
    exact ⟨its, r, p, z⟩
  · refine ⟨its.toList, r, ⟨o, I.kIn a o hk, hc, n, by simpa using hs⟩, ?_⟩
    have e := r.length
    simp only [Array.length_toList] at e
    omega
theorem Inv.list_inj (I : Inv X pins σ H s) (h : SqL X.K H a xs) (h' : SqL X.K H a ys) : xs = ys := by
  obtain ⟨its, r, ⟨o, n, e, _, _, d⟩, _⟩ := I.list h
  obtain ⟨its', r', ⟨o', n', e', _, _, d'⟩, _⟩ := I.list h'
  rw [e] at e'; cases e'
  rw [d] at d'
  injection d' with d1 _
  have : its = its' := by simpa using congrArg Array.toList d1
  subst this
  exact r.inj r'
theorem Inv.tuple_inj (I : Inv X pins σ H s) (h : SqT X.K H a xs) (h' : SqT X.K H a ys) : xs = ys := by
  obtain ⟨its, r, ⟨o, e, _, n, d⟩, _⟩ := I.tuple h
  obtain ⟨its', r', ⟨o', e', _, n', d'⟩, _⟩ := I.tuple h'
  rw [e] at e'; cases e'
  rw [d] at d'
  injection d' with d1 _
  have : its = its' := by simpa using congrArg Array.toList d1
  subst this
  exact r.inj r'
end
abbrev Cx.wish (X : Cx) (E : Value → Shared → Prop) : Cx := { X with xe := E }
abbrev Cx.nox (X : Cx) : Cx := X.wish fun _ _ => False
theorem Cx.Ok.wish {X : Cx} (ok : X.Ok) (E : Value → Shared → Prop) : (X.wish E).Ok :=
  ⟨ok.mod, ok.kind, ok.glob, ok.blt, ok.above, ok.inj, ok.has, ok.cab, ok.hd, ok.frames, ok.stk, ok.exf, ok.bs, ok.bsz, ok.noex, ok.exfs, ok.funs, ok.frf⟩
theorem Cx.Ok.unwish {X : Cx} {E : Value → Shared → Prop} (ok : (X.wish E).Ok) : X.Ok :=
  ⟨ok.mod, ok.kind, ok.glob, ok.blt, ok.above, ok.inj, ok.has, ok.cab, ok.hd, ok.frames, ok.stk, ok.exf, ok.bs, ok.bsz, ok.noex, ok.exfs, ok.funs, ok.frf⟩
section
variable {X : Cx} {pins : List (Addr × Obj)} {σ : St} {H : Hp} {s : Shared} {E : Value → Shared → Prop}
theorem Inv.wish (I : Inv X pins σ H s) (E : Value → Shared → Prop) : Inv (X.wish E) pins σ H s := ⟨I.ok.wish E, I.os, I.bare, I.base, I.loc, I.cell, I.free, I.freeC, I.pin, I.hok, I.len⟩
theorem Inv.unwish (I : Inv (X.wish E) pins σ H s) : Inv X pins σ H s := ⟨I.ok.unwish, I.os, I.bare, I.base, I.loc, I.cell, I.free, I.freeC, I.pin, I.hok, I.len⟩
theorem SP.unwish {D : Ends} {f : Flow} {s' : Shared} (h : SP (X.wish E) pins D f s') : SP X pins D f s' := by
  cases f with
  | next => obtain ⟨σ', H', I, q⟩ := h; exact ⟨σ', H', I.unwish, q⟩
  | brk => obtain ⟨σ', H', I, q⟩ := h; exact ⟨σ', H', I.unwish, q⟩
  | cont => obtain ⟨σ', H', I, q⟩ := h; exact ⟨σ', H', I.unwish, q⟩
  | ret u => obtain ⟨v, σ', H', I, r, q⟩ := h; exact ⟨v, σ', H', I.unwish, r, q⟩
theorem PE.nox {e : Expr} {t : TE} (h : PE X.nox e t) : PE X e t := fun pins s σ H Q I hw =>
  wpAny_mono (h pins s σ H Q (I.wish _) hw) (fun _ _ ⟨v, H', I', r, q⟩ => ⟨v, H', I'.unwish, r, q⟩) fun _ _ z => False.elim z
theorem PT.nox {e : Expr} {t : TT} (h : PT X.nox e t) : PT X e t := fun pins s σ H Q I hw =>
  wpAny_mono (h pins s σ H Q (I.wish _) hw) (fun _ _ ⟨H', I', q⟩ => ⟨H', I'.unwish, q⟩) fun _ _ z => False.elim z
theorem PSs.nox {st : List Stmt} {t : TS} (h : PSs X.nox st t) : PSs X st t := fun pins s σ H D I hw =>
  wpAny_mono (h pins s σ H D (I.wish _) hw) (fun _ _ q => q.unwish) fun _ _ z => False.elim z
end
section
variable {X : Cx} {st : Stmt} {rest : List Stmt} {t u : TS} {e : Expr} {te : TE} {pos : Pos}
def tNext : TS := fun D σ H => D.nx σ H
def tSeq (t u : TS) : TS := fun D σ H => t { D with nx := u D } σ H
theorem pss_nil : PSs X [] tNext := fun _ _ σ H _ I h => wpAny_execs_nil ⟨σ, H, I, h⟩
theorem pss_cons (h1 : PS X st t) (h2 : PSs X rest u) : PSs X (st :: rest) (tSeq t u) := by
  intro pins s σ H D I h
  refine wpAny_execs_cons (thn (h1 pins s σ H { D with nx := u D } I h) fun f s1 q => ?_)
  cases f with
  | next =>
    obtain ⟨σ', H', I', q⟩ := q
    exact h2 pins s1 σ' H' D I' q
  | ret v => exact q
  | brk => exact q
  | cont => exact q
theorem pss_one (h1 : PS X st t) : PSs X [st] t := by
  intro pins s σ H D I h
  refine wpAny_execs_cons (thn (h1 pins s σ H D I h) fun f s1 q => ?_)
  cases f with
  | next => exact wpAny_execs_nil q
  | ret v => exact q
  | brk => exact q
  | cont => exact q
theorem Inv.quiet {pins : List (Addr × Obj)} {σ : St} {H : Hp} {s : Shared} (I : Inv X pins σ H s) : interactive X.env = false := by simp [interactive, I.ok.kind]
def tDrop (te : TE) : TS := fun D σ H => te σ H fun _ H1 => D.nx σ H1
theorem ps_expr (he : PE X e te) (hs : swapsWith e none pos.line X.env = pure false := by rfl) : PS X (.Expr e pos) (tDrop te) := by
  intro pins s σ H D I h
  exact wpAny_Expr_any (thn (he pins s σ H _ I h) fun v s1 ⟨x, H1, I1, r1, q1⟩ => ⟨σ, H1, I1, q1⟩) I.quiet hs
def tRet (te : TE) : TS := fun D σ H => te σ H D.rt
theorem ps_ret (he : PE X e te) : PS X (.Return (some e) pos) (tRet te) := by
  intro pins s σ H D I h
  exact wpAny_Return_some (thn (he pins s σ H _ I h) fun v s1 ⟨x, H1, I1, r1, q1⟩ => ⟨x, σ, H1, I1, r1, q1⟩)
def tRetN : TS := fun D _ H => D.rt .non H
def tIfS (c : TT) (t u : TS) : TS := fun D σ H => c σ H fun b H1 => if b = true then t D σ H1 else u D σ H1
theorem ps_if {c : Expr} {a b : List Stmt} {tc : TT} (hc : PT X c tc) (ha : PSs X a t) (hb : PSs X b u) : PS X (.If c a b pos) (tIfS tc t u) := by
  intro pins s σ H D I h
  refine wpAny_If (thn (hc pins s σ H _ I h) fun d s1 ⟨H1, I1, q1⟩ => ?_)
  cases d with
  | true => exact ha pins s1 σ H1 D I1 q1
  | false => exact hb pins s1 σ H1 D I1 q1
end
abbrev TG := V → St → Hp → (St → Hp → Prop) → Prop
abbrev TGs := List V → St → Hp → (St → Hp → Prop) → Prop
def PG (X : Cx) (target : Expr) (t : TG) : Prop :=
  ∀ (pins : List (Addr × Obj)) (s : Shared) (σ : St) (H : Hp) (v : V) (u : Value) (Q : St → Hp → Prop), Inv X pins σ H s → RelV v u → t v σ H Q →
    wpAny (model X.prog X.w) X.A (assign target X.env u) (fun _ s' => ∃ σ' H', Inv X pins σ' H' s' ∧ Q σ' H') X.xe s
abbrev TSet := V → V → V → Hp → (Hp → Prop) → Prop
section
variable {X : Cx} {pos : Pos}
def gName (i : Nat) : TG := fun v σ H Q => Q (σ.set i (some v)) H
theorem pg_name {i : Nat} {x : Str} (hN : X.N.Nodup) (hi : X.N[i]? = some x) (hx : Loc X.env.scope x) (hf : X.fn x = true ∨ X.env.scope.names.lookup x = some .local := by first | exact .inl rfl | exact .inr rfl | assumption) : PG X (.Name x pos) (gName i) := by
  intro pins s σ H v u Q I r h
  exact wpAny_assign_Name (store_ok I hN hi hx r (fun s' I' => ⟨_, H, I', h⟩) hf)
def gNil : TGs := fun vs σ H Q => vs = [] ∧ Q σ H
def gCons (t : TG) (u : TGs) : TGs := fun vs σ H Q => ∃ v r, vs = v :: r ∧ t v σ H fun σ' H' => u r σ' H' Q
def gTup (K : PySem.W.Frag) (n : Nat) (t : TGs) : TG := fun v σ H Q => ∃ a xs, v = .ref a ∧ SqT K H a xs ∧ xs.length = n ∧ t xs σ H Q
def gSub (to ti : TE) (t : TSet) : TG := fun v σ H Q => to σ H fun o H1 => ti σ H1 fun i H2 => t o i v H2 fun H3 => Q σ H3
def tAsg (te : TE) (g : TG) : TS := fun D σ H => te σ H fun x H1 => g x σ H1 D.nx
theorem ps_set {i : Nat} {x : Str} {e : Expr} {te : TE} {pos' : Pos} (hN : X.N.Nodup) (hi : X.N[i]? = some x) (hx : Loc X.env.scope x) (he : PE X e te) (hs : swapsWith e (some (.Name x pos')) pos.line X.env = pure false := by rfl) (hf : X.fn x = true ∨ X.env.scope.names.lookup x = some .local := by first | exact .inl rfl | exact .inr rfl | assumption) :
    PS X (.Assign [.Name x pos'] e pos) (tAsg te (gName i)) := by
  intro pins s σ H D I h
  refine wpAny_Assign_Name (thn (he pins s σ H _ I h) fun v s1 ⟨y, H1, I1, r1, q1⟩ => ?_) hs
  exact store_ok I1 hN hi hx r1 (fun s2 I2 => ⟨_, H1, I2, q1⟩) hf
end
section
variable {X : Cx} {pos : Pos}
def tWhile (c : TT) (tb : TS) : TS := fun D σ H => ∃ W : Nat → St → Hp → Prop, (∃ m, W m σ H) ∧ ∀ m σ H, W m σ H →
  c σ H fun b H1 => if b = true then ∃ N : St → Hp → Prop, (∀ σ' H', N σ' H' → ∃ m', m' < m ∧ W m' σ' H') ∧ tb { D with nx := N, ct := N, bk := D.nx } σ H1 else D.nx σ H1
end
structure It where
  go : Nat → Hp → Prop
  yld : Nat → Hp → V → Hp → Prop
  stop : Nat → Hp → Prop
def FpOk (X : Cx) (pins : List (Addr × Obj)) (H : Hp) (b : Addr) : Prop :=
  H b = none ∧ b ≠ X.env.locals ∧ b ∉ X.fs ∧ (b ∈ X.ex ∨ X.s₀.heap.objs.size ≤ b) ∧ (∀ x c, X.env.cells.lookup x = some c → c ≠ b) ∧ ∀ p ∈ X.pn ++ pins, p.1 ≠ b
theorem Inv.fpOk {X : Cx} {pins : List (Addr × Obj)} {σ : St} {H H' : Hp} {s : Shared} {b : Addr} (I : Inv X pins σ H s) (hb : s.heap.objs.size ≤ b) (hn : H' b = none) : FpOk X pins H' b := by
  refine ⟨hn, Nat.ne_of_gt (Nat.lt_of_lt_of_le I.lt hb), I.nofs hb, .inr (Nat.le_trans I.sz hb), fun x c e z => ?_, fun p hp z => ?_⟩
  · obtain ⟨v, q⟩ := I.cell x c e
    exact absurd (Nat.lt_of_lt_of_le q.lt (by rw [z]; exact hb)) (Nat.lt_irrefl _)
  · exact absurd (Nat.lt_of_lt_of_le (Heap.lt_size (I.pin p hp).1) (by rw [z]; exact hb)) (Nat.lt_irrefl _)
structure Turn (P : Program) (w : World) (K : PySem.W.Frag) (tg : Expr) (J : It) (fp : List Addr) (it : Addr) (tn : Nat → Heap → Prop) : Prop where
  mem : it ∈ fp
  obj : ∀ i h, tn i h → ∀ b ∈ fp, ∃ o, h.get? b = some o ∧ ∀ v, o.data ≠ .cell v
  keep : ∀ i h h', tn i h → (∀ b ∈ fp, ∀ o, h.get? b = some o → h'.get? b = some o) → tn i h'
  item : ∀ (X : Cx), X.prog = P → X.w = w → X.K = K → X.calm = true → ∀ (i : Nat) (pins : List (Addr × Obj)) (s : Shared) (σ : St) (H : Hp) (E : Value → Shared → Prop), Inv X pins σ H s → (∀ b ∈ fp, FpOk X pins H b) → tn i s.heap → J.go i H →
    wpAny (model P w) X.A (pyNext (.ref it)) (fun r s1 => ∃ u, r = some u ∧
      wpAny (model P w) X.A (letOwnedTupleGo tg (.ref it) u) (fun _ s2 => ∃ x H', Inv X pins σ H' s2 ∧ RelV x u ∧ J.yld i H x H' ∧ tn (i + 1) s2.heap ∧ ∀ b ∈ fp, H' b = none) E s1) E s
  done : ∀ (X : Cx), X.prog = P → X.w = w → X.K = K → X.calm = true → ∀ (i : Nat) (pins : List (Addr × Obj)) (s : Shared) (σ : St) (H : Hp) (E : Value → Shared → Prop), Inv X pins σ H s → (∀ b ∈ fp, FpOk X pins H b) → tn i s.heap → J.stop i H →
    wpAny (model P w) X.A (pyNext (.ref it)) (fun r s1 => r = none ∧ Inv X pins σ H s1) E s
  self : ∀ (A : Around) (i : Nat) (s : Shared) (Q : Value → Shared → Prop) (E : Value → Shared → Prop), tn i s.heap → Q (.ref it) s → wpAny (model P w) A (pyIter (.ref it)) Q E s
abbrev TI := St → Hp → (It → Hp → Prop) → Prop
def PIE (X : Cx) (pins : List (Addr × Obj)) (σ : St) (tg : Expr) (R : It → Hp → Prop) (itv : Value) (s2 : Shared) : Prop :=
  ∃ (it : Addr) (fp : List Addr) (tn : Nat → Heap → Prop) (J : It) (H' : Hp), itv = .ref it ∧ Inv X pins σ H' s2 ∧ Turn X.prog X.w X.K tg J fp it tn ∧ tn 0 s2.heap ∧ (∀ b ∈ fp, FpOk X pins H' b) ∧ R J H'
def PI (X : Cx) (tg iter : Expr) (wi : TI) : Prop :=
  ∀ (pins : List (Addr × Obj)) (s : Shared) (σ : St) (H : Hp) (R : It → Hp → Prop), Inv X pins σ H s → wi σ H R →
    wpAny (model X.prog X.w) X.A (eval iter X.env) (fun v s1 => wpAny (model X.prog X.w) X.A (pyIter v) (PIE X pins σ tg R) X.xe s1) X.xe s
theorem go_of {M : Model} {A : Around} {E : Value → Shared → Prop} {s : Shared} {tg : Expr} {it : Addr} {u : Value} {o : Obj} {n : String} {vs : Array Value} {Q : Unit → Shared → Prop} (ho : s.heap.get? it = some o) (hc : o.cls = .type n) (hd : o.data = .fields vs)
    (hn : ["enumerate", "zip", "dict_itemiterator", "dict_reverseitemiterator", "odict_iterator", "itertools.zip_longest", "itertools.pairwise"].contains n = false) (hQ : Q () s) : wpAny M A (letOwnedTupleGo tg (.ref it) u) Q E s := by
  unfold letOwnedTupleGo
  cases tg <;> first
    | exact wpAny_pure hQ
    | (cases u <;> first
        | exact wpAny_pure hQ
        | (refine wpAny_bind (wpAny_load ho ?_)
           rw [hc, hd]
           show wpAny M A (if (["enumerate", "zip", "dict_itemiterator", "dict_reverseitemiterator", "odict_iterator", "itertools.zip_longest", "itertools.pairwise"].contains n && vs[0]? == some (rawInt _)) = true then _ else _) Q E s
           rw [if_neg (by intro h; rw [hn, Bool.false_and] at h; cases h)]
           exact wpAny_pure hQ))
def Itl (K : PySem.W.Frag) (a : Addr) : It :=
  ⟨fun i H => ∃ xs x, SqL K H a xs ∧ xs[i]? = some x, fun i H x H' => H' = H ∧ ∀ xs, SqL K H a xs → xs[i]? = some x, fun i H => ∃ xs, SqL K H a xs ∧ xs.length ≤ i⟩
def Itt (K : PySem.W.Frag) (a : Addr) : It :=
  ⟨fun i H => ∃ xs x, SqT K H a xs ∧ xs[i]? = some x, fun i H x H' => H' = H ∧ ∀ xs, SqT K H a xs → xs[i]? = some x, fun i H => ∃ xs, SqT K H a xs ∧ xs.length ≤ i⟩
def Itr (lo : Int) (n : Nat) : It := ⟨fun i _ => i < n, fun i H x H' => H' = H ∧ x = .int (lo + i), fun i _ => n ≤ i⟩
theorem turn_list {P : Program} {w : World} {K : PySem.W.Frag} {tg : Expr} (a it : Addr) : Turn P w K tg (Itl K a) [it] it (fun i h => h.IsListIter it a i) where
  mem := by simp
  obj := fun i h st b hb => by
    have e : b = it := by simpa using hb
    subst e
    obtain ⟨o, e, c, d⟩ := st
    exact ⟨o, e, fun v z => by rw [d] at z; cases z⟩
  keep := fun i h h' st k => st.at fun o e => k it (by simp) o e
  item := by
    intro X hP hw hK hc i pins s σ H E I hf st hg
    subst hP hw hK
    obtain ⟨xs, x, hq, hx⟩ := hg
    obtain ⟨its, rv, p, hz⟩ := I.list hq
    obtain ⟨u, hu, ru⟩ := rv.get hx
    obtain ⟨f0, f1, f2, f3, f4, f5⟩ := hf it (by simp)
    refine wpAny_pyNext_list_item st p.isList (x := u) (by simpa using hu) fun h' st' sb => ?_
    have I1 : Inv X pins σ H { s with heap := h' } := I.turned (t' := s.toks) (fun b o hb e => (sb.2 b hb).trans e) f0 f1 f3 f4 f5
    obtain ⟨o, e, c, d⟩ := id st'
    exact ⟨u, rfl, go_of (s := { s with heap := h' }) e c d (by decide) ⟨x, H, I1, ru, ⟨rfl, fun ys hy => by rw [I.list_inj hy hq]; exact hx⟩, st', fun b hb => (hf b hb).1⟩⟩
  done := by
    intro X hP hw hK hc i pins s σ H E I hf st hg
    subst hP hw hK
    obtain ⟨xs, hq, hx⟩ := hg
    obtain ⟨its, rv, p, hz⟩ := I.list hq
    obtain ⟨f0, f1, f2, f3, f4, f5⟩ := hf it (by simp)
    have hl := rv.length
    exact wpAny_pyNext_list_end (I.ok.hd hc) st p.isList (by simp; omega) fun h' eb => ⟨rfl, I.turned (t' := s.toks) (fun b o hb e => eb b o hb e) f0 f1 f3 f4 f5⟩
  self := fun _ _ _ _ _ st h => wpAny_pyIter_listiter st h
theorem turn_range {P : Program} {w : World} {K : PySem.W.Frag} {tg : Expr} (it : Addr) (lo : Int) (n : Nat) : Turn P w K tg (Itr lo n) [it] it (fun i h => IsRangeIter h it (lo + (i : Nat) * 1) ((n : Int) - (i : Nat)) 1) where
  mem := by simp
  obj := fun i h st b hb => by
    have e : b = it := by simpa using hb
    subst e
    exact ⟨_, st, fun v z => by
      have z' : Data.fields _ = Data.cell v := z
      cases z'⟩
  keep := fun i h h' st k => k it (by simp) _ st
  item := by
    intro X hP hw hK hc i pins s σ H E I hf st hg
    subst hP hw hK
    obtain ⟨f0, f1, f2, f3, f4, f5⟩ := hf it (by simp)
    have W := Walks.range (prog := X.prog) (w := X.w) (I.ok.hd hc) it lo 1 n
    refine W.item i s _ _ hg st fun v h' tk hv st' kk => ?_
    obtain ⟨t, rfl⟩ := hv
    have I1 : Inv X pins σ H { s with heap := h', toks := tk } := I.turned (fun b o hb e => kk b o (by simpa using hb) e) f0 f1 f3 f4 f5
    refine ⟨_, rfl, go_of (s := { s with heap := h', toks := tk }) (n := "range_iterator") st' rfl rfl (by decide) ⟨.int (lo + i), H, I1, ⟨t, ?_⟩, ⟨rfl, rfl⟩, st', fun b hb => (hf b hb).1⟩⟩
    rw [Int.mul_one]
  done := by
    intro X hP hw hK hc i pins s σ H E I hf st hg
    subst hP hw hK
    obtain ⟨f0, f1, f2, f3, f4, f5⟩ := hf it (by simp)
    exact wpAny_pyNext_range_end (I.ok.hd hc) st (by have : n ≤ i := hg; omega) fun h' eb => ⟨rfl, I.turned (t' := s.toks) (fun b o hb e => eb b o hb e) f0 f1 f3 f4 f5⟩
  self := fun _ _ _ _ _ st h => wpAny_pyIter_rangeiter st h
end L2
namespace L2
open PySem PySem.Spec PyProof.Rows
section
variable {X : Cx} {tg : Expr}
def iList (K : PySem.W.Frag) (tl : TE) : TI := fun σ H R => tl σ H fun x H1 => ∃ a, x = .ref a ∧ (∃ xs, SqL K H1 a xs) ∧ R (Itl K a) H1
def iTup (K : PySem.W.Frag) (tl : TE) : TI := fun σ H R => tl σ H fun x H1 => ∃ a, x = .ref a ∧ (∃ xs, SqT K H1 a xs) ∧ R (Itt K a) H1
theorem pi_list {l : Expr} {tl : TE} (hl : PE X l tl) : PI X tg l (iList X.K tl) := by
  intro pins s σ H R I h
  refine thn (hl pins s σ H _ I h) fun v s1 ⟨x, H1, I1, r1, q1⟩ => ?_
  obtain ⟨a, e, ⟨xs, hq⟩, q⟩ := q1
  subst e
  cases r1
  obtain ⟨its, rv, p, hz⟩ := I1.list hq
  refine wpAny_pyIter_list p.isList ?_
  refine ⟨s1.heap.objs.size, [s1.heap.objs.size], _, _, H1, rfl, I1.kept (t' := s1.toks) fun b o e => Heap.get?_push_of_some _ e, turn_list a _, ⟨_, Heap.get?_push_size _ rfl, rfl, rfl⟩, fun b hb => ?_, q⟩
  have e : b = s1.heap.objs.size := by simpa using hb
  subst e
  exact I1.fpOk (Nat.le_refl _) (I1.hok.fresh (Nat.le_refl _))
theorem range_it {pins : List (Addr × Obj)} {σ : St} {H : Hp} {s : Shared} {R : It → Hp → Prop} {E : Value → Shared → Prop} {lo hi : Int} {t u v : Tok} {tk : Nat} (I : Inv X pins σ H s) (h1 : -(2 ^ 62) ≤ lo) (h2 : lo < 2 ^ 62) (h3 : -(2 ^ 62) ≤ hi) (h4 : hi < 2 ^ 62)
    (q : R (Itr lo (hi - lo).toNat) H) : wpAny (model X.prog X.w) X.A (pyIter (.ref s.heap.objs.size)) (PIE X pins σ tg R) E { s with heap := s.heap.push { cls := .type "range", data := .fields #[.int lo t, .int hi u, .int 1 v] }, toks := tk } := by
  refine wpAny_pyIter_range (IsRange.new ..) (small_one h1 h2 h3 h4) ?_
  have I1 : Inv X pins σ H { s with heap := s.heap.push { cls := .type "range", data := .fields #[.int lo t, .int hi u, .int 1 v] }, toks := tk } := I.kept fun b o e => Heap.get?_push_of_some _ e
  refine ⟨(s.heap.push { cls := .type "range", data := .fields #[.int lo t, .int hi u, .int 1 v] }).objs.size, [(s.heap.push { cls := .type "range", data := .fields #[.int lo t, .int hi u, .int 1 v] }).objs.size], _, _, H, rfl,
    I1.kept (t' := tk) fun b o e => Heap.get?_push_of_some _ e, turn_range _ lo (hi - lo).toNat, ?_, fun b hb => ?_, q⟩
  · have e1 : lo + ((0 : Nat) : Int) * 1 = lo := by simp
    have e2 : (((hi - lo).toNat : Nat) : Int) - ((0 : Nat) : Int) = Builtin.Range.rangeSize lo hi 1 := by rw [rangeSize_one]; split <;> omega
    show IsRangeIter _ _ (lo + ((0 : Nat) : Int) * 1) ((((hi - lo).toNat : Nat) : Int) - ((0 : Nat) : Int)) 1
    rw [e1, e2]
    exact Heap.get?_push_size _ rfl
  · have e : b = (s.heap.push { cls := .type "range", data := .fields #[.int lo t, .int hi u, .int 1 v] }).objs.size := by simpa using hb
    subst e
    exact I1.fpOk (Nat.le_refl _) (I1.hok.fresh (Nat.le_refl _))
def iRng1 (ta : TA) : TI := fun σ H R => ta σ H fun vs H1 => ∃ j : Int, vs = [.int j] ∧ -(2 ^ 62) ≤ j ∧ j < 2 ^ 62 ∧ R (Itr 0 j.toNat) H1
def iRng2 (ta : TA) : TI := fun σ H R => ta σ H fun vs H1 => ∃ i j : Int, vs = [.int i, .int j] ∧ (-(2 ^ 62) ≤ i ∧ i < 2 ^ 62 ∧ -(2 ^ 62) ≤ j ∧ j < 2 ^ 62) ∧ R (Itr i (j - i).toNat) H1
theorem pi_range1 {a : Expr} {ta : TA} {p pos : Pos} (hg : Gl X "range") (hm : X.mg "range" = none) (ha : PA X [a] ta) (hs : starEach [a] X.env = [(false, eval a X.env)] := by rfl) : PI X tg (.Call (.Name "range" p) [a] [] pos) (iRng1 ta) := by
  intro pins s σ H R I h
  refine Call_ (ld_blt I hg hm boot_range (PyProof.Rows.callWith_type1 (thn (ha pos pins s σ H _ I h) fun us s1 ⟨vs, H1, I1, r1, q1⟩ => ?_) hs rfl))
  obtain ⟨j, e, q1, q2, q⟩ := q1
  subst e
  cases r1 with
  | cons r rr =>
    cases rr
    obtain ⟨t, rfl⟩ := r
    exact call_range_1 (range_it I1 (by omega) (by omega) q1 q2 (by simpa using q))
def tFor (wi : TI) (g : TG) (tb : TS) : TS := fun D σ H => wi σ H fun J H1 => ∃ W : Nat → Nat → St → Hp → Prop, (∃ m, W 0 m σ H1) ∧ ∀ i m σ H, W i m σ H →
  (J.stop i H ∧ D.nx σ H) ∨ (J.go i H ∧ ∃ N : St → Hp → Prop, (∀ σ' H', N σ' H' → ∃ m', m' < m ∧ W (i + 1) m' σ' H') ∧ ∀ x H', J.yld i H x H' → g x σ H' fun σ2 H2 => tb { D with nx := N, ct := N, bk := D.nx } σ2 H2)
def pinsAt (fp : List Addr) (h : Heap) : List (Addr × Obj) := fp.filterMap fun b => (h.get? b).map fun o => (b, o)
theorem mem_pinsAt {fp : List Addr} {h : Heap} {b : Addr} {o : Obj} (hb : b ∈ fp) (e : h.get? b = some o) : (b, o) ∈ pinsAt fp h := List.mem_filterMap.mpr ⟨b, hb, by rw [e]; rfl⟩
theorem of_pinsAt {fp : List Addr} {h : Heap} {p : Addr × Obj} (hp : p ∈ pinsAt fp h) : p.1 ∈ fp ∧ h.get? p.1 = some p.2 := by
  obtain ⟨b, hb, e⟩ := List.mem_filterMap.mp hp
  cases q : h.get? b with
  | none => rw [q] at e; cases e
  | some o =>
    rw [q] at e
    have e' : (b, o) = p := Option.some.inj e
    subst e'
    exact ⟨hb, q⟩
theorem Inv.pinned {pins : List (Addr × Obj)} {σ : St} {H : Hp} {s : Shared} {fp : List Addr} (I : Inv X pins σ H s) (hf : ∀ b ∈ fp, FpOk X pins H b) (ho : ∀ b ∈ fp, ∃ o, s.heap.get? b = some o ∧ ∀ v, o.data ≠ .cell v) : Inv X (pins ++ pinsAt fp s.heap) σ H s :=
  I.pins_of fun p hp => (List.mem_append.mp hp).elim (fun z => I.pin p (List.mem_append_right _ z)) fun z => by
    obtain ⟨hb, e⟩ := of_pinsAt z
    obtain ⟨f0, f1, f2, _⟩ := hf p.1 hb
    obtain ⟨o, e', d⟩ := ho p.1 hb
    rw [e] at e'; cases e'
    exact ⟨e, f0, f1, f2, d⟩
theorem Inv.unpinned {pins pl : List (Addr × Obj)} {σ : St} {H : Hp} {s : Shared} (I : Inv X (pins ++ pl) σ H s) : Inv X pins σ H s := I.pins_of fun p hp => I.pin p (List.mem_append_right _ (List.mem_append_left _ hp))
theorem ps_for {iter : Expr} {body : List Stmt} {wi : TI} {g : TG} {tb : TS} {pos : Pos} (hp : PassesOwn (model X.prog X.w) X.A X.env X.xe) (hc : X.calm = true) (hi : PI X tg iter wi) (hg : PG X tg g) (hb : PSs X body tb)
    (hs : ∀ x, foldedSetIterable iter X.env x = pure x := by intro _; rfl) : PS X (.For tg iter body [] pos) (tFor wi g tb) := by
  intro pins s σ H D I h
  refine wpAny_For (thn (hi pins s σ H _ I h) fun v s1 h1 => thn h1 fun itv s2 h2 => ?_) hs
  obtain ⟨it, fp, tn, J, H2, e, I2, T, st2, f2, W, ⟨m0, w0⟩, turn⟩ := h2
  subst e
  have stat : ∀ {H' : Hp}, (∀ b ∈ fp, H' b = none) → ∀ b ∈ fp, FpOk X pins H' b := fun hn b hb => ⟨hn b hb, (f2 b hb).2⟩
  refine codeAny_forLoop_any (fun n s' => ∃ i σ' H', Inv X pins σ' H' s' ∧ tn i s'.heap ∧ (∀ b ∈ fp, H' b = none) ∧ W i n σ' H') ?_ m0 ⟨0, σ, H2, I2, st2, fun b hb => (f2 b hb).1, w0⟩
  rintro n s3 ⟨i, σ3, H3, I3, st3, fr3, w3⟩
  rcases turn i n σ3 H3 w3 with ⟨stop, qn⟩ | ⟨go, N, hN, step⟩
  · refine wpAny_passesOwn hp (thn (T.done X rfl rfl rfl hc i pins s3 σ3 H3 X.xe I3 (stat fr3) st3 stop) fun r s4 ⟨hr, I4⟩ => ?_)
    subst hr
    exact wpAny_execs_nil ⟨σ3, H3, I4, qn⟩
  · refine wpAny_passesOwn hp (thn (T.item X rfl rfl rfl hc i pins s3 σ3 H3 X.xe I3 (stat fr3) st3 go) fun r s4 ⟨u, hr, h4⟩ => ?_)
    subst hr
    refine wpAny_passesOwn hp (thn h4 fun _ s5 ⟨x, H5, I5, r5, y5, st5, fr5⟩ => ?_)
    have I5' := I5.pinned (stat fr5) (T.obj _ _ st5)
    refine wpAny_passesOwn hp (thn (hg _ s5 σ3 H5 x u _ I5' r5 (step x H5 y5)) fun _ s6 ⟨σ6, H6, I6, q6⟩ => ?_)
    refine wpAny_passesOwn hp (thn (hb _ s6 σ6 H6 _ I6 q6) fun f s7 q7 => ?_)
    have again : ∀ {σ7 : St} {H7 : Hp}, Inv X (pins ++ pinsAt fp s5.heap) σ7 H7 s7 → N σ7 H7 → ∃ m, m < n ∧ ∃ i σ' H', Inv X pins σ' H' s7 ∧ tn i s7.heap ∧ (∀ b ∈ fp, H' b = none) ∧ W i m σ' H' := fun {σ7 H7} I7 n7 => by
      obtain ⟨m', hm, w7⟩ := hN σ7 H7 n7
      refine ⟨m', hm, i + 1, σ7, H7, I7.unpinned, T.keep _ _ _ st5 fun b hb o e => (I7.pin (b, o) (List.mem_append_right _ (List.mem_append_right _ (mem_pinsAt hb e)))).1, fun b hb => ?_, w7⟩
      obtain ⟨o, e, d⟩ := T.obj _ _ st5 b hb
      exact (I7.pin (b, o) (List.mem_append_right _ (List.mem_append_right _ (mem_pinsAt hb e)))).2.1
    cases f with
    | next => obtain ⟨σ7, H7, I7, n7⟩ := q7; exact again I7 n7
    | cont => obtain ⟨σ7, H7, I7, n7⟩ := q7; exact again I7 n7
    | brk => obtain ⟨σ7, H7, I7, q7⟩ := q7; exact ⟨σ7, H7, I7.unpinned, q7⟩
    | ret v => obtain ⟨x7, σ7, H7, I7, r7, q7⟩ := q7; exact ⟨x7, σ7, H7, I7.unpinned, r7, q7⟩
end
theorem for_list {K : PySem.W.Frag} {a : Addr} {xs : List V} {g : TG} {tb : TS} {D : Ends} {σ : St} {H : Hp} (Pv : Nat → St → Hp → Prop) (h0 : Pv 0 σ H) (hl : ∀ i σ H, i ≤ xs.length → Pv i σ H → SqL K H a xs)
    (hs : ∀ i x σ H, xs[i]? = some x → Pv i σ H → g x σ H fun σ2 H2 => tb { D with nx := Pv (i + 1), ct := Pv (i + 1), bk := D.nx } σ2 H2) (hd : ∀ σ H, Pv xs.length σ H → D.nx σ H) :
    ∃ W : Nat → Nat → St → Hp → Prop, (∃ m, W 0 m σ H) ∧ ∀ i m σ H, W i m σ H →
      ((Itl K a).stop i H ∧ D.nx σ H) ∨ ((Itl K a).go i H ∧ ∃ N : St → Hp → Prop, (∀ σ' H', N σ' H' → ∃ m', m' < m ∧ W (i + 1) m' σ' H') ∧ ∀ x H', (Itl K a).yld i H x H' → g x σ H' fun σ2 H2 => tb { D with nx := N, ct := N, bk := D.nx } σ2 H2) := by
  refine ⟨fun i m σ H => m = xs.length - i ∧ i ≤ xs.length ∧ Pv i σ H, ⟨xs.length, by simp, Nat.zero_le _, h0⟩, ?_⟩
  rintro i m σ H ⟨rfl, hi, p⟩
  have q := hl i σ H hi p
  by_cases hlt : i < xs.length
  · refine .inr ⟨⟨xs, xs[i], q, by simp [hlt]⟩, Pv (i + 1), fun σ' H' p' => ⟨xs.length - (i + 1), by omega, rfl, hlt, p'⟩, fun x H' y => ?_⟩
    obtain ⟨e, y⟩ := y
    subst e
    exact hs i x σ _ (y xs q) p
  · have e : i = xs.length := by omega
    subst e
    exact .inl ⟨⟨xs, q, Nat.le_refl _⟩, hd σ H p⟩
theorem for_range {lo : Int} {n : Nat} {g : TG} {tb : TS} {D : Ends} {σ : St} {H : Hp} (Pv : Nat → St → Hp → Prop) (h0 : Pv 0 σ H)
    (hs : ∀ i σ H, i < n → Pv i σ H → g (.int (lo + i)) σ H fun σ2 H2 => tb { D with nx := Pv (i + 1), ct := Pv (i + 1), bk := D.nx } σ2 H2) (hd : ∀ σ H, Pv n σ H → D.nx σ H) :
    ∃ W : Nat → Nat → St → Hp → Prop, (∃ m, W 0 m σ H) ∧ ∀ i m σ H, W i m σ H →
      ((Itr lo n).stop i H ∧ D.nx σ H) ∨ ((Itr lo n).go i H ∧ ∃ N : St → Hp → Prop, (∀ σ' H', N σ' H' → ∃ m', m' < m ∧ W (i + 1) m' σ' H') ∧ ∀ x H', (Itr lo n).yld i H x H' → g x σ H' fun σ2 H2 => tb { D with nx := N, ct := N, bk := D.nx } σ2 H2) := by
  refine ⟨fun i m σ H => m = n - i ∧ i ≤ n ∧ Pv i σ H, ⟨n, by simp, Nat.zero_le _, h0⟩, ?_⟩
  rintro i m σ H ⟨rfl, hi, p⟩
  by_cases hlt : i < n
  · refine .inr ⟨hlt, Pv (i + 1), fun σ' H' p' => ⟨n - (i + 1), by omega, rfl, hlt, p'⟩, fun x H' y => ?_⟩
    obtain ⟨e, y⟩ := y
    subst e y
    exact hs i σ _ hlt p
  · have e : i = n := by omega
    subst e
    exact .inl ⟨Nat.le_refl _, hd σ H p⟩
end L2
namespace L2
open PySem PySem.Spec PyProof.Rows
abbrev R2 := V → V → Hp → VK → Prop
def OpR (X : Cx) (f : Value → Value → Sem Value) (r : R2) : Prop :=
  ∀ (pins : List (Addr × Obj)) (s : Shared) (σ : St) (H : Hp) (x y : V) (v u : Value) (Q : VK), Inv X pins σ H s → RelV x v → RelV y u → r x y H Q →
    wpAny (model X.prog X.w) X.A (f v u) (EP X pins σ Q) X.xe s
def CallR (X : Cx) (f : Value) (r : List V → Hp → VK → Prop) : Prop :=
  ∀ (pins : List (Addr × Obj)) (s : Shared) (σ : St) (H : Hp) (xs : List V) (us : List Value) (Q : VK), Inv X pins σ H s → Vals xs us → r xs H Q →
    wpAny (model X.prog X.w) X.A (call f us) (EP X pins σ Q) X.xe s
def tOp (r : R2) (ta tb : TE) : TE := fun σ H Q => ta σ H fun x H1 => tb σ H1 fun y H2 => r x y H2 Q
def tUn (r : V → Hp → VK → Prop) (ta : TE) : TE := fun σ H Q => ta σ H fun x H1 => r x H1 Q
def rI (C : Int → Int → Prop) (g : Int → Int → V) : R2 := fun x y H Q => ∃ i j, x = .int i ∧ y = .int j ∧ C i j ∧ Q (g i j) H
def rI0 (g : Int → Int → V) : R2 := fun x y H Q => ∃ i j, x = .int i ∧ y = .int j ∧ Q (g i j) H
def rU (g : Int → V) : V → Hp → VK → Prop := fun x H Q => ∃ i, x = .int i ∧ Q (g i) H
section
variable {X : Cx} {a b c : Expr} {ta tb tc : TE} {pos : Pos}
theorem binT (ha : PE X a ta) (hb : PE X b tb) {pins : List (Addr × Obj)} {s : Shared} {σ : St} {H : Hp} {R : V → V → Hp → Prop} (I : Inv X pins σ H s)
    (h : ta σ H fun x H1 => tb σ H1 fun y H2 => R x y H2) {Q : Value → Shared → Prop} {f : Value → Value → Sem Value}
    (hf : ∀ v u s2 x y H2, Inv X pins σ H2 s2 → RelV x v → RelV y u → R x y H2 → wpAny (model X.prog X.w) X.A (f v u) Q X.xe s2) :
    wpAny (model X.prog X.w) X.A (eval a X.env) (fun v s₁ => wpAny (model X.prog X.w) X.A (eval b X.env) (fun u s₂ => wpAny (model X.prog X.w) X.A (f v u) Q X.xe s₂) X.xe s₁) X.xe s := by
  refine thn (ha pins s σ H _ I h) fun v s1 ⟨x, H1, I1, r1, q1⟩ => ?_
  refine thn (hb pins s1 σ H1 _ I1 q1) fun u s2 ⟨y, H2, I2, r2, q2⟩ => ?_
  exact hf v u s2 x y H2 I2 r1 r2 q2
theorem pe_op {op : Operator} {r : R2} (ho : OpR X (binaryOp op) r) (ha : PE X a ta) (hb : PE X b tb) : PE X (.BinOp a op b pos) (tOp r ta tb) := by
  intro pins s σ H Q I h
  exact wpAny_BinOp (binT ha hb I h fun v u s2 x y H2 I2 rx ry q => ho pins s2 σ H2 x y v u Q I2 rx ry q)
theorem opI {f : Value → Value → Sem Value} {C : Int → Int → Prop} {g : Int → Int → Int}
    (rule : ∀ (i j : Int) (t u : Tok) (s : Shared) (Q : Value → Shared → Prop) (E : Value → Shared → Prop), C i j → Q (.int (g i j) s.toks) { s with toks := s.toks + 1 } → wpAny (model X.prog X.w) X.A (f (.int i t) (.int j u)) Q E s) :
    OpR X f (rI C fun i j => .int (g i j)) := by
  intro pins s σ H x y v u Q I rx ry h
  obtain ⟨i, j, rfl, rfl, hc, q⟩ := h
  obtain ⟨t, rfl⟩ := rx
  obtain ⟨t', rfl⟩ := ry
  exact rule i j t t' s _ _ hc ⟨.int (g i j), H, I.tok _, ⟨_, rfl⟩, q⟩
theorem opI0 {f : Value → Value → Sem Value} {g : Int → Int → Int}
    (rule : ∀ (i j : Int) (t u : Tok) (s : Shared) (Q : Value → Shared → Prop) (E : Value → Shared → Prop), Q (.int (g i j) s.toks) { s with toks := s.toks + 1 } → wpAny (model X.prog X.w) X.A (f (.int i t) (.int j u)) Q E s) :
    OpR X f (rI0 fun i j => .int (g i j)) := by
  intro pins s σ H x y v u Q I rx ry h
  obtain ⟨i, j, rfl, rfl, q⟩ := h
  obtain ⟨t, rfl⟩ := rx
  obtain ⟨t', rfl⟩ := ry
  exact rule i j t t' s _ _ ⟨.int (g i j), H, I.tok _, ⟨_, rfl⟩, q⟩
def CPow (i j : Int) : Prop := 0 ≤ j ∧ j ≤ 1000000 ∧ i.natAbs < 2 ^ 64
def CMul (i j : Int) : Prop := (-(2 ^ 64) < i ∧ i < 2 ^ 64) ∨ (-(2 ^ 64) < j ∧ j < 2 ^ 64)
theorem CMul.ok {i j : Int} (h : CMul i j) : IntMulOk i j := by
  rcases h with ⟨h1, h2⟩ | ⟨h1, h2⟩
  · exact .of_left (intBits_le_64 h1 h2)
  · exact .of_right (intBits_le_64 h1 h2)
theorem op_add : OpR X (binaryOp .Add) (rI0 fun i j => .int (i + j)) := opI0 fun _ _ _ _ _ _ _ q => add_int q
theorem op_sub : OpR X (binaryOp .Sub) (rI0 fun i j => .int (i - j)) := opI0 fun _ _ _ _ _ _ _ q => sub_int q
theorem op_mul : OpR X (binaryOp .Mult) (rI CMul fun i j => .int (i * j)) := opI fun _ _ _ _ _ _ _ hc q => mul_int q hc.ok
theorem op_mod : OpR X (binaryOp .Mod) (rI (fun _ j => 0 < j) fun i j => .int (i % j)) := opI fun i j _ _ _ _ _ hc q => by
  have h1 : (0 : Int) < j := hc
  exact mod_int' (by omega) (by rw [Int.fmod_eq_emod_of_nonneg i (by omega)]; exact q)
theorem op_pow : OpR X (binaryOp .Pow) (rI CPow fun i j => .int (i ^ j.toNat)) := opI fun _ _ _ _ _ _ _ hc q => pow_int_small hc.1 hc.2.1 hc.2.2 q
end
def scal : V → V → Bool
  | .non, .non => true | .non, .int _ => true | .int _, .non => true | .non, .bl _ => true | .bl _, .non => true | .non, .str _ => true | .str _, .non => true
  | .int _, .int _ => true | .bl _, .bl _ => true | .str _, .str _ => true | .byt _, .byt _ => true
  | .int _, .str _ => true | .str _, .int _ => true | .bl _, .str _ => true | .str _, .bl _ => true
  | _, _ => false
def rEq : R2 := fun x y H Q => scal x y = true ∧ Q (.bl (decide (x = y))) H
def rNe : R2 := fun x y H Q => scal x y = true ∧ Q (.bl (!decide (x = y))) H
theorem dec_int {i j : Int} : decide (V.int i = V.int j) = (i == j) := by
  rw [Bool.eq_iff_iff]
  simp
theorem dec_bl {i j : Bool} : decide (V.bl i = V.bl j) = (i == j) := by
  rw [Bool.eq_iff_iff]
  simp
theorem dec_str {i j : Str} : decide (V.str i = V.str j) = (i == j) := by
  rw [Bool.eq_iff_iff]
  simp
theorem dec_byt {i j : Array UInt8} : decide (V.byt i = V.byt j) = (i.toList == j.toList) := by
  rw [Bool.eq_iff_iff]
  cases i
  cases j
  simp
section
variable {X : Cx} {a b c : Expr} {ta tb tc : TE} {pos : Pos}
theorem fin_bl {pins : List (Addr × Obj)} {σ : St} {H : Hp} {s : Shared} {Q : VK} {k k' : Bool} (I : Inv X pins σ H s) (q : Q (.bl k) H) (e : k = k') : EP X pins σ Q (.bool k') s := by
  subst e
  exact ⟨.bl k, H, I, rfl, q⟩
theorem op_eq : OpR X (compareOp .Eq) rEq := by
  intro pins s σ H x y v u Q I rx ry h
  obtain ⟨hs, q⟩ := h
  cases x with
  | non =>
    cases rx
    cases y with
    | non => cases ry; exact PySem.EqNone.eq_none_none (fin_bl I q (by simp))
    | bl j => cases ry; exact PySem.EqNone.eq_none_bool (fin_bl I q (by simp))
    | int j => obtain ⟨t', rfl⟩ := ry; exact PySem.EqNone.eq_none_int (fin_bl I q (by simp))
    | str j => obtain ⟨t', rfl⟩ := ry; exact PySem.EqNone.eq_none_str (fin_bl I q (by simp))
    | _ => exact absurd (show false = true from hs) Bool.false_ne_true
  | bl i =>
    cases rx
    cases y with
    | non => cases ry; exact PySem.EqNone.eq_bool_none (fin_bl I q (by simp))
    | bl j => cases ry; exact eq_bool (fin_bl I q dec_bl)
    | str j => obtain ⟨t', rfl⟩ := ry; exact PySem.EqMixed.eq_bool_str (fin_bl I q (by simp))
    | _ => exact absurd (show false = true from hs) Bool.false_ne_true
  | int i =>
    obtain ⟨t, rfl⟩ := rx
    cases y with
    | non => cases ry; exact PySem.EqNone.eq_int_none (fin_bl I q (by simp))
    | int j => obtain ⟨t', rfl⟩ := ry; exact eq_int (fin_bl I q dec_int)
    | str j => obtain ⟨t', rfl⟩ := ry; exact PySem.EqMixed.eq_int_str (fin_bl I q (by simp))
    | _ => exact absurd (show false = true from hs) Bool.false_ne_true
  | str i =>
    obtain ⟨t, rfl⟩ := rx
    cases y with
    | non => cases ry; exact PySem.EqNone.eq_str_none (fin_bl I q (by simp))
    | bl j => cases ry; exact PySem.EqMixed.eq_str_bool (fin_bl I q (by simp))
    | int j => obtain ⟨t', rfl⟩ := ry; exact PySem.EqMixed.eq_str_int (fin_bl I q (by simp))
    | str j => obtain ⟨t', rfl⟩ := ry; exact eq_str (fin_bl I q dec_str)
    | _ => exact absurd (show false = true from hs) Bool.false_ne_true
  | byt i =>
    obtain ⟨t, rfl⟩ := rx
    cases y with
    | byt j => obtain ⟨t', rfl⟩ := ry; exact PySem.W.eq_bytes (fin_bl I q dec_byt)
    | _ => exact absurd (show false = true from hs) Bool.false_ne_true
  | _ => cases y <;> exact absurd (show false = true from hs) Bool.false_ne_true
theorem op_ne : OpR X (compareOp .NotEq) rNe := by
  intro pins s σ H x y v u Q I rx ry h
  obtain ⟨hs, q⟩ := h
  cases x with
  | non =>
    cases rx
    cases y with
    | non => cases ry; exact PySem.EqNone.ne_none_none (fin_bl I q (by simp))
    | bl j => cases ry; exact PySem.EqNone.ne_none_bool (fin_bl I q (by simp))
    | int j => obtain ⟨t', rfl⟩ := ry; exact PySem.EqNone.ne_none_int (fin_bl I q (by simp))
    | str j => obtain ⟨t', rfl⟩ := ry; exact PySem.EqNone.ne_none_str (fin_bl I q (by simp))
    | _ => exact absurd (show false = true from hs) Bool.false_ne_true
  | bl i =>
    cases rx
    cases y with
    | non => cases ry; exact PySem.EqNone.ne_bool_none (fin_bl I q (by simp))
    | bl j => cases ry; exact ne_bool (fin_bl I q (congrArg not dec_bl))
    | str j => obtain ⟨t', rfl⟩ := ry; exact PySem.EqMixed.ne_bool_str (fin_bl I q (by simp))
    | _ => exact absurd (show false = true from hs) Bool.false_ne_true
  | int i =>
    obtain ⟨t, rfl⟩ := rx
    cases y with
    | non => cases ry; exact PySem.EqNone.ne_int_none (fin_bl I q (by simp))
    | int j => obtain ⟨t', rfl⟩ := ry; exact ne_int (fin_bl I q (congrArg not dec_int))
    | str j => obtain ⟨t', rfl⟩ := ry; exact PySem.EqMixed.ne_int_str (fin_bl I q (by simp))
    | _ => exact absurd (show false = true from hs) Bool.false_ne_true
  | str i =>
    obtain ⟨t, rfl⟩ := rx
    cases y with
    | non => cases ry; exact PySem.EqNone.ne_str_none (fin_bl I q (by simp))
    | bl j => cases ry; exact PySem.EqMixed.ne_str_bool (fin_bl I q (by simp))
    | int j => obtain ⟨t', rfl⟩ := ry; exact PySem.EqMixed.ne_str_int (fin_bl I q (by simp))
    | str j => obtain ⟨t', rfl⟩ := ry; exact ne_str (fin_bl I q (congrArg not dec_str))
    | _ => exact absurd (show false = true from hs) Bool.false_ne_true
  | byt i =>
    obtain ⟨t, rfl⟩ := rx
    cases y with
    | byt j => obtain ⟨t', rfl⟩ := ry; exact PySem.W.ne_bytes (fin_bl I q (congrArg not dec_byt))
    | _ => exact absurd (show false = true from hs) Bool.false_ne_true
  | _ => cases y <;> exact absurd (show false = true from hs) Bool.false_ne_true
theorem op_isN : OpR X (compareOp .Is) (fun x y H Q => y = .non ∧ Q (.bl (decide (x = .non))) H) := by
  intro pins s σ H x y v u Q I rx ry h
  obtain ⟨rfl, q⟩ := h
  cases ry
  refine is_none_gen (fin_bl I q ?_)
  cases x <;> first
    | (cases rx; rfl)
    | (obtain ⟨t, rfl⟩ := rx; rfl)
theorem nomark (b : Expr) {op : CmpOp} (h : op ≠ .In := by decide) (h2 : op ≠ .NotIn := by decide) : behindInMarks op b = false := by
  have e1 : (op == CmpOp.In) = false := by cases op <;> first | rfl | exact absurd rfl h
  have e2 : (op == CmpOp.NotIn) = false := by cases op <;> first | rfl | exact absurd rfl h2
  cases b <;> simp [behindInMarks, e1, e2]
theorem pe_cmpR {op : CmpOp} {r : R2} (ho : OpR X (compareOp op) r) (ha : PE X a ta) (hb : PE X b tb) (hm : behindInMarks op b = false) : PE X (.Compare a [op] [b] pos) (tOp r ta tb) := by
  intro pins s σ H Q I h
  exact wpAny_Compare1 (binT ha hb I h fun v u s2 x y H2 I2 rx ry q => ho pins s2 σ H2 x y v u Q I2 rx ry q) hm
def tTest (t : TE) : TT := fun σ H Q => t σ H fun x H' => ∃ k, x = .bl k ∧ Q k H'
theorem pt_cmpR {op : CmpOp} {r : R2} (ho : OpR X (compareOp op) r) (ha : PE X a ta) (hb : PE X b tb) (hm : behindInMarks op b = false) : PT X (.Compare a [op] [b] pos) (tTest (tOp r ta tb)) := by
  intro pins s σ H Q I h
  refine wpAny_isTrue_Compare1 (thn (ha pins s σ H _ I h) fun v s1 ⟨x, H1, I1, r1, q1⟩ => thn (hb pins s1 σ H1 _ I1 q1) fun u s2 ⟨y, H2, I2, r2, q2⟩ =>
    thn (ho pins s2 σ H2 x y v u _ I2 r1 r2 q2) fun c s3 ⟨z, H3, I3, r3, k, e, q3⟩ => ?_) hm
  subst e
  cases r3
  exact wpAny_truthy_bool ⟨H3, I3, q3⟩
theorem line63 : (sizeLine : Nat) < 2 ^ 63 := by rw [sizeLine_eq]; decide
theorem vals1 {x : V} {us : List Value} (r : Vals [x] us) : ∃ u, us = [u] ∧ RelV x u := by
  cases r with
  | cons r1 r2 => cases r2; exact ⟨_, rfl, r1⟩
theorem vals2 {x y : V} {us : List Value} (r : Vals [x, y] us) : ∃ u w', us = [u, w'] ∧ RelV x u ∧ RelV y w' := by
  cases r with
  | cons r1 r2 =>
    cases r2 with
    | cons r3 r4 => cases r4; exact ⟨_, _, rfl, r1, r3⟩
theorem call_abs : CallR X (.builtin "abs") (fun xs H Q => ∃ i, xs = [.int i] ∧ Q (.int (if i < 0 then -i else i)) H) := by
  intro pins s σ H xs us Q I r h
  obtain ⟨i, rfl, q⟩ := h
  obtain ⟨u, rfl, t, rfl⟩ := vals1 r
  exact call_abs_int fun u tk => ⟨.int (if i < 0 then -i else i), H, I.tok _, ⟨_, rfl⟩, q⟩
end
end L2
namespace L2
open PySem PySem.Spec PyProof.Rows
structure ObjM (h : Heap) (x dx C : Addr) (mA : Str → Option Value) : Prop where
  obj : h.get? x = some (PySem.W.instObj C dx)
  ns : h.Ns1 dx mA
  ne : dx ≠ x
theorem lookIn_ns {h : Heap} {dx : Addr} {mA : Str → Option Value} (n : h.Ns1 dx mA) : ∃ od, h.get? dx = some od ∧ ∀ name, PySem.W.lookIn name od = some (mA name) := by
  obtain ⟨o, es, ep, ho, hd, hk, _, hm⟩ := n
  refine ⟨o, ho, fun name => ?_⟩
  have e := hm name
  unfold nsFind findBy at e
  rw [← Array.find?_toList] at e
  unfold PySem.W.lookIn
  rw [hd]
  dsimp only
  split
  · rename_i y q
    rw [q] at e
    exact congrArg some e
  · rename_i q
    rw [q] at e
    have a : es.toList.any (·.refKey) = false := by
      rw [List.any_eq_false]
      intro y hy
      obtain ⟨z, t, hkey⟩ := hk y (Array.mem_toList_iff.mp hy)
      simp [DictEntry.refKey, hkey]
    have a' : ¬ es.toList.any (·.refKey) = true := by rw [a]; exact Bool.false_ne_true
    rw [if_neg a']
    exact congrArg some e
theorem ObjM.look {h : Heap} {x dx C : Addr} {mA : Str → Option Value} (I : ObjM h x dx C mA) : ∃ od, PySem.W.InstAt h x (PySem.W.instObj C dx) C (some od) ∧ ∀ name, PySem.W.lookIn name od = some (mA name) :=
  let ⟨od, ho, hl⟩ := lookIn_ns I.ns
  ⟨od, ⟨I.obj, rfl, rfl, ho⟩, hl⟩
section
variable {prog : Program} {w : World} {A : Around} {E : Value → Shared → Prop} {s : Shared} {K : PySem.W.Frag} {x dx C f : Addr} {mA : Str → Option Value} {name : Str} {v : Value}
theorem get_map {expr : Bool} {Q : Value → Shared → Prop} (X : K.In s.heap) (I : ObjM s.heap x dx C mA) (hg : PySem.W.plainGet K C name = true) (hh : PySem.W.hasDictIn K C = true)
    (ha : PySem.W.findIn K (.ref C) name = some none) (hv : mA name = some v) (hv' : PySem.W.handedIn v = true) (h : Q v { s with toks := s.toks + 1 }) :
    wpAny (model prog w) A (getAttr (.ref x) name expr) Q E s := by
  obtain ⟨od, J, hl⟩ := I.look
  exact PySem.W.get_value X J (PySem.W.plainGet_of hg).1 (PySem.W.findObj_own hh ha rfl (by rw [hl, hv])) hv' h
theorem get_meth {pl : Sem Bool} {Q : Value × List Value → Shared → Prop} (X : K.In s.heap) (I : ObjM s.heap x dx C mA) (hg : PySem.W.plainGet K C name = true)
    (hf : PySem.W.findIn K (.ref C) name = some (some (.ref f))) (ht : PySem.W.isFn K (.ref f) = true) (hv : mA name = none) (h : Q (.ref f, [.ref x]) s) :
    wpAny (model prog w) A (getMethod (.ref x) name pl) Q E s := by
  obtain ⟨od, J, hl⟩ := I.look
  exact PySem.W.method_fn X J (PySem.W.plainGet_of hg).1 (PySem.W.plainGet_of hg).2 hf (beq_iff_eq.mp ht) (by show (PySem.W.lookIn name od).map (·.isSome) = some false; rw [hl, hv]; rfl) h
theorem set_map {ns : List Str} {Q : Unit → Shared → Prop} (X : K.In s.heap) (I : ObjM s.heap x dx C mA)
    (hs : PySem.W.findIn K (.ref C) "__setattr__" = some (some (.builtin "object.__setattr__"))) (hp : PySem.W.plainOver K C = true) (ht : PySem.W.takerIn K C name = some none) (hh : PySem.W.hasDictIn K C = true)
    (hw : PySem.Within mA ns) (hsz : ns.length ≤ sizeLine)
    (h : ∀ h', ObjM h' x dx C (fun y => if y = name then some v else mA y) → Heap.SameBut dx s.heap h' → Q () { s with heap := h', toks := s.toks + 2 }) :
    wpAny (model prog w) A (setAttr (.ref x) name v) Q E s := by
  obtain ⟨od, J, hl⟩ := I.look
  refine PySem.W.set_plain X J hs (PySem.W.osa_open (s := { s with toks := s.toks + 1 }) (r := none) X J hp ht fun b => ?_)
  obtain ⟨cd, hc, hd'⟩ := PySem.W.any_some hh
  have hx : s.heap.get? x = some ⟨.ref C, some dx, .plain, #[]⟩ := I.obj
  refine wpAny_bind (wpAny_pure (wpAny_bind (wpAny_bind (wpAny_loadPart hx (wpAny_bind (PySem.W.Looks.here (s := { s with toks := s.toks + 1 }) (PySem.W.looks_clsIn X hc) ?_))))))
  rw [hd']
  refine wpAny_pure (a := some dx) (wpAny_bind (wpAny_pure (wpAny_bind ?_)))
  refine wpAny_nsSet1 (s := { s with toks := s.toks + 1 }) I.ns fun h' hn2 hs2 => ?_
  obtain ⟨oD, esD, epD, hoD, hdD, hcD⟩ := hn2.count (PySem.Within.cons name v hw)
  refine wpAny_bind (wpAny_lookBehind hoD (by rw [hdD]; exact pastItsLine_dict (Nat.le_trans hcD (by rw [List.length_cons]; omega))) ?_)
  exact wpAny_pure (h _ ⟨(hs2.2 _ (Ne.symm I.ne)).trans I.obj, hn2, I.ne⟩ hs2)
theorem make_map {R : Result → Shared → Prop} {vs : List Value} {kw : List (Str × Value)} (X : K.In s.heap) (hm : PySem.W.makesIn K C = true)
    (hi : PySem.W.findIn K (.ref C) "__init__" = some (some (.ref f))) (hf : PySem.W.typeIn K (.ref f) = some (.type "function"))
    (h : codeAny (model prog w) (A.under (.builtin "type.__call__" ⟨.ref C :: vs, kw⟩)) (.call (.ref f) ⟨.ref (s.heap.objs.size + 1) :: vs, kw⟩) (PySem.W.InitBack (s.heap.objs.size + 1) R)
      { s with heap := (s.heap.push PySem.W.emptyDict).push (PySem.W.instObj C s.heap.objs.size) }) :
    codeAny (model prog w) A (.call (.ref C) ⟨vs, kw⟩) R s := by
  obtain ⟨hh, g, d, t, os⟩ := s
  exact PySem.W.make_core (PySem.W.makes_of X hm) (PySem.W.looks_findIn X hi) (fun self => PySem.W.bind_fn X self hf) (.inl rfl) h
end
def putF (f : Str) (v : V) : List (Str × V) → List (Str × V)
  | [] => [(f, v)]
  | (g, x) :: r => if g = f then (g, v) :: r else (g, x) :: putF f v r
theorem lookup_putF (f g : Str) (v : V) : ∀ fs : List (Str × V), (putF f v fs).lookup g = if g = f then some v else fs.lookup g
  | [] => by
    show List.lookup g [(f, v)] = _
    by_cases h : g = f
    · have hb : (g == f) = true := beq_iff_eq.mpr h
      simp only [List.lookup, hb, if_pos h]
    · have hb : (g == f) = false := beq_eq_false_iff_ne.mpr h
      simp only [List.lookup, hb, if_neg h]
  | (k, x) :: r => by
    have ih := lookup_putF f g v r
    rw [show putF f v ((k, x) :: r) = (if k = f then (k, v) :: r else (k, x) :: putF f v r) from rfl]
    by_cases hk : k = f
    · rw [if_pos hk]
      by_cases h : g = k
      · have hb : (g == k) = true := beq_iff_eq.mpr h
        simp only [List.lookup, hb, if_pos (h.trans hk)]
      · have hb : (g == k) = false := beq_eq_false_iff_ne.mpr h
        simp only [List.lookup, hb, if_neg (fun e : g = f => h (e.trans hk.symm))]
    · rw [if_neg hk]
      by_cases h : g = k
      · have hb : (g == k) = true := beq_iff_eq.mpr h
        simp only [List.lookup, hb, if_neg (fun e : g = f => hk (h.symm.trans e))]
      · have hb : (g == k) = false := beq_eq_false_iff_ne.mpr h
        simp only [List.lookup, hb]
        exact ih
theorem keys_putF (f : Str) (v : V) : ∀ fs : List (Str × V), f ∈ (putF f v fs).map (·.1) ∧ ∀ g, g ∈ fs.map (·.1) → g ∈ (putF f v fs).map (·.1)
  | [] => ⟨by simp [putF], fun g h => by simp at h⟩
  | (k, x) :: r => by
    obtain ⟨i1, i2⟩ := keys_putF f v r
    rw [show putF f v ((k, x) :: r) = (if k = f then (k, v) :: r else (k, x) :: putF f v r) from rfl]
    by_cases hk : k = f
    · rw [if_pos hk]
      subst hk
      exact ⟨by simp, fun g h => by simpa using h⟩
    · rw [if_neg hk]
      refine ⟨?_, fun g h => ?_⟩
      · rw [List.map_cons]
        exact List.mem_cons_of_mem _ i1
      · rw [List.map_cons] at h ⊢
        rcases List.mem_cons.mp h with e | e
        · exact List.mem_cons.mpr (.inl e)
        · exact List.mem_cons_of_mem _ (i2 g e)
theorem length_putF (f : Str) (v : V) : ∀ fs : List (Str × V), (putF f v fs).length ≤ fs.length + 1
  | [] => by simp [putF]
  | (k, x) :: r => by
    have ih := length_putF f v r
    rw [show putF f v ((k, x) :: r) = (if k = f then (k, v) :: r else (k, x) :: putF f v r) from rfl]
    by_cases hk : k = f
    · rw [if_pos hk, List.length_cons, List.length_cons]; omega
    · rw [if_neg hk, List.length_cons, List.length_cons]; omega
theorem RelO.some_of {v : V} {o : Option Value} (r : RelO (some v) o) : ∃ u, o = some u ∧ RelV v u := by
  cases o with
  | none => exact (show False from r).elim
  | some u => exact ⟨u, rfl, r⟩
theorem RelO.none_of {o : Option Value} (r : RelO none o) : o = none := by
  cases o with
  | none => rfl
  | some u => exact (show False from r).elim
theorem handed_of {v : V} {u : Value} (r : RelV v u) : PySem.W.handedIn u = true := by
  cases v with
  | non => cases (show u = Value.none from r); rfl
  | bl b => cases (show u = Value.bool b from r); rfl
  | int i => obtain ⟨t, e⟩ := (show ∃ t, u = Value.int i t from r); cases e; rfl
  | str x => obtain ⟨t, e⟩ := (show ∃ t, u = Value.str x t from r); cases e; rfl
  | byt b => obtain ⟨t, e⟩ := (show ∃ t, u = Value.bytes b t from r); cases e; rfl
  | flt b => obtain ⟨t, e⟩ := (show ∃ t, u = Value.float b t from r); cases e; rfl
  | ref a => cases (show u = Value.ref a from r); rfl
  | ty n => cases (show u = Value.type n from r); rfl
section
variable {P : Program} {w : World} {H H' : Hp} {h h' : Heap} {a C dx : Addr} {fs fs' : List (Str × V)}
theorem ins_get (hok : HOk P w H h) (e : H a = some (.ins C dx fs)) : ∃ mA, ObjM h a dx C mA ∧ (∀ f, RelO (fs.lookup f) (mA f)) ∧ PySem.Within mA (fs.map (·.1)) ∧ fs.length ≤ 1000 ∧ H dx = some (.own a) := by
  obtain ⟨d, z, ne, ob, mA, n, r, q⟩ := (show ObjOk P w H h a (.ins C dx fs) from hok a _ e)
  exact ⟨mA, ⟨ob, n, ne⟩, r, q, z, d⟩
end
structure Cls (K : PySem.W.Frag) (C : Addr) : Prop where
  pg : PySem.W.plainGet K C Str.empty = true
  hd : PySem.W.hasDictIn K C = true
  po : PySem.W.plainOver K C = true
  sa : PySem.W.findIn K (.ref C) "__setattr__" = some (some (.builtin "object.__setattr__"))
theorem Cls.get {K : PySem.W.Frag} {C : Addr} (c : Cls K C) (f : Str) : PySem.W.plainGet K C f = true := c.pg
def NoAttr (K : PySem.W.Frag) (C : Addr) (f : Str) : Prop := PySem.W.findIn K (.ref C) f = some none
theorem NoAttr.taker {K : PySem.W.Frag} {C : Addr} {f : Str} (n : NoAttr K C f) : PySem.W.takerIn K C f = some none := by
  unfold PySem.W.takerIn
  rw [show PySem.W.findIn K (.ref C) f = some none from n]
  rfl
structure Con (K : PySem.W.Frag) (C : Addr) (f : Str) (v : V) (u : Value) : Prop where
  at_ : PySem.W.findIn K (.ref C) f = some (some u)
  rel : RelV v u
  get : PySem.W.specialIn K u "__get__" = some none
  cp : PySem.W.copiedNames.contains f = false
structure Meth (K : PySem.W.Frag) (C : Addr) (m : Str) (f : Addr) : Prop where
  at_ : PySem.W.findIn K (.ref C) m = some (some (.ref f))
  fn : PySem.W.isFn K (.ref f) = true
  kp : PySem.W.keepIn K (.ref f) = true
section
variable {X : Cx} {pins : List (Addr × Obj)} {σ : St} {H : Hp} {s : Shared} {a C dx : Addr} {fs : List (Str × V)} {f : Str} {v : V} {A : Around} {E : Value → Shared → Prop}
theorem getattr_ok {b : Bool} {Q : Value → Shared → Prop} (I : Inv X pins σ H s) (e : H a = some (.ins C dx fs)) (c : Cls X.K C) (n : NoAttr X.K C f) (l : fs.lookup f = some v)
    (h : ∀ u s', Inv X pins σ H s' → RelV v u → Q u s') : wpAny (model X.prog X.w) A (getAttr (.ref a) f b) Q E s := by
  obtain ⟨mA, O, r, _, _, _⟩ := ins_get I.hok e
  obtain ⟨u, hu, ru⟩ := RelO.some_of (v := v) (o := mA f) (by rw [← l]; exact r f)
  exact get_map I.kIn O (c.get f) c.hd n hu (handed_of ru) (h u _ (I.tok _) ru)
theorem getmeth_ok {m : Str} {g : Addr} {pl : Sem Bool} {Q : Value × List Value → Shared → Prop} (I : Inv X pins σ H s) (e : H a = some (.ins C dx fs)) (c : Cls X.K C) (k : Meth X.K C m g) (l : fs.lookup m = none)
    (h : Q (.ref g, [.ref a]) s) : wpAny (model X.prog X.w) A (getMethod (.ref a) m pl) Q E s := by
  obtain ⟨mA, O, r, _, _, _⟩ := ins_get I.hok e
  have hn : mA m = none := RelO.none_of (by rw [← l]; exact r m)
  exact get_meth I.kIn O (c.get m) k.at_ k.fn hn h
theorem setattr_ok {y : V} {u : Value} {Q : Unit → Shared → Prop} (I : Inv X pins σ H s) (e : H a = some (.ins C dx fs)) (c : Cls X.K C) (n : NoAttr X.K C f) (hl : fs.length < 1000) (ry : RelV y u)
    (h : ∀ s', Inv X pins σ (upd H a (.ins C dx (putF f y fs))) s' → Q () s') : wpAny (model X.prog X.w) A (setAttr (.ref a) f u) Q E s := by
  obtain ⟨mA, O, r, wi, _, ho⟩ := ins_get I.hok e
  have hz : (fs.map (·.1)).length ≤ sizeLine := by rw [List.length_map, sizeLine_eq]; omega
  refine set_map I.kIn O c.sa c.po n.taker c.hd wi hz fun h' O' sb => h _ ?_
  have hd : ∃ o, h'.get? dx = some o := let ⟨o, _, _, e', _⟩ := O'.ns; ⟨o, e'⟩
  refine I.write (x := a) (e := dx) (by rw [e]; exact True.intro) (.inr ho) (fun b q hb z => (sb.2 b hb).trans z) hd ?_
  refine ⟨by rw [upd_ne O.ne]; exact ho, ?_, O.ne, O'.obj, _, O'.ns, fun g => ?_, fun g hg => ?_⟩
  · have := length_putF f y fs; omega
  · show RelO ((putF f y fs).lookup g) (if g = f then some u else mA g)
    rw [lookup_putF]
    by_cases q : g = f
    · rw [if_pos q, if_pos q]; exact ry
    · rw [if_neg q, if_neg q]; exact r g
  · by_cases q : g = f
    · rw [q]; exact (keys_putF f y fs).1
    · refine (keys_putF f y fs).2 g (wi g fun z => hg ?_)
      show (if g = f then some u else mA g) = none
      rw [if_neg q]; exact z
theorem Inv.made (I : Inv X pins σ H s) : Inv X pins σ (upd (upd H s.heap.objs.size (.own (s.heap.objs.size + 1))) (s.heap.objs.size + 1) (.ins C s.heap.objs.size []))
    { s with heap := (s.heap.push PySem.W.emptyDict).push (PySem.W.instObj C s.heap.objs.size) } := by
  have e1 : (s.heap.push PySem.W.emptyDict).get? s.heap.objs.size = some PySem.W.emptyDict := Heap.get?_push_size s.heap rfl
  have e2 : ((s.heap.push PySem.W.emptyDict).push (PySem.W.instObj C s.heap.objs.size)).get? (s.heap.objs.size + 1) = some (PySem.W.instObj C s.heap.objs.size) := by
    have := Heap.get?_push_size (s.heap.push PySem.W.emptyDict) (o := PySem.W.instObj C s.heap.objs.size) rfl
    rwa [Heap.size_push] at this
  have e3 : (s.heap.push PySem.W.emptyDict).Ns s.heap.objs.size (fun _ => none) := ⟨PySem.W.emptyDict, #[], _, e1, rfl, (fun e he => absurd he (by simp)), fun _ => rfl⟩
  have I1 := I.laid (a := s.heap.objs.size) (o := .own (s.heap.objs.size + 1)) (h' := s.heap.push PySem.W.emptyDict) (t' := s.toks) (fun b u q => Heap.get?_push_of_some _ q) (Nat.le_refl _) ⟨_, e1⟩
  refine I1.laid (a := s.heap.objs.size + 1) (o := .ins C s.heap.objs.size []) (t' := s.toks) (fun b u q => Heap.get?_push_of_some _ q) (Nat.le_of_eq (Heap.size_push _ _)) ?_
  have ne : s.heap.objs.size ≠ s.heap.objs.size + 1 := Nat.ne_of_lt (Nat.lt_succ_self _)
  refine ⟨by rw [upd_ne ne, upd_same], Nat.zero_le _, ne, e2, fun _ => none, (Heap.Ns1.of_empty e3).at fun o q => Heap.get?_push_of_some _ q, fun _ => True.intro, fun y hy => absurd rfl hy⟩
theorem attr_of {prog : Program} {w : World} {env : Env} {e : Expr} {f : Str} {pos : Pos} {s : Shared} {Q : Value → Shared → Prop} (hb : attributeBase e f env (eval e env) = eval e env)
    (h : wpAny (model prog w) A (eval e env) (fun o s₁ => wpAny (model prog w) A (getAttr o f true) Q E s₁) E s) : wpAny (model prog w) A (eval (.Attribute e f pos) env) Q E s :=
  Attribute_any_ h (by rw [arm_eval_Attribute, hb])
end
def tFld (K : PySem.W.Frag) (ta : TE) (f : Str) : TE := fun σ H Q => ta σ H fun x H1 => ∃ a C dx fs v, x = .ref a ∧ H1 a = some (.ins C dx fs) ∧ Cls K C ∧ NoAttr K C f ∧ fs.lookup f = some v ∧ Q v H1
def sFld (K : PySem.W.Frag) (ta tv : TE) (f : Str) : TS := fun D σ H => tv σ H fun y H1 => ta σ H1 fun x H2 => ∃ a C dx fs, x = .ref a ∧ H2 a = some (.ins C dx fs) ∧ Cls K C ∧ NoAttr K C f ∧ fs.length < 1000 ∧
  D.nx σ (upd H2 a (.ins C dx (putF f y fs)))
section
variable {X : Cx} {o e value : Expr} {f : Str} {pos pos' tpos : Pos} {ta tv : TE}
theorem pe_fld (he : PE X e ta) (hb : attributeBase e f X.env (eval e X.env) = eval e X.env) : PE X (.Attribute e f pos) (tFld X.K ta f) := by
  intro pins s σ H Q I h
  refine attr_of hb (thn (he pins s σ H _ I h) fun u s1 ⟨x, H1, I1, rx, a, C, dx, fs, v, ex, ea, c, n, l, q⟩ => ?_)
  subst ex
  obtain rfl : u = Value.ref a := rx
  exact getattr_ok I1 ea c n l fun u' s2 I2 ru => ⟨v, H1, I2, ru, q⟩
theorem ps_fld (ha : PE X o ta) (hv : PE X value tv) (hs : swapsWith value (some (.Attribute o f pos')) pos.line X.env = pure false) : PS X (.Assign [.Attribute o f pos'] value pos) (sFld X.K ta tv f) := by
  intro pins s σ H D I h
  refine plainObj_wpAny_Assign_Attribute (thn (hv pins s σ H _ I h) fun u s1 ⟨y, H1, I1, ry, q⟩ => thn (ha pins s1 σ H1 _ I1 q) fun ov s2 ⟨x, H2, I2, rx, a, C, dx, fs, ex, ea, c, n, l, q2⟩ => ?_) hs
  subst ex
  obtain rfl : ov = Value.ref a := rx
  exact setattr_ok I2 ea c n l ry fun s3 I3 => ⟨σ, _, I3, q2⟩
end
section
variable {X : Cx} {pins : List (Addr × Obj)} {σ : St} {H : Hp} {s : Shared} {A : Around} {E : Value → Shared → Prop} {Q : Value → Shared → Prop} {c : Value} {b : Bool}
inductive TyOf (K : PySem.W.Frag) (H : Hp) : V → Value → Prop where
  | non : TyOf K H .non (.type "NoneType")
  | bl (x : Bool) : TyOf K H (.bl x) (.type "bool")
  | int (i : Int) : TyOf K H (.int i) (.type "int")
  | str (x : Str) : TyOf K H (.str x) (.type "str")
  | flt (x : UInt64) : TyOf K H (.flt x) (.type "float")
  | lst {a : Addr} {xs : List V} (e : H a = some (.lst xs)) : TyOf K H (.ref a) (.type "list")
  | frz {a : Addr} {o : Obj} {xs : List V} (e : H a = some (.frz o (.lst xs))) : TyOf K H (.ref a) (.type "list")
  | tup {a : Addr} {xs : List V} (e : H a = some (.tup xs)) : TyOf K H (.ref a) (.type "tuple")
  | dK {a : Addr} {kvs : List (Key × V)} (e : H a = some (.dK kvs)) : TyOf K H (.ref a) (.type "dict")
  | dT {a : Addr} {kvs : List (List Key × V)} (e : H a = some (.dT kvs)) : TyOf K H (.ref a) (.type "dict")
  | ins {a C dx : Addr} {fs : List (Str × V)} (e : H a = some (.ins C dx fs)) (cl : Cls K C) (ha : PySem.W.findIn K (.ref C) "__class__" = some (some (.builtin "object.__class__")))
      (hn : PySem.W.specialIn K (.builtin "object.__class__") "__get__" = some (some (.builtin "getset_descriptor.__get__"))) (htk : PySem.W.takesIn K (.builtin "object.__class__") = some true)
      (hm : PySem.W.mroIn K C (.type "object") = some true) : TyOf K H (.ref a) (.ref C)
theorem isinst_ok {x : V} {u t : Value} (I : Inv X pins σ H s) (rx : RelV x u) (ty : TyOf X.K H x t) (e : PySem.W.kitOne X.K t c = some b) (h : ∀ tk, Q (.bool b) { s with toks := tk }) :
    wpAny (model X.prog X.w) A (call (.builtin "isinstance") [u, c]) Q E s := by
  cases ty with
  | non => cases (show u = Value.none from rx); exact PySem.W.kia_one PySem.W.kitx_none I.kIn True.intro e (fun z => nomatch z) h
  | bl y => cases (show u = Value.bool y from rx); exact PySem.W.kia_one PySem.W.kitx_bool I.kIn True.intro e (fun z => nomatch z) h
  | int i => obtain ⟨t, q⟩ := (show ∃ t, u = Value.int i t from rx); cases q; exact PySem.W.kia_one PySem.W.kitx_int I.kIn True.intro e (fun z => nomatch z) h
  | str y => obtain ⟨t, q⟩ := (show ∃ t, u = Value.str y t from rx); cases q; exact PySem.W.kia_one PySem.W.kitx_str I.kIn True.intro e (fun z => nomatch z) h
  | flt y => obtain ⟨t, q⟩ := (show ∃ t, u = Value.float y t from rx); cases q; exact PySem.W.kia_one PySem.W.kitx_float I.kIn True.intro e (fun z => nomatch z) h
  | @lst a xs ea =>
    cases (show u = Value.ref a from rx)
    obtain ⟨_, _, n, _, h1⟩ := (show ObjOk X.prog X.w H s.heap a (.lst xs) from I.hok a _ ea)
    exact PySem.W.kia_one PySem.W.kitx_list I.kIn ⟨_, h1, rfl⟩ e (fun z => nomatch z) h
  | @frz a ob xs ea =>
    cases (show u = Value.ref a from rx)
    obtain ⟨_, _, _, n, _, h1⟩ := (show ObjOk X.prog X.w H s.heap a (.frz ob (.lst xs)) from I.hok a _ ea)
    exact PySem.W.kia_one PySem.W.kitx_list I.kIn ⟨_, h1, rfl⟩ e (fun z => nomatch z) h
  | @tup a xs ea =>
    cases (show u = Value.ref a from rx)
    obtain ⟨_, _, _, p⟩ := (show ObjOk X.prog X.w H s.heap a (.tup xs) from I.hok a _ ea)
    obtain ⟨o, h1, h2, _⟩ := p
    exact PySem.W.kia_one PySem.W.kitx_tuple I.kIn ⟨o, h1, h2⟩ e (fun z => nomatch z) h
  | @dK a kvs ea =>
    cases (show u = Value.ref a from rx)
    obtain ⟨_, _, vs, _, p⟩ := (show ObjOk X.prog X.w H s.heap a (.dK kvs) from I.hok a _ ea)
    obtain ⟨o, es, ep, h1, h2, _⟩ := p
    exact PySem.W.kia_one PySem.W.kitx_dict I.kIn ⟨o, h1, h2.1⟩ e (fun z => nomatch z) h
  | @dT a kvs ea =>
    cases (show u = Value.ref a from rx)
    obtain ⟨_, _, xs, _, o, es, ep, h1, h2, _⟩ := (show ObjOk X.prog X.w H s.heap a (.dT kvs) from I.hok a _ ea)
    exact PySem.W.kia_one PySem.W.kitx_dict I.kIn ⟨o, h1, h2.1⟩ e (fun z => nomatch z) h
  | @ins a C dx fs ea cl ha hn htk hm =>
    cases (show u = Value.ref a from rx)
    obtain ⟨mA, O, _⟩ := ins_get I.hok ea
    obtain ⟨od, J, _⟩ := O.look
    exact PySem.W.kia_one (PySem.W.kitx_own (cl.get _) cl.hd ha hn htk hm) I.kIn J e (fun z => nomatch z) h
end
end L2
namespace L2
open PySem PySem.Spec PyProof.Rows
structure Room (k : Nat) (A : Around) : Prop where
  hd : A.handled = none
  dp : A.depth + 3 * k + 5 < recursionLimit
  un : A.units + 16 * k + 200 < cLine
theorem Room.mono {j k : Nat} {A : Around} (r : Room k A) (h : j ≤ k) : Room j A := ⟨r.hd, by have := r.dp; omega, by have := r.un; omega⟩
theorem Room.deeper {k : Nat} {A : Around} (r : Room (k + 1) A) (env : Env) : Room k (A.deeper env) :=
  ⟨r.hd, by have := r.dp; show A.depth + 1 + 3 * k + 5 < _; omega, by have := r.un; show A.units + 3 + 16 * k + 200 < _; omega⟩
theorem Room.in1 {k : Nat} {A : Around} (r : Room (k + 1) A) : Room k A.in1 :=
  ⟨r.hd, by have := r.dp; show A.depth + 3 * k + 5 < _; omega, by have := r.un; show A.units + 1 + 16 * k + 200 < _; omega⟩
theorem make_depth {A : Around} {C : Addr} {us : List Value} {kw : List (Str × Value)} : (A.under (.builtin "type.__call__" ⟨.ref C :: us, kw⟩)).depth = A.depth + 1 := by
  first | rfl | simp [Around.under, Code.weight, Code.isCreation, Code.isGuard, Code.isCaller, Code.frames, Code.isFrame, guardIds]
theorem make_units {A : Around} {C : Addr} {us : List Value} {kw : List (Str × Value)} : (A.under (.builtin "type.__call__" ⟨.ref C :: us, kw⟩)).units = A.units + 1 := by
  first | rfl | simp [Around.under, Code.cUnits, Code.frames, Code.isFrame]
theorem Room.make {k : Nat} {A : Around} (r : Room (k + 1) A) (C : Addr) (us : List Value) (kw : List (Str × Value)) : Room k (A.under (.builtin "type.__call__" ⟨.ref C :: us, kw⟩)) :=
  ⟨r.hd, by have := r.dp; rw [make_depth]; omega, by have := r.un; rw [make_units]; omega⟩
theorem Room.depth {k : Nat} {A : Around} (r : Room k A) : A.depth < recursionLimit := by have := r.dp; omega
theorem Room.units {k : Nat} {A : Around} (r : Room k A) : A.units + 64 < cLine := by have := r.un; omega
def tNil : TA := fun _ H Q => Q [] H
def tCons (ta : TE) (tr : TA) : TA := fun σ H Q => ta σ H fun x H1 => tr σ H1 fun xs H2 => Q (x :: xs) H2
section
variable {X : Cx} {e : Expr} {es : List Expr} {te : TE} {t : TA} {pos : Pos}
theorem pa_nil : PA X [] tNil := fun _ _ _ _ H Q I h => Calls.spliced_nil ⟨[], H, I, .nil, h⟩
theorem pa_cons (ha : PE X e te) (hr : PA X es t) (hs : starEach (e :: es) X.env = (false, eval e X.env) :: starEach es X.env := by rfl) : PA X (e :: es) (tCons te t) := by
  intro pos pins s σ H Q I h
  rw [hs]
  show wpAny _ _ (spliced ((false, eval e X.env) :: backTo pos (starEach es X.env))) _ _ s
  refine Calls.spliced_cons (thn (ha pins s σ H _ I h) fun u s1 ⟨x, H1, I1, r1, q1⟩ => ?_)
  exact thn (hr pos pins s1 σ H1 _ I1 q1) fun us s2 ⟨xs, H2, I2, r2, q2⟩ => ⟨x :: xs, H2, I2, .cons r1 r2, q2⟩
def tTup (t : TA) : TE := fun σ H Q => t σ H fun xs H1 => xs.length ≤ sizeLine ∧ ∀ p, H1 p = none → Q (.ref p) (upd H1 p (.tup xs))
def tLst (t : TA) : TE := fun σ H Q => t σ H fun xs H1 => xs.length ≤ sizeLine ∧ ∀ p, H1 p = none → Q (.ref p) (upd H1 p (.lst xs))
theorem pe_tup {x1} (h : PA X es t) : PE X (.Tuple es x1 pos) (tTup t) := by
  intro pins s σ H Q I hq
  refine wpAny_Tuple_spliced (thn (h pos pins s σ H _ I hq) fun us s1 ⟨xs, H1, I1, r, z, q⟩ => ⟨by rw [← r.length]; exact z, ?_⟩)
  have hf : H1 s1.heap.objs.size = none := I1.hok.fresh (Nat.le_refl _)
  refine ⟨.ref s1.heap.objs.size, upd H1 s1.heap.objs.size (.tup xs), I1.laid (t' := s1.toks) (fun b u e => Heap.get?_push_of_some _ e) (Nat.le_refl _) ?_, rfl, q _ hf⟩
  exact ⟨z, us, r, ⟨_, Heap.get?_push_size _ rfl, rfl, _, rfl⟩⟩
theorem pe_lst (h : PA X es t) : PE X (.List es pos) (tLst t) := by
  intro pins s σ H Q I hq
  refine wpAny_List_spliced (thn (h pos pins s σ H _ I hq) fun us s1 ⟨xs, H1, I1, r, z, q⟩ => ⟨by rw [← r.length]; exact z, ?_⟩)
  have hf : H1 s1.heap.objs.size = none := I1.hok.fresh (Nat.le_refl _)
  refine ⟨.ref s1.heap.objs.size, upd H1 s1.heap.objs.size (.lst xs), I1.laid (t' := s1.toks) (fun b u e => Heap.get?_push_of_some _ e) (Nat.le_refl _) ?_, rfl, q _ hf⟩
  exact ⟨z, us, 0, r, Heap.get?_push_size _ rfl⟩
end
abbrev Sp := List V → Hp → VK → XK → Prop
abbrev CXT := List Env → Hp → Shared → XK → Value → Shared → Prop
structure Env0 (P : Program) (w : World) (K : PySem.W.Frag) (mg : Str → Option Value) (base : Heap) (A : Around) (outer : List Env) (s : Shared) (H : Hp) : Prop where
  frames : A.frames = some outer
  mod : Mod K mg base
  bs : ∀ b o, base.get? b = some o → s.heap.get? b = some o ∧ H b = none
  bsz : base.objs.size ≤ s.heap.objs.size
  funs : s.heap.FunFrames base outer
  frf : ∀ b ∈ frs outer, H b = none
  hok : HOk P w H s.heap
  bare : AllBare s.gens
def CE (outer : List Env) (P : Program) (w : World) (H : Hp) (s : Shared) (Q : VK) (u : Value) (s' : Shared) : Prop :=
  ∃ v H', s'.os = s.os ∧ AllBare s'.gens ∧ Un (frs outer) [] H H' s.heap s'.heap ∧ HOk P w H' s'.heap ∧ RelV v u ∧ Q v H'
def CR (CX : CXT) (outer : List Env) (P : Program) (w : World) (H : Hp) (s : Shared) (Q : VK) (E : XK) (r : Result) (s' : Shared) : Prop :=
  match r with
  | .ok (.ret u) => CE outer P w H s Q u s'
  | .ok _ => False
  | .error e => CX outer H s E e s'
structure FnOk (P : Program) (w : World) (K : PySem.W.Frag) (mg : Str → Option Value) (base : Heap) (CX : CXT) (k : Nat) (f : Addr) (fd : FuncData) (ps : List Str) (sp : Sp) : Prop where
  len : ∀ vs H Q E, sp vs H Q E → vs.length = ps.length
  run : ∀ (A : Around) (outer : List Env) (s : Shared) (H : Hp) (args : Args) (us : List Value) (vs : List V) (Q : VK) (E : XK), Room k A → Env0 P w K mg base A outer s H → BindsTo s fd args (ps.zip us) → Vals vs us → sp vs H Q E →
    codeAny (model P w) A (.call (.ref f) args) (CR CX outer P w H s Q E) s
theorem FnOk.mono {P : Program} {w : World} {K : PySem.W.Frag} {mg : Str → Option Value} {base : Heap} {CX : CXT} {j k : Nat} {f : Addr} {fd : FuncData} {ps : List Str} {sp : Sp} (F : FnOk P w K mg base CX j f fd ps sp) (h : j ≤ k) :
    FnOk P w K mg base CX k f fd ps sp := ⟨F.len, fun A outer s H args us vs Q E hr => F.run A outer s H args us vs Q E (hr.mono h)⟩
theorem Env0.make {P : Program} {w : World} {K : PySem.W.Frag} {mg : Str → Option Value} {base : Heap} {A : Around} {outer : List Env} {s : Shared} {H : Hp} (e : Env0 P w K mg base A outer s H) (C : Addr) (us : List Value) (kw : List (Str × Value)) :
    Env0 P w K mg base (A.under (.builtin "type.__call__" ⟨.ref C :: us, kw⟩)) outer s H := ⟨by first | exact e.frames | (simpa [Around.under, Code.envs, Code.isFrame, pushEnvs] using e.frames), e.mod, e.bs, e.bsz, e.funs, e.frf, e.hok, e.bare⟩
theorem Env0.in1 {P : Program} {w : World} {K : PySem.W.Frag} {mg : Str → Option Value} {base : Heap} {A : Around} {outer : List Env} {s : Shared} {H : Hp} (e : Env0 P w K mg base A outer s H) :
    Env0 P w K mg base A.in1 outer s H := ⟨e.frames, e.mod, e.bs, e.bsz, e.funs, e.frf, e.hok, e.bare⟩
section
variable {X : Cx} {pins : List (Addr × Obj)} {σ : St} {H : Hp} {s s' : Shared}
theorem Inv.env0 (I : Inv X pins σ H s) : Env0 X.prog X.w X.K X.mg X.base X.A X.stack s H :=
  ⟨I.ok.frames, I.ok.mod, I.bs, Nat.le_trans I.ok.bsz I.sz, I.stack, I.stkFree, I.hok, I.bare⟩
theorem Inv.after {Q : VK} {u : Value} (I : Inv X pins σ H s) (h : CE X.stack X.prog X.w H s Q u s') : EP X pins σ Q u s' := by
  obtain ⟨v, H', os, bare, un, hok, r, q⟩ := h
  obtain ⟨hh, g, d, t, os'⟩ := s'
  obtain rfl : os' = s.os := os
  exact ⟨v, H', I.call (h' := hh) (g' := g) (d' := d) (t' := t) (ch := []) un hok bare (fun b z => absurd z (by simp)), r, q⟩
end
def tCall (sp : Sp) (dvs : List V) (E : XK) (t : TA) : TE := fun σ H Q => t σ H fun vs H1 => sp (vs ++ dvs) H1 Q E
def tMeth (C : Addr) (m : Str) (sp : Sp) (dvs : List V) (E : XK) (ta : TE) (t : TA) : TE := fun σ H Q => ta σ H fun x H1 => ∃ a dx fs, x = .ref a ∧ H1 a = some (.ins C dx fs) ∧ fs.lookup m = none ∧
  t σ H1 fun vs H2 => sp (x :: (vs ++ dvs)) H2 Q E
def tMake (C : Addr) (sp : Sp) (dvs : List V) (E : XK) (t : TA) : TE := fun σ H Q => t σ H fun vs H1 => ∀ x dx, H1 x = none → H1 dx = none → dx ≠ x →
  sp (.ref x :: (vs ++ dvs)) (upd (upd H1 dx (.own x)) x (.ins C dx [])) (fun v H2 => v = .non ∧ Q (.ref x) H2) E
def Binds (K : PySem.W.Frag) (fd : FuncData) (ps : List Str) (ds : List Value) : Prop :=
  ∀ (s : Shared) (us : List Value), K.In s.heap → (us ++ ds).length = ps.length → BindsTo s fd ⟨us, []⟩ (ps.zip (us ++ ds))
theorem Binds.all {K : PySem.W.Frag} {fd : FuncData} {ps : List Str} (h : ∀ us : List Value, us.length = ps.length → bindArgs fd ⟨us, []⟩ = pure (ps.zip us)) : Binds K fd ps [] := fun s us _ hl => by
  rw [List.append_nil] at hl ⊢
  exact .of_eq (h us hl)
def Passes (CX : CXT) (X : Cx) (E : XK) : Prop := ∀ (pins : List (Addr × Obj)) (σ : St) (H : Hp) (s : Shared) (e : Value) (s' : Shared), Inv X pins σ H s → CX X.stack H s E e s' → X.xe e s'
section
variable {X : Cx} {CX : CXT} {k : Nat} {f C : Addr} {fd : FuncData} {ps : List Str} {sp : Sp} {dvs : List V} {ds : List Value} {E : XK} {x m : Str} {p pos apos : Pos} {e o : Expr} {es : List Expr} {ta : TE} {t : TA}
theorem run_fn {pins : List (Addr × Obj)} {σ : St} {H : Hp} {s : Shared} {Q : VK} {us : List Value} {vs : List V} (F : FnOk X.prog X.w X.K X.mg X.base CX k f fd ps sp) (hr : Room k X.A) (hb : Binds X.K fd ps ds) (hd : Vals dvs ds) (hx : Passes CX X E)
    (I : Inv X pins σ H s) (r : Vals vs us) (h : sp (vs ++ dvs) H Q E) : wpAny (model X.prog X.w) X.A (call (.ref f) us) (EP X pins σ Q) X.xe s := by
  have r2 : Vals (vs ++ dvs) (us ++ ds) := r.append hd
  have hl : (us ++ ds).length = ps.length := by rw [← r2.length]; exact F.len _ _ _ _ h
  refine wpAny_call (codeAny_mono (F.run X.A X.stack s H ⟨us, []⟩ (us ++ ds) (vs ++ dvs) Q E hr I.env0 (hb s us I.kIn hl) r2 h) fun r s' hq => ?_)
  cases r with
  | error e => exact hx pins σ H s e s' I hq
  | ok fl =>
    cases fl with
    | ret u => exact I.after hq
    | next => exact False.elim hq
    | brk => exact False.elim hq
    | cont => exact False.elim hq
theorem pe_call (F : FnOk X.prog X.w X.K X.mg X.base CX k f fd ps sp) (hr : Room k X.A) (hg : Gl X x) (hm : X.mg x = some (.ref f)) (hk : PySem.W.keepIn X.K (.ref f) = true) (hb : Binds X.K fd ps ds) (hd : Vals dvs ds) (hx : Passes CX X E)
    (ha : PA X (e :: es) t) (hdb : (x == ("__debug__" : Str)) = false := by decide) (he : starEach (e :: es) X.env = (false, eval e X.env) :: starEach es X.env := by rfl) (hpl : (backTo pos (starEach es X.env)).any (·.1) = false := by rfl) :
    PE X (.Call (.Name x p) (e :: es) [] pos) (tCall sp dvs E t) := by
  intro pins s σ H Q I h
  refine wpAny_Call_Name_kw (ld_glob I hg hm ?_ hdb)
  refine PySem.W.callWith_K (h₀ := X.base) I.ok.mod.kin hk (thn (ha pos pins s σ H _ I h) fun us s1 ⟨vs, H1, I1, r, q⟩ => ⟨I1.kIn, ?_⟩) he hpl
  exact run_fn F hr hb hd hx I1 r q
theorem pe_meth {pl : Sem Bool} (he : PE X o ta) (c : Cls X.K C) (hm : Meth X.K C m f) (F : FnOk X.prog X.w X.K X.mg X.base CX k f fd ps sp) (hr : Room k X.A) (hb : Binds X.K fd ps ds) (hd : Vals dvs ds) (hx : Passes CX X E) (ha : PA X (e :: es) t)
    (hst : starEach (e :: es) X.env = (false, eval e X.env) :: starEach es X.env := by rfl) (hpl : (backTo pos (starEach es X.env)).any (·.1) = false := by rfl)
    (ht : eval (.Call (.Attribute o m apos) (e :: es) [] pos) X.env = (do
      let ov ← eval o X.env
      standAt apos.atName
      let (f, first) ← holding [ov] (getMethod ov m pl)
      callWith pos f first (backTo pos (starEach (e :: es) X.env)) (backToKw pos (keywordEach [] X.env))) := by rfl) :
    PE X (.Call (.Attribute o m apos) (e :: es) [] pos) (tMeth C m sp dvs E ta t) := by
  intro pins s σ H Q I h
  refine PySem.W.methodCall_KW (pl := pl) (thn (he pins s σ H _ I h) fun u s1 ⟨x, H1, I1, rx, a, dx, fs, ex, ea, l, q⟩ => ?_) ht
  subst ex
  obtain rfl : u = Value.ref a := rx
  refine getmeth_ok I1 ea c hm l ?_
  refine PySem.W.callWith_K (first := [.ref a]) (h₀ := X.base) I.ok.mod.kin hm.kp (thn (ha pos pins s1 σ H1 _ I1 q) fun us s2 ⟨vs, H2, I2, r, q2⟩ => ⟨I2.kIn, ?_⟩) hst hpl
  exact run_fn (us := .ref a :: us) (vs := .ref a :: vs) F hr hb hd hx I2 (.cons rfl r) q2
theorem pe_meth0 {pl : Sem Bool} (he : PE X o ta) (c : Cls X.K C) (hm : Meth X.K C m f) (F : FnOk X.prog X.w X.K X.mg X.base CX k f fd ps sp) (hr : Room k X.A) (hb : Binds X.K fd ps ds) (hd : Vals dvs ds) (hx : Passes CX X E)
    (ht : eval (.Call (.Attribute o m apos) [] [] pos) X.env = (do
      let ov ← eval o X.env
      standAt apos.atName
      let (f, first) ← holding [ov] (getMethod ov m pl)
      callWith pos f first (backTo pos (starEach [] X.env)) (backToKw pos (keywordEach [] X.env))) := by rfl) :
    PE X (.Call (.Attribute o m apos) [] [] pos) (tMeth C m sp dvs E ta tNil) := by
  intro pins s σ H Q I h
  refine PySem.W.methodCall_KW (pl := pl) (thn (he pins s σ H _ I h) fun u s1 ⟨x, H1, I1, rx, a, dx, fs, ex, ea, l, q⟩ => ?_) ht
  subst ex
  obtain rfl : u = Value.ref a := rx
  refine getmeth_ok I1 ea c hm l ?_
  exact PySem.W.callWith_K0 (first := [.ref a]) I1.kIn hm.kp (run_fn (us := [.ref a]) (vs := [.ref a]) F hr hb hd hx I1 (.cons rfl .nil) q)
structure Mk (K : PySem.W.Frag) (C f : Addr) : Prop where
  makes : PySem.W.makesIn K C = true
  init : PySem.W.findIn K (.ref C) "__init__" = some (some (.ref f))
  fn : PySem.W.isFn K (.ref f) = true
  kp : PySem.W.keepIn K (.ref C) = true
theorem run_make {pins : List (Addr × Obj)} {σ : St} {H : Hp} {s : Shared} {Q : VK} {us : List Value} {vs : List V} (M : Mk X.K C f) (F : FnOk X.prog X.w X.K X.mg X.base CX k f fd ps sp) (hr : Room (k + 1) X.A) (hb : Binds X.K fd ps ds) (hd : Vals dvs ds)
    (hx : Passes CX X E) (I : Inv X pins σ H s) (r : Vals vs us)
    (h : ∀ x dx, H x = none → H dx = none → dx ≠ x → sp (.ref x :: (vs ++ dvs)) (upd (upd H dx (.own x)) x (.ins C dx [])) (fun v H2 => v = .non ∧ Q (.ref x) H2) E) :
    wpAny (model X.prog X.w) X.A (call (.ref C) us) (EP X pins σ Q) X.xe s := by
  have hq := h (s.heap.objs.size + 1) s.heap.objs.size (I.hok.fresh (Nat.le_succ _)) (I.hok.fresh (Nat.le_refl _)) (Nat.ne_of_lt (Nat.lt_succ_self _))
  have I2 := Inv.made (C := C) I
  have r2 : Vals (V.ref (s.heap.objs.size + 1) :: (vs ++ dvs)) (Value.ref (s.heap.objs.size + 1) :: (us ++ ds)) := .cons rfl (r.append hd)
  have hl : (Value.ref (s.heap.objs.size + 1) :: us ++ ds).length = ps.length := by
    have e := r2.length
    rw [F.len _ _ _ _ hq] at e
    exact e.symm
  refine wpAny_call (make_map (f := f) I.kIn M.makes M.init (beq_iff_eq.mp M.fn) (codeAny_mono (F.run _ X.stack _ _ ⟨Value.ref (s.heap.objs.size + 1) :: us, []⟩ (Value.ref (s.heap.objs.size + 1) :: (us ++ ds)) _ _ E (hr.make C us [])
    (I2.env0.make C us []) (hb _ (Value.ref (s.heap.objs.size + 1) :: us) I2.kIn hl) r2 hq) fun r s' hq' => ?_))
  cases r with
  | error e => exact hx pins σ _ _ e s' I2 hq'
  | ok fl =>
    cases fl with
    | ret u =>
      obtain ⟨v, H', I3, rv, ev, q3⟩ := I2.after hq'
      subst ev
      exact ⟨rv, ⟨V.ref (s.heap.objs.size + 1), H', I3, rfl, q3⟩⟩
    | next => exact False.elim hq'
    | brk => exact False.elim hq'
    | cont => exact False.elim hq'
theorem pe_make (M : Mk X.K C f) (F : FnOk X.prog X.w X.K X.mg X.base CX k f fd ps sp) (hr : Room (k + 1) X.A) (hg : Gl X x) (hm : X.mg x = some (.ref C)) (hb : Binds X.K fd ps ds) (hd : Vals dvs ds) (hx : Passes CX X E)
    (ha : PA X (e :: es) t) (hdb : (x == ("__debug__" : Str)) = false := by decide) (he : starEach (e :: es) X.env = (false, eval e X.env) :: starEach es X.env := by rfl) (hpl : (backTo pos (starEach es X.env)).any (·.1) = false := by rfl) :
    PE X (.Call (.Name x p) (e :: es) [] pos) (tMake C sp dvs E t) := by
  intro pins s σ H Q I h
  refine wpAny_Call_Name_kw (ld_glob I hg hm ?_ hdb)
  refine PySem.W.callWith_K (h₀ := X.base) I.ok.mod.kin M.kp (thn (ha pos pins s σ H _ I h) fun us s1 ⟨vs, H1, I1, r, q⟩ => ⟨I1.kIn, ?_⟩) he hpl
  exact run_make M F hr hb hd hx I1 r q
end
section
variable {X : Cx} {CX : CXT} {k : Nat} {f C : Addr} {fd : FuncData} {ps ks : List Str} {sp : Sp} {E : XK} {x m : Str} {p pos apos kpos : Pos} {e o : Expr} {es : List Expr} {kws : List Keyword} {te ta : TE} {t tk : TA} {nm : Option Str}
structure KBinds (K : PySem.W.Frag) (fd : FuncData) (ps ks : List Str) (g : List Value → List Value → List Value) (gV : List V → List V → List V) : Prop where
  to : ∀ (s : Shared) (us ws : List Value), K.In s.heap → (g us ws).length = ps.length → BindsTo s fd ⟨us, ks.zip ws⟩ (ps.zip (g us ws))
  rel : ∀ {vs : List V} {us : List Value} {zs : List V} {ws : List Value}, Vals vs us → Vals zs ws → Vals (gV vs zs) (g us ws)
variable {g : List Value → List Value → List Value} {gV : List V → List V → List V}
end
structure FnScope (N P : List Str) (sc : Scope) : Prop where
  kind : sc.kind = .function
  co : sc.isCoroutine = false
  gen : sc.isGenerator = false
  nd : N.Nodup
  pre : N.take P.length = P
  par : ∀ x ∈ P, sc.names.lookup x = some .local ∨ sc.names.lookup x = some .cell
  nofree : ∀ y ∈ sc.names, y.2 ≠ .free
theorem bindL_out {kindOf : Str → Option NameKind} {x : Str} : ∀ {binds : List (Str × Value)} {m : Str → Option Value}, (∀ v, (x, v) ∉ binds) → bindL kindOf binds m x = m x
  | [], _, _ => rfl
  | (n, v) :: r, m, h => by
    unfold bindL
    rw [bindL_out fun w hw => h w (List.mem_cons_of_mem _ hw)]
    split
    · have : x ≠ n := by rintro rfl; exact h v List.mem_cons_self
      simp [this]
    · rfl
theorem bindC_out {kindOf : Str → Option NameKind} {x : Str} : ∀ {binds : List (Str × Value)} {m : Str → Option Value}, (∀ v, (x, v) ∉ binds) → bindC kindOf binds m x = m x
  | [], _, _ => rfl
  | (n, v) :: r, m, h => by
    unfold bindC
    rw [bindC_out fun w hw => h w (List.mem_cons_of_mem _ hw)]
    split
    · rfl
    · have : x ≠ n := by rintro rfl; exact h v List.mem_cons_self
      simp [this]
theorem bindL_get {kindOf : Str → Option NameKind} {x : Str} {v : Value} : ∀ {P : List Str} {vs : List Value} {i : Nat} {m : Str → Option Value}, P.Nodup → P[i]? = some x → vs[i]? = some v → kindOf x = some .local →
    bindL kindOf (P.zip vs) m x = some v
  | [], _, _, _, _, h, _, _ => by simp at h
  | _ :: _, [], _, _, _, _, h, _ => by simp at h
  | p :: P, w :: vs, 0, m, nd, h1, h2, hk => by
    simp at h1 h2; subst h1; subst h2
    show bindL kindOf ((p, w) :: P.zip vs) m p = _
    unfold bindL
    rw [bindL_out fun v hv => (List.nodup_cons.mp nd).1 (List.of_mem_zip hv).1, if_pos hk]
    simp
  | p :: P, w :: vs, i + 1, m, nd, h1, h2, hk => by
    show bindL kindOf ((p, w) :: P.zip vs) m x = _
    unfold bindL
    exact bindL_get (i := i) (List.nodup_cons.mp nd).2 (by simpa using h1) (by simpa using h2) hk
theorem bindC_get {kindOf : Str → Option NameKind} {x : Str} {v : Value} : ∀ {P : List Str} {vs : List Value} {i : Nat} {m : Str → Option Value}, P.Nodup → P[i]? = some x → vs[i]? = some v → kindOf x ≠ some .local →
    bindC kindOf (P.zip vs) m x = some v
  | [], _, _, _, _, h, _, _ => by simp at h
  | _ :: _, [], _, _, _, _, h, _ => by simp at h
  | p :: P, w :: vs, 0, m, nd, h1, h2, hk => by
    simp at h1 h2; subst h1; subst h2
    show bindC kindOf ((p, w) :: P.zip vs) m p = _
    unfold bindC
    rw [bindC_out fun v hv => (List.nodup_cons.mp nd).1 (List.of_mem_zip hv).1, if_neg hk]
    simp
  | p :: P, w :: vs, i + 1, m, nd, h1, h2, hk => by
    show bindC kindOf ((p, w) :: P.zip vs) m x = _
    unfold bindC
    exact bindC_get (i := i) (List.nodup_cons.mp nd).2 (by simpa using h1) (by simpa using h2) hk
def start (N : List Str) (vs : List V) : St := vs.map some ++ List.replicate (N.length - vs.length) none
def cxOf (CX : CXT) (P : Program) (w : World) (K : PySem.W.Frag) (mg : Str → Option Value) (base : Heap) (N : List Str) (qual : Str) (scope : Scope) (f : Addr) (cd : Value) (A : Around) (outer : List Env) (s : Shared) (H : Hp) (E : XK) : Cx where
  prog := P
  w := w
  K := K
  mg := mg
  base := base
  A := A.deeper (envOfC qual scope s.heap.objs.size f cd)
  N := N
  s₀ := s
  H₀ := H
  env := envOfC qual scope s.heap.objs.size f cd
  outer := outer
  stack := envOfC qual scope s.heap.objs.size f cd :: outer
  ex := []
  calm := true
  fn := fun _ => true
  pn := []
  xe := fun e s' => wpAny (model P w) (A.deeper (envOfC qual scope s.heap.objs.size f cd)) (leaving (envOfC qual scope s.heap.objs.size f cd) e) (fun _ s'' => CX outer H s E e s'') (fun e' s'' => CX outer H s E e' s'') s'
theorem cell_has {sc : Scope} {n : Nat} {x : Str} (h : sc.names.lookup x = some .cell) : ∃ c, (cellsFrom n sc.names []).lookup x = some c := by
  have q := PySem.W.cellsFrom_some sc.names n [] (.inl h)
  exact Option.isSome_iff_exists.mp q
theorem inv_start {CX : CXT} {P : Program} {w : World} {K : PySem.W.Frag} {mg : Str → Option Value} {base : Heap} {N ps : List Str} {qual : Str} {scope : Scope} {f : Addr} {cd : Value} {A : Around} {outer : List Env} {s s1 : Shared} {H : Hp} {E : XK} {us : List Value} {vs : List V}
    (S : FnScope N ps scope) (hd : A.handled = none) (e0 : Env0 P w K mg base A outer s H) (hl : vs.length = ps.length) (r : Vals vs us)
    (x : InCallC s s.heap.objs.size (bindL (envOfC qual scope s.heap.objs.size f cd).kindOf (ps.zip us) fun _ => none) (cellsFrom (s.heap.objs.size + 1) scope.names []) (bindC (envOfC qual scope s.heap.objs.size f cd).kindOf (ps.zip us) fun _ => none) s1) :
    Inv (cxOf CX P w K mg base N qual scope f cd A outer s H E) [] (start N vs) H s1 := by
  have hpl : ps.length ≤ N.length := by have := congrArg List.length S.pre; rw [List.length_take] at this; omega
  obtain ⟨h1, tk, rfl, hk⟩ := x.done
  have noA : ∀ b : Addr, b ∉ (cxOf CX P w K mg base N qual scope f cd A outer s H E).ex := fun b z => absurd (show b ∈ ([] : List Addr) from z) (by simp)
  refine ⟨⟨e0.mod, S.kind, rfl, rfl, Nat.le_refl _, fun y z c h1 h2 => ?_, fun y hy => ?_, fun y c _ h => ?_, fun _ => hd, Around.frames_deeper e0.frames, .inr ⟨rfl, rfl⟩, fun b z => absurd z (noA b), e0.bs, e0.bsz, fun b _ _ => noA b, fun b z => absurd z (noA b), e0.funs, e0.frf⟩,
    rfl, e0.bare, Un.kept hk, ⟨_, x.toInCall.ns, fun i y v h1 h2 h3 => ?_⟩, fun y c h => ⟨_, x.cell y c h⟩, e0.hok.fresh (Nat.le_refl _), fun y c h => ?_, fun p hp => absurd (show p ∈ ([] : List (Addr × Obj)) from hp) (by simp), e0.hok.kept hk, ?_⟩
  · exact name_of_addr x.apart (PySem.mem_of_lookup h1) (PySem.mem_of_lookup h2)
  · have hy : scope.names.lookup y = some .cell ∨ scope.names.lookup y = some .free := hy
    rcases hy with hy | hy
    · exact cell_has hy
    · exact absurd rfl (S.nofree _ (PySem.mem_of_lookup hy))
  · exact Nat.le_of_lt (x.above y c (PySem.mem_of_lookup h))
  · have hi : i < vs.length := by
      unfold start at h2
      by_cases hi : i < vs.length
      · exact hi
      · rw [List.getElem?_append_right (by simpa using hi)] at h2
        rw [List.getElem?_replicate] at h2
        split at h2 <;> cases h2
    have ha : vs[i]? = some v := by
      unfold start at h2
      rw [List.getElem?_append_left (by simpa using hi), List.getElem?_map] at h2
      cases e : vs[i]? with
      | none => rw [e] at h2; cases h2
      | some a => rw [e] at h2; cases h2; rfl
    obtain ⟨u, hu, rv⟩ := r.get ha
    have hp : ps[i]? = some y := by
      rw [← S.pre, List.getElem?_take_of_lt (by omega)]; exact h1
    have ndP : ps.Nodup := by rw [← S.pre]; exact S.nd.sublist (List.take_sublist _ _)
    refine ⟨u, rv, ?_⟩
    rcases S.par y (List.mem_of_getElem? hp) with k | k
    · exact .inl ⟨k, bindL_get ndP hp hu k⟩
    · obtain ⟨c, e⟩ := cell_has (n := s.heap.objs.size + 1) k
      refine .inr ⟨.inl k, c, e, ?_⟩
      have q := x.cell y c e
      rw [bindC_get ndP hp hu (by show scope.names.lookup y ≠ _; rw [k]; decide)] at q
      exact q
  · exact e0.hok.fresh (Nat.le_of_lt (x.above y c (PySem.mem_of_lookup h)))
  · unfold start
    show _ = N.length
    rw [List.length_append, List.length_map, List.length_replicate]
    omega
theorem fn_of {CX : CXT} {P : Program} {w : World} {K : PySem.W.Frag} {mg : Str → Option Value} {base : Heap} {k : Nat} {f : Addr} {name qual : Str} {params : Arguments} {body : List Stmt} {scope : Scope} {dV kV doc pm cdv ct oc : Value} {an od : Option Addr}
    {osl : Array (Option Value)} {N ps : List Str} {sp : Sp} (lk : K.lookup f = some ⟨oc, od, .func (PySem.W.fnOf name qual params body scope dV kV doc pm an cdv ct), osl⟩) (hcd : PySem.W.codeIn K cdv qual = true) (S : FnScope N ps scope)
    (len : ∀ vs H Q E, sp vs H Q E → vs.length = ps.length)
    (hbody : ∀ (A : Around) (outer : List Env) (s : Shared) (H : Hp) (vs : List V) (Q : VK) (E : XK), Room k (A.deeper (envOfC qual scope s.heap.objs.size f cdv)) → sp vs H Q E →
      ∃ t, PSs (cxOf CX P w K mg base N qual scope f cdv A outer s H E) body t ∧ t { nx := fun _ H' => Q .non H', rt := Q } (start N vs) H) :
    FnOk P w K mg base CX (k + 1) f (PySem.W.fnOf name qual params body scope dV kV doc pm an cdv ct) ps sp := by
  refine ⟨len, fun A outer s H args us vs Q E hr e0 hb r hsp => ?_⟩
  have hl := len _ _ _ _ hsp
  have KX : K.In s.heap := e0.mod.kin.keeps fun b o e => (e0.bs b o e).1
  have lim : s.heap.NoLimit := e0.mod.nolimit.keeps fun b o e => (e0.bs b o e).1
  have hkind : ∀ y ∈ ps.zip us, scope.names.lookup y.1 = some .local ∨ (scope.names.lookup y.1 = some .cell ∧ ((cellsFrom (s.heap.objs.size + 1) scope.names []).lookup y.1).isSome = true) := fun ⟨n, v⟩ hy => by
    rcases S.par n (List.of_mem_zip hy).1 with q | q
    · exact .inl q
    · exact .inr ⟨q, PySem.W.cellsFrom_some _ _ _ (.inl q)⟩
  refine codeAny_call_function hr.depth (KX _ _ lk) rfl S.co S.gen rfl (PySem.W.codeRec_of KX hcd) (hb _ _ _ _ ?_)
  refine wpAny_newFunctionEnv_cells S.kind hkind fun env he s1 x => ?_
  subst he
  refine ⟨lim.keeps x.toInCall.keep, codeAny_func ?_⟩
  obtain ⟨t, ht, hq⟩ := hbody A outer s H vs Q E (hr.deeper _) hsp
  have I : Inv (cxOf CX P w K mg base N qual scope f cdv A outer s H E) [] (start N vs) H s1 := inv_start S hr.hd e0 hl r x
  refine wpAny_mono (ht [] s1 (start N vs) H _ I hq) (fun fl s' hs => ?_) fun e s' hs => hs
  have fin : ∀ {σ' : St} {H' : Hp} {v : V} {u : Value}, Inv (cxOf CX P w K mg base N qual scope f cdv A outer s H E) [] σ' H' s' → RelV v u → Q v H' → CE outer P w H s Q u s' :=
    fun {σ' H' v u} J rv q => ⟨v, H', J.os, J.bare, J.base, J.hok, rv, q⟩
  cases fl with
  | ret u =>
    obtain ⟨v, σ', H', J, rv, q⟩ := hs
    exact fin J rv q
  | next =>
    obtain ⟨σ', H', J, q⟩ := hs
    exact fin (v := V.non) (u := Value.none) J rfl q
  | brk =>
    obtain ⟨_, _, _, q⟩ := hs
    exact False.elim q
  | cont =>
    obtain ⟨_, _, _, q⟩ := hs
    exact False.elim q
end L2
namespace L2
open PySem PySem.Spec PyProof.Rows
section
variable {X : Cx} {x : Str} {p pos : Pos} {e : Expr} {es : List Expr} {t : TA} {id T : String} {r : List V → Hp → VK → Prop}
def tCB (r : List V → Hp → VK → Prop) (t : TA) : TE := fun σ H Q => t σ H fun vs H1 => r vs H1 Q
theorem pe_callB (hc : CallR X (.builtin id) r) (hg : Gl X x) (hm : X.mg x = none) (hv : bootBuiltins x = some (.builtin id)) (ha : PA X (e :: es) t) (hn : x ≠ "__name__" := by decide) (hdb : (x == ("__debug__" : Str)) = false := by decide)
    (he : starEach (e :: es) X.env = (false, eval e X.env) :: starEach es X.env := by rfl) (hpl : (backTo pos (starEach es X.env)).any (·.1) = false := by rfl) : PE X (.Call (.Name x p) (e :: es) [] pos) (tCB r t) := by
  intro pins s σ H Q I h
  refine wpAny_Call_Name_kw (ld_blt I hg hm hv ?_ hn hdb)
  exact PyProof.Rows.callWith_builtin1 (thn (ha pos pins s σ H _ I h) fun us s1 ⟨vs, H1, I1, r1, q1⟩ => hc pins s1 σ H1 vs us Q I1 r1 q1) he hpl
theorem pe_callTy (hc : CallR X (.type T) r) (hg : Gl X x) (hm : X.mg x = none) (hv : bootBuiltins x = some (.type T)) (ha : PA X (e :: es) t) (hn : x ≠ "__name__" := by decide) (hdb : (x == ("__debug__" : Str)) = false := by decide)
    (he : starEach (e :: es) X.env = (false, eval e X.env) :: starEach es X.env := by rfl) (hpl : (backTo pos (starEach es X.env)).any (·.1) = false := by rfl) : PE X (.Call (.Name x p) (e :: es) [] pos) (tCB r t) := by
  intro pins s σ H Q I h
  refine wpAny_Call_Name_kw (ld_blt I hg hm hv ?_ hn hdb)
  exact PyProof.Rows.callWith_type1 (thn (ha pos pins s σ H _ I h) fun us s1 ⟨vs, H1, I1, r1, q1⟩ => hc pins s1 σ H1 vs us Q I1 r1 q1) he hpl
end
end L2
namespace HT
open PySem PyProof.Rows
section
open PySem.SeqAt
open PySem.AutoSeq1 (wpAny_loadPart')
open PySem.MeetsSeq PySem.MeetsSeq2 PySem.MeetsSeq3
end
section
variable {prog : Program} {w : World} {A : Around} {E : Value → Shared → Prop} {s : Shared}
def sIx (n d : Nat) : Option Int → Nat
  | none => d
  | some v => if v < 0 then (v + (n : Int)).toNat else min v.toNat n
theorem sIx_none (n d : Nat) : sIx n d none = d := rfl
theorem sIx_nat (n d k : Nat) : sIx n d (some (k : Int)) = min k n := by
  show (if (k : Int) < 0 then ((k : Int) + (n : Int)).toNat else min (k : Int).toNat n) = min k n
  rw [if_neg (by omega), Int.toNat_natCast]
end
end HT
namespace L2
open PySem PySem.Spec PyProof.Rows
abbrev TO := St → Hp → (Option Int → Hp → Prop) → Prop
def PO (X : Cx) (e : Option Expr) (t : TO) : Prop :=
  ∀ (pins : List (Addr × Obj)) (s : Shared) (σ : St) (H : Hp) (Q : Option Int → Hp → Prop), Inv X pins σ H s → t σ H Q →
    wpAny (model X.prog X.w) X.A (evalPart e X.env) (fun u s' => ∃ o H', Inv X pins σ H' s' ∧ IsPart u o ∧ Q o H') X.xe s
def tNoPart : TO := fun _ H Q => Q none H
def tPart (t : TE) : TO := fun σ H Q => t σ H fun x H1 => ∃ i, x = .int i ∧ Q (some i) H1
section
variable {X : Cx} {e : Expr} {te : TE} {lo hi : Option Expr} {tl th : TO} {pos p2 : Pos}
theorem po_none : PO X none tNoPart := by
  intro pins s σ H Q I h
  rw [evalPart_none]
  exact wpAny_pure ⟨none, H, I, .none, h⟩
theorem po_some (h : PE X e te) : PO X (some e) (tPart te) := by
  intro pins s σ H Q I hw
  rw [evalPart_some]
  refine thn (h pins s σ H _ I hw) fun u s1 ⟨x, H1, I1, r1, q1⟩ => ?_
  obtain ⟨i, rfl, q⟩ := q1
  obtain ⟨t, rfl⟩ := r1
  exact ⟨some i, H1, I1, .int i t, q⟩
def SlR (X : Cx) (r : V → Option Int → Option Int → Hp → VK → Prop) : Prop :=
  ∀ (pins : List (Addr × Obj)) (s : Shared) (σ : St) (H : Hp) (x : V) (v vl vu : Value) (lo hi : Option Int) (sl : Addr) (Q : VK), Inv X pins σ H s → RelV x v → s.heap.IsSliceOf sl vl vu .none → IsPart vl lo → IsPart vu hi → r x lo hi H Q →
    ∃ T id, typeLookup (.type T) "__getitem__" = pure (some (.builtin id)) ∧ s.TypeIs v T ∧ wpAny (model X.prog X.w) X.A (getItem v (.ref sl)) (EP X pins σ Q) X.xe s
def tSl (r : V → Option Int → Option Int → Hp → VK → Prop) (te : TE) (tl th : TO) : TE := fun σ H Q => te σ H fun x H1 => tl σ H1 fun l H2 => th σ H2 fun u H3 => r x l u H3 Q
theorem pe_slice {r : V → Option Int → Option Int → Hp → VK → Prop} (hr : SlR X r) (he : PE X e te) (hl : PO X lo tl) (hu : PO X hi th) : PE X (.Subscript e (.Slice lo hi none p2) pos) (tSl r te tl th) := by
  intro pins s σ H Q I h
  refine Subscript_ (thn (he pins s σ H _ I h) fun v s1 ⟨x, H1, I1, r1, q1⟩ => ?_)
  refine wpAny_Slice (thn (hl pins s1 σ H1 _ I1 q1) fun vl s2 ⟨l, H2, I2, pl, q2⟩ => thn (hu pins s2 σ H2 _ I2 q2) fun vu s3 ⟨u, H3, I3, pu, q3⟩ => ?_)
  rw [evalPart_none]
  refine wpAny_pure ?_
  have I4 : Inv X pins σ H3 { s3 with heap := s3.heap.push { cls := .type "slice", data := .fields #[vl, vu, .none] } } := I3.kept (t' := s3.toks) fun b ob q => Heap.get?_push_of_some _ q
  obtain ⟨T, id, hT, ht, hg⟩ := hr pins { s3 with heap := s3.heap.push { cls := .type "slice", data := .fields #[vl, vu, .none] } } σ H3 x v vl vu l u s3.heap.objs.size Q I4 r1 (Heap.IsSliceOf.new ..) pl pu q3
  show wpAny (model X.prog X.w) X.A (subscriptTail e (.Slice lo hi none p2) v (.ref s3.heap.objs.size)) (EP X pins σ Q) X.xe { s3 with heap := s3.heap.push { cls := .type "slice", data := .fields #[vl, vu, .none] } }
  exact tail_any (ops := [.ref s3.heap.objs.size, v]) ht hT hg (by with_unfolding_all rfl)
def cutV (xs : List V) (lo hi : Option Int) : List V := (xs.drop (HT.sIx xs.length 0 lo)).take (HT.sIx xs.length xs.length hi - HT.sIx xs.length 0 lo)
theorem cutV_length (xs : List V) (lo hi : Option Int) : (cutV xs lo hi).length ≤ xs.length := by
  unfold cutV
  rw [List.length_take, List.length_drop]
  omega
end
end L2
namespace L2
open PySem PySem.Spec PyProof.Rows
def ixN (n : Nat) (i : Int) : Option Nat := if 0 ≤ i then (if i < n then some i.toNat else none) else if -(n : Int) ≤ i then some (i + n).toNat else none
def atI {α : Type} (xs : List α) (i : Int) : Option α := (ixN xs.length i).bind fun j => xs[j]?
theorem ixN_seq {n : Nat} {i : Int} {j : Nat} (h : ixN n i = some j) : seqIndex? i n = some j ∧ j < n ∧ -(n : Int) ≤ i ∧ i < n := by
  unfold ixN at h
  by_cases h0 : 0 ≤ i
  · rw [if_pos h0] at h
    by_cases h1 : i < n
    · rw [if_pos h1] at h
      have e : i.toNat = j := Option.some.inj h
      exact ⟨by rw [seqIndex_of h0 h1, e], by omega, by omega, h1⟩
    · rw [if_neg h1] at h; cases h
  · rw [if_neg h0] at h
    by_cases h1 : -(n : Int) ≤ i
    · rw [if_pos h1] at h
      have e : (i + n).toNat = j := Option.some.inj h
      exact ⟨by rw [seqIndex_neg (by omega) h1, e], by omega, h1, by omega⟩
    · rw [if_neg h1] at h; cases h
theorem atI_get {α : Type} {xs : List α} {i : Int} {v : α} (h : atI xs i = some v) : ∃ j, seqIndex? i xs.length = some j ∧ xs[j]? = some v ∧ j < xs.length ∧ -(xs.length : Int) ≤ i ∧ i < xs.length := by
  unfold atI at h
  cases e : ixN xs.length i with
  | none => rw [e] at h; cases h
  | some j =>
    rw [e] at h
    obtain ⟨h1, h2, h3, h4⟩ := ixN_seq e
    exact ⟨j, h1, h, h2, h3, h4⟩
theorem atI_nat {α : Type} {xs : List α} {j : Nat} {v : α} (h : xs[j]? = some v) : atI xs (j : Int) = some v := by
  have hj : j < xs.length := (List.getElem?_eq_some_iff.mp h).1
  have e : ixN xs.length (j : Int) = some j := by
    unfold ixN
    rw [if_pos (by omega), if_pos (by omega)]; simp
  unfold atI; rw [e]; exact h
def PlainIx (b : Expr) : Prop := ∀ o i, subscripted b false o i = operate [o, i] (getItem o i)
def IxR (X : Cx) (r : R2) : Prop :=
  ∀ (value slice : Expr) (pins : List (Addr × Obj)) (s : Shared) (σ : St) (H : Hp) (x y : V) (v u : Value) (Q : VK), Inv X pins σ H s → RelV x v → RelV y u → r x y H Q →
    subscripted slice false v u = operate [v, u] (getItem v u) → wpAny (model X.prog X.w) X.A (subscriptTail value slice v u) (EP X pins σ Q) X.xe s
def MtR (X : Cx) (id : String) (r : V → List V → Hp → VK → Prop) : Prop :=
  ∀ (pins : List (Addr × Obj)) (s : Shared) (σ : St) (H : Hp) (x : V) (xs : List V) (v : Value) (us : List Value) (Q : VK), Inv X pins σ H s → RelV x v → Vals xs us → r x xs H Q →
    wpAny (model X.prog X.w) X.A (call (.builtin id) (v :: us)) (EP X pins σ Q) X.xe s
section
variable {X : Cx} {a b : Expr} {ta tb : TE} {pos : Pos}
theorem pe_ix {r : R2} (hr : IxR X r) (ha : PE X a ta) (hb : PE X b tb) (hs : PlainIx b) : PE X (.Subscript a b pos) (tOp r ta tb) := by
  intro pins s σ H Q I h
  exact Subscript_ (binT ha hb I h fun v u s2 x y H2 I2 rx ry q => hr a b pins s2 σ H2 x y v u Q I2 rx ry q (hs _ _))
def rIxL (K : PySem.W.Frag) : R2 := fun x y H Q => ∃ p xs i v, x = .ref p ∧ y = .int i ∧ SqL K H p xs ∧ atI xs i = some v ∧ Q v H
def rIxT (K : PySem.W.Frag) : R2 := fun x y H Q => ∃ p xs i v, x = .ref p ∧ y = .int i ∧ SqT K H p xs ∧ atI xs i = some v ∧ Q v H
theorem ix_list : IxR X (rIxL X.K) := by
  intro value slice pins s σ H x y v u Q I rx ry h hs
  obtain ⟨p, xs, i, z, rfl, rfl, hq, he, q⟩ := h
  cases rx
  obtain ⟨t, rfl⟩ := ry
  obtain ⟨its, r, pl, hz⟩ := I.list hq
  obtain ⟨j, h1, h2, h3, h4, h5⟩ := atI_get he
  obtain ⟨w, ew, rw'⟩ := r.get h2
  have hl := r.length
  have hn := line63
  have fin : EP X pins σ Q w s := ⟨z, H, I, rw', q⟩
  by_cases h0 : 0 ≤ i
  · have hj : i.toNat = j := by
      rw [seqIndex_of h0 h5] at h1
      exact Option.some.inj h1
    exact item_listR pl.isList h0 (by omega) (by rw [hj]; simpa using ew) fin hs
  · have hj : (i + (its.toArray.size : Int)).toNat = j := by
      rw [seqIndex_neg (by omega) h4] at h1
      rw [List.size_toArray, ← hl]
      exact Option.some.inj h1
    exact subscriptTail_builtinR (x := w) pl.isList.typeIs slot_list_getitem.lookup
      (wpAny_getItem_list_neg (Q := fun r s' => r = w ∧ EP X pins σ Q r s') pl.isList (by omega) (by rw [List.size_toArray] <;> omega) (by omega) (by rw [hj]; simpa using ew) ⟨rfl, fin⟩) hs
theorem ix_tup : IxR X (rIxT X.K) := by
  intro value slice pins s σ H x y v u Q I rx ry h hs
  obtain ⟨p, xs, i, z, rfl, rfl, hq, he, q⟩ := h
  cases rx
  obtain ⟨t, rfl⟩ := ry
  obtain ⟨its, r, pl, hz⟩ := I.tuple hq
  obtain ⟨j, h1, h2, h3, h4, h5⟩ := atI_get he
  obtain ⟨w, ew, rw'⟩ := r.get h2
  have hl := r.length
  have hn := line63
  have fin : EP X pins σ Q w s := ⟨z, H, I, rw', q⟩
  exact subscriptTail_builtinR (x := w) pl.typeIs slot_tuple_getitem.lookup
    (getItem_tuple (j := j) (Q := fun r s' => r = w ∧ EP X pins σ Q r s') pl (by omega) (by omega) (by rw [List.size_toArray, ← hl]; exact h1) (by simpa using ew) ⟨rfl, fin⟩) hs
theorem Inv.lst {pins : List (Addr × Obj)} {σ : St} {H : Hp} {s : Shared} {p : Addr} {xs : List V} (I : Inv X pins σ H s) (h : H p = some (.lst xs)) :
    ∃ (its : List Value) (n : Nat), Vals xs its ∧ s.heap.get? p = some { cls := .type "list", data := .seq its.toArray n } ∧ xs.length ≤ sizeLine := by
  obtain ⟨z, its, n, r, e⟩ := I.hok p _ h
  exact ⟨its, n, r, e, z⟩
theorem slice_bounds (lo hi : Option Int) (n : Nat) : (sliceBounds lo hi none n).1 = ((HT.sIx n 0 lo : Nat) : Int) ∧ (sliceBounds lo hi none n).2.1 = ((HT.sIx n n hi : Nat) : Int) ∧ (sliceBounds lo hi none n).2.2 = 1 := by
  refine ⟨?_, ?_, rfl⟩
  · cases lo with
    | none => simp [sliceBounds, HT.sIx]
    | some i =>
      simp only [sliceBounds, HT.sIx, Option.getD_none, show (1 : Int) > 0 by decide, if_true]
      by_cases h : i < 0
      · simp only [h, if_true] <;> omega
      · simp only [h, if_false] <;> omega
  · cases hi with
    | none => simp [sliceBounds, HT.sIx]
    | some i =>
      simp only [sliceBounds, HT.sIx, Option.getD_none, show (1 : Int) > 0 by decide, if_true]
      by_cases h : i < 0
      · simp only [h, if_true] <;> omega
      · simp only [h, if_false] <;> omega
theorem slicePick_cut (its : List Value) (lo hi : Option Int) : slicePick its.toArray lo hi none = ((its.drop (HT.sIx its.length 0 lo)).take (HT.sIx its.length its.length hi - HT.sIx its.length 0 lo)).toArray := by
  obtain ⟨h1, h2, h3⟩ := slice_bounds lo hi its.toArray.size
  unfold slicePick
  rw [h1, h2, h3]
  simp only [sliceRange_one, pick_run, List.size_toArray] <;> rfl
def rSlL (K : PySem.W.Frag) : V → Option Int → Option Int → Hp → VK → Prop := fun x lo hi H Q => ∃ a xs, x = .ref a ∧ SqL K H a xs ∧ ∀ p, H p = none → Q (.ref p) (upd H p (.lst (cutV xs lo hi)))
theorem sl_list : SlR X (rSlL X.K) := by
  intro pins s σ H x v vl vu lo hi sl Q I rx hs pl pu h
  obtain ⟨a, xs, rfl, hx, q⟩ := h
  cases rx
  obtain ⟨its, r, ht, hz⟩ := I.list hx
  have hlen := r.length
  refine ⟨"list", _, slot_list_getitem.lookup, ht.isList.typeIs, ?_⟩
  refine wpAny_getItem_list_slice ht.isList hs pl pu .none (by simp) ?_ (by rw [List.size_toArray] <;> omega)
  rw [slicePick_cut, ← hlen]
  refine ⟨.ref s.heap.objs.size, _, I.laid (t' := s.toks) (o := .lst (cutV xs lo hi)) (fun b ob q => Heap.get?_push_of_some _ q) (Nat.le_refl _) ?_, rfl, q _ (I.hok.fresh (Nat.le_refl _))⟩
  exact ⟨Nat.le_trans (cutV_length xs lo hi) hz, _, 0, (r.drop (HT.sIx xs.length 0 lo)).take (HT.sIx xs.length xs.length hi - HT.sIx xs.length 0 lo), Heap.get?_push_size _ rfl⟩
def flatV : V → Bool
  | .non => true
  | .bl _ => true
  | .int _ => true
  | .str _ => true
  | _ => false
theorem call_len_seq : CallR X (.builtin "len") (fun xs H Q => ∃ p ys, xs = [.ref p] ∧ (SqL X.K H p ys ∨ SqT X.K H p ys) ∧ Q (.int ys.length) H) := by
  intro pins s σ H xs us Q I r h
  obtain ⟨p, ys, rfl, hq, q⟩ := h
  obtain ⟨u, rfl, rx⟩ := vals1 r
  cases rx
  have hn := line63
  rcases hq with hq | hq
  · obtain ⟨its, r', pl, hz⟩ := I.list hq
    have hlen := r'.length
    exact Calls.call_len_list pl.isList (by simp only [List.size_toArray] <;> omega) ⟨.int ys.length, H, I.tok _, ⟨s.toks + 1, by rw [List.size_toArray, hlen]⟩, q⟩
  · obtain ⟨its, r', pl, hz⟩ := I.tuple hq
    have hlen := r'.length
    exact len_tuple pl (by simp only [List.size_toArray] <;> omega) ⟨.int ys.length, H, I.tok _, ⟨s.toks + 1, by rw [List.size_toArray, hlen]⟩, q⟩
theorem call_list_of : CallR X (.type "list") (fun xs H Q => ∃ p ys, xs = [.ref p] ∧ (SqL X.K H p ys ∨ SqT X.K H p ys) ∧ ∀ l, H l = none → Q (.ref l) (upd H l (.lst ys))) := by
  intro pins s σ H xs us Q I r h
  obtain ⟨p, ys, rfl, hq, q⟩ := h
  obtain ⟨u, rfl, rx⟩ := vals1 r
  cases rx
  have fin : ∀ (its : List Value), Vals ys its → ys.length ≤ sizeLine → ∀ (h' : Heap) (c' : Nat), (∀ b o', s.heap.get? b = some o' → h'.get? b = some o') →
      h'.get? s.heap.objs.size = some { cls := .type "list", dict := none, data := .seq its.toArray c', slots := #[] } → EP X pins σ Q (.ref s.heap.objs.size) { s with heap := h' } := fun its r' hz h' c' kp e =>
    ⟨.ref s.heap.objs.size, _, I.laid (t' := s.toks) kp (Nat.le_refl _) (show ObjOk X.prog X.w _ h' _ (.lst ys) from ⟨hz, its, c', r', e⟩), rfl, q _ (I.hok.fresh (Nat.le_refl _))⟩
  rcases hq with hq | hq
  · obtain ⟨its, r', pl, hz⟩ := I.list hq
    have hlen := r'.length
    obtain ⟨o, ho, hc, n, hd⟩ := pl.isList
    exact call_list_seq p (.inl rfl) ho hc hd (fun h' c' kp e => fin its r' hz h' c' kp e) (by simp only [List.size_toArray] <;> omega)
  · obtain ⟨its, r', pl, hz⟩ := I.tuple hq
    have hlen := r'.length
    obtain ⟨o, ho, hc, n, hd⟩ := pl
    exact call_list_seq p (.inr rfl) ho hc hd (fun h' c' kp e => fin its r' hz h' c' kp e) (by simp only [List.size_toArray] <;> omega)
def tyV (K : PySem.W.Frag) (T : String) (x : V) (H : Hp) : Prop := match x with
  | .str _ => T = "str"
  | .int _ => T = "int"
  | .ref p => (T = "list" ∧ ∃ xs, SqL K H p xs) ∨ (T = "tuple" ∧ ∃ o, K.lookup p = some o ∧ o.cls = .type "tuple" ∧ o.dict = none) ∨
      (T = "dict" ∧ ((∃ kvs, H p = some (.dK kvs)) ∨ ∃ kvs, H p = some (.dT kvs))) ∨ (T = "set" ∧ ∃ S n, H p = some (.set S n))
  | _ => False
theorem tyV_is {pins : List (Addr × Obj)} {σ : St} {H : Hp} {s : Shared} {T : String} {x : V} {v : Value} (I : Inv X pins σ H s) (r : RelV x v) (ty : tyV X.K T x H) :
    s.TypeIs v T ∧ ∀ a, v = .ref a → ∃ ob, s.heap.get? a = some ob ∧ ob.dict = none := by
  cases x with
  | str z =>
    obtain ⟨t, rfl⟩ := r
    cases (show T = "str" from ty)
    exact ⟨typeIs_str s z t, fun _ e => nomatch e⟩
  | int i =>
    obtain ⟨t, rfl⟩ := r
    cases (show T = "int" from ty)
    exact ⟨typeIs_int s i t, fun _ e => nomatch e⟩
  | ref p =>
    cases r
    rcases ty with ⟨rfl, xs, hq⟩ | ⟨rfl, o, hk, hc, hd⟩ | ⟨rfl, hk⟩ | ⟨rfl, S, n, hk⟩
    · obtain ⟨its, _, pl, _⟩ := I.list hq
      refine ⟨pl.isList.typeIs, fun a e => ?_⟩
      cases e
      obtain ⟨o, n, e, c, hd, _⟩ := pl
      exact ⟨o, e, hd⟩
    · refine ⟨⟨o, I.kIn p o hk, hc⟩, fun a e => ?_⟩
      cases e
      exact ⟨o, I.kIn _ o hk, hd⟩
    · have z : ∃ o, s.heap.get? p = some o ∧ o.ExactDict := by
        rcases hk with ⟨kvs, hk⟩ | ⟨kvs, hk⟩
        · obtain ⟨_, _, _, _, o, _, _, e, ex, _⟩ := I.hok p _ hk
          exact ⟨o, e, ex⟩
        · obtain ⟨_, _, _, _, o, _, _, e, ex, _⟩ := I.hok p _ hk
          exact ⟨o, e, ex⟩
      obtain ⟨o, e, ex⟩ := z
      refine ⟨⟨o, e, ex.1⟩, fun a e2 => ?_⟩
      cases e2
      exact ⟨o, e, ex.2.1⟩
    · obtain ⟨o, _, _, _, e, ex, _⟩ := I.hok p _ hk
      refine ⟨⟨o, e, ex.1⟩, fun a e2 => ?_⟩
      cases e2
      exact ⟨o, e, ex.2.1⟩
  | _ => exact False.elim ty
def tBM0 (K : PySem.W.Frag) (T : String) (r : V → List V → Hp → VK → Prop) (to : TE) : TE := fun σ H Q => to σ H fun x H1 => tyV K T x H1 ∧ r x [] H1 Q
def tBM (K : PySem.W.Frag) (T : String) (r : V → List V → Hp → VK → Prop) (to : TE) (t : TA) : TE := fun σ H Q => to σ H fun x H1 => tyV K T x H1 ∧ t σ H1 fun xs H2 => r x xs H2 Q
variable {o e : Expr} {es : List Expr} {to : TE} {t : TA} {name : Str} {apos cpos : Pos} {T id : String} {r : V → List V → Hp → VK → Prop}
theorem pe_bm (pa : PlainAttrs T) (slot : Slot T name id) (hty : typeOf (.builtin id) = pure (.type "method_descriptor")) (hm : MtR X id r) (ho : PE X o to) (ha : PA X (e :: es) t)
    (hbase : attributeBase o name X.env (eval o X.env) = eval o X.env := by rfl)
    (hfew : ((backTo cpos (starEach (e :: es) X.env)).all (fun x => !x.1) && (backToKw cpos (keywordEach [] X.env)).all (fun x => x.1.isSome)
      && decide ((e :: es).length + ([] : List Keyword).length + (if ([] : List Keyword).isEmpty then 0 else 1) < 30)) = true := by rfl)
    (hline : (apos.endLine == cpos.line) = true := by rfl) (hs : starEach (e :: es) X.env = (false, eval e X.env) :: starEach es X.env := by rfl) (hplain : (backTo cpos (starEach es X.env)).any (·.1) = false := by rfl) :
    PE X (.Call (.Attribute o name apos) (e :: es) [] cpos) (tBM X.K T r to t) := by
  intro pins s σ H Q I h
  refine wpAny_Call_method_late hbase hfew hline rfl (thn (ho pins s σ H _ I h) fun v s1 ⟨x, H1, I1, r1, ty, q1⟩ => ?_)
  obtain ⟨h1, h2⟩ := tyV_is I1 r1 ty
  refine ⟨T, id, pa, slot, hty, h1, h2, ?_⟩
  have hA := ha cpos pins s1 σ H1 _ I1 q1
  rw [hs] at hA ⊢
  refine Calls.callWith_builtin (by show (false || (backTo cpos (starEach es X.env)).any (·.1)) = false; rw [hplain] <;> rfl) (Calls.evalArgs_plain ?_)
  exact thn hA fun us s2 ⟨vs, H2, I2, r2, q2⟩ => hm pins s2 σ H2 x vs v us Q I2 r1 r2 q2
end
end L2
namespace L2
open PySem PySem.Spec PyProof.Rows
def MtM (X : Cx) (id : String) (r : V → List V → Hp → VK → Prop) : Prop :=
  ∀ (pins : List (Addr × Obj)) (s : Shared) (σ : St) (H : Hp) (x : V) (xs : List V) (v : Value) (us : List Value) (Q : VK), Inv X pins σ H s → RelV x v → Vals xs us → r x xs H Q →
    wpAny (model X.prog X.w) X.A (call (.builtin id) (v :: us)) (EP X pins σ Q) X.xe s
theorem Vals.one : ∀ {x : V} {us : List Value}, Vals [x] us → ∃ u, us = [u] ∧ RelV x u
  | _, _, .cons r .nil => ⟨_, rfl, r⟩
theorem Vals.zero : ∀ {us : List Value}, Vals [] us → us = []
  | _, .nil => rfl
section
variable {X : Cx} {pins : List (Addr × Obj)} {σ : St} {H : Hp} {s : Shared} {l b : Addr} {xs ys zs : List V}
theorem Inv.lset {its its' : List Value} {n : Nat} {f : Array Value → Array Value} {t' : Nat} (I : Inv X pins σ H s) (hH : H l = some (.lst xs))
    (e : s.heap.get? l = some { cls := .type "list", data := .seq its.toArray n }) (hf : f its.toArray = its'.toArray) (hv : Vals ys its') (hz : ys.length ≤ sizeLine) :
    Inv X pins σ (upd H l (.lst ys)) { s with heap := s.heap.update l (Obj.mapSeq f), toks := t' } := by
  have q := PySem.IsL.update e f
  rw [hf] at q
  refine I.write (x := l) (e := l) (by rw [hH]; exact trivial) (.inl rfl) (fun b' u hb hu => (Heap.get?_update_other s.heap (Obj.mapSeq f) (Ne.symm hb)).trans hu) ⟨_, q⟩ ?_
  exact ⟨hz, its', _, hv, q⟩
theorem Inv.lnew {its : List Value} {t' : Nat} (I : Inv X pins σ H s) (hv : Vals ys its) (hz : ys.length ≤ sizeLine) :
    Inv X pins σ (upd H s.heap.objs.size (.lst ys)) { s with heap := s.heap.push { cls := .type "list", data := .seq its.toArray }, toks := t' } :=
  I.laid (fun _ _ q => Heap.get?_push_of_some _ q) (Nat.le_refl _) ⟨hz, its, 0, hv, Heap.get?_push_size _ rfl⟩
theorem Inv.fresh (I : Inv X pins σ H s) : H s.heap.objs.size = none := I.hok.fresh (Nat.le_refl _)
theorem Inv.lstM (I : Inv X pins σ H s) (hH : H l = some (.lst xs)) : xs.length ≤ sizeLine ∧ ∃ (its : List Value) (n : Nat), Vals xs its ∧ xs.length = its.length ∧ s.heap.get? l = some { cls := .type "list", data := .seq its.toArray n } := by
  obtain ⟨z, its, n, r, e⟩ := I.hok l _ hH
  exact ⟨z, its, n, r, r.length, e⟩
end
section
variable {X : Cx}
def rAppend : V → List V → Hp → VK → Prop := fun x vs H Q => ∃ l xs y, x = .ref l ∧ vs = [y] ∧ H l = some (.lst xs) ∧ xs.length < sizeLine ∧ Q .non (upd H l (.lst (xs ++ [y])))
theorem mt_append : MtM X "list.append" rAppend := by
  intro pins s σ H x vs v us Q I rx rv h
  obtain ⟨l, xs, y, rfl, rfl, hH, hz, q⟩ := h
  cases rx
  obtain ⟨u, rfl, ru⟩ := rv.one
  obtain ⟨z, its, n, r, hl, e⟩ := I.lstM hH
  refine call_meets F.slot_list_append ⟨_, e, rfl⟩ F.entry_list_append (F.args_list_append_2 _ _) (PySem.list_append l its.toArray n u (by rw [List.size_toArray]; omega)) ⟨e, ?_⟩
  refine ⟨.non, _, I.lset (its' := its ++ [u]) hH e (by simp) (r.append (.cons ru .nil)) ?_, rfl, q⟩
  rw [List.length_append, List.length_singleton]
  omega
end
section
variable {prog : Program} {w : World} {A : Around} {E : Value → Shared → Prop} {s : Shared}
set_option maxRecDepth 100000 in
end
section
variable {X : Cx}
end
end L2
namespace Att
open PySem PySem.W PySem.Calls PyProof.Rows
theorem ints_of_wellAll {P : Params} {h : Heap} : ∀ (ns : List Int) (vs : List Value), WellAll P h vs (ns.map WData.int) → IntsAre vs ns := by
  intro ns
  induction ns with
  | nil =>
    intro vs w
    rw [List.map_nil] at w
    cases w
    exact .nil
  | cons n ns ih =>
    intro vs w
    rw [List.map_cons] at w
    cases w with
    | cons a b =>
      cases a
      exact .cons _ _ (ih _ b)
theorem script_of {l : OpenLaw} {n : Nat} (hn : l.most = some n) {P : Params} {h : Heap} {args : List WData} {vals : List Value}
    (hpre : l.row.toRowW.claim.pre args = true) (hwl : WellAll P h vals args) :
    ∃ a vs ns, vals = [Value.ref a] ∧ args = [WData.list (ns.map WData.int)] ∧ h.get? a = some { cls := .type "list", data := .seq vs.toArray } ∧ IntsAre vs ns ∧ ns.length ≤ n := by
  have hsh : WShape.hasAll [] args [.list .int] = true := (pre_splitW hpre).1
  have hc : l.pre.holds [] { args := args } = true := (pre_splitW hpre).2
  obtain ⟨d, r, rfl, h1, h2⟩ := hasAllW_cons hsh
  obtain rfl := hasAllW_nil h2
  obtain ⟨xs, rfl, h3⟩ := hasW_list h1
  obtain ⟨ns, rfl⟩ := items_int h3
  have hlen : ns.length ≤ n := by
    unfold OpenLaw.pre at hc
    have h4 : (WTm.not (.lt (.lit (.int (n : Int))) (.len (.arg 0)))).holds [] { args := [.list (ns.map .int)] } = true := by
      have h4 := (holds_andW hc).1
      rw [hn] at h4
      exact h4
    have h5 := condW_of h4 (w_not (w_lt w_lit (w_len_list (w_arg rfl))))
    rw [List.length_map] at h5
    refine Nat.le_of_not_lt fun q => ?_
    have q' : (n : Int) < ((ns.length : Nat) : Int) := by omega
    first
      | (rw [decide_eq_true q'] at h5; exact absurd h5 (by decide))
      | (simp at h5; omega)
  cases hwl with
  | cons w1 w2 =>
    cases w2
    cases w1 with
    | list ho hall => exact ⟨_, _, ns, rfl, rfl, ho, ints_of_wellAll ns _ hall, hlen⟩
theorem post_true (l : OpenLaw) (args : List WData) : l.row.toRowW.claim.post args (.bool true) args = true :=
  postW_of (r := l.row.toRowW) (X := (true == true))
    (show WShape.has [] (.bool true) .bool = true by first | rfl | decide | simp [WShape.has, WShape.arms, WShape.armsAll])
    (show (WTm.eq .res (.lit (.bool true))).value [] { args := args, res := some (.bool true), after := args } = some (.bool (true == true)) from w_eq_bool (w_res rfl) w_lit) rfl
theorem attach_call {l : OpenLaw} {n : Nat} {q : Program} {loose : List Str} {XP : (Str → Option Value) → Heap → Prop} {YP : World → Heap → Prop} {d : DefRec}
    (hn : l.most = some n) (hdf : d.params.defaults = [])
    (call : ∀ (w : World) (s₀ s₁ : Shared) (mg mb : Str → Option Value) (fa : Addr) (o : Obj) (pm cd doc : Value) (a : Addr) (vs : List Value) (ns : List Int),
      Ground q loose [] XP w s₀ mg mb s₁.heap → YP w s₁.heap →
      s₁.heap.get? fa = some o → o.data = .func (docDef d.name d.params d.body d.scope pm cd doc) → s₁.heap.CodeRec cd d.name → mg d.name = some (.ref fa) →
      s₁.heap.get? a = some { cls := .type "list", data := .seq vs.toArray } → IntsAre vs ns → ns.length ≤ n → s₁.gens = #[] →
      codeAny (model l.prog w) callerA (.call (.ref fa) ⟨[.ref a], []⟩) (fun r s' => r = .ok (.ret (.bool true)) ∧ OldK s₁.heap s'.heap ∧ s'.os = s₁.os ∧ AllBare s'.gens) s₁) :
    WalkO q loose XP YP l.row.toRowW d [] (fun f vs => PySem.call f vs) := by
  intro w s₀ s₁ mg mb G Y fa o pm cd doc dV kV ho hd hcd hD hmg hg args vals as hpre hlay hrd hwl hlo
  obtain rfl : dV = .none := Dflts.none hD hdf
  obtain rfl : kV = .none := Dflts.noKw hD
  obtain ⟨a, vs, ns, rfl, rfl, hobj, hints, hlen⟩ := script_of hn hpre hwl
  refine enter_call (codeAny_mono (call w s₀ s₁ mg mb fa o pm cd doc a vs ns G Y ho (fd_plain hd) hcd hmg hobj hints hlen hg) fun r s' hq => ?_)
  obtain ⟨rfl, h2, h3, h4⟩ := hq
  exact ⟨.inl ⟨.bool true, .bool true, [], rfl, fun _ => rfl, .bool true, post_true l _, fun _ => ⟨List.Pairwise.nil, fun _ hm => (nomatch hm)⟩⟩, h2, h3, h4⟩
section
variable {prog : Program} {w : World} {A : Around} {E : Value → Shared → Prop} {s : Shared} {K : Frag}
end
end Att
namespace L2
open PySem PySem.Spec PyProof.Rows
theorem vals_ints : ∀ {vs : List Value} {ns : List Int}, IntsAre vs ns → Vals (ns.map V.int) vs
  | _, _, .nil => .nil
  | _, _, .cons n t h => .cons ⟨t, rfl⟩ (vals_ints h)
def Only (H : Hp) : Prop := ∀ b, H b = none ∨ ∃ o xs, H b = some (.frz o (.lst xs))
theorem law_call {P : Program} {w : World} {K : PySem.W.Frag} {mg mb : Str → Option Value} {CX : CXT} {k : Nat} {fa a : Addr} {fd : FuncData} {x : Str} {sp : Sp} {s₁ : Shared} {vs : List Value} {ns : List Int}
    (KX : K.In s₁.heap) (hns : s₁.heap.Ns mainGlobals mg) (hb : s₁.heap.Ns builtinsNs mb) (hbb : ∀ x : Str, x ≠ "__name__" → mb x = bootBuiltins x) (hlim : s₁.heap.NoLimit) (hg : s₁.gens = #[])
    (ha : s₁.heap.get? a = some { cls := .type "list", data := .seq vs.toArray }) (hi : IntsAre vs ns) (hl : ns.length ≤ sizeLine) (hr : Room k callerA)
    (F : ∀ base : Heap, K.In base → base.Ns mainGlobals mg → FnOk P w K mg base CX k fa fd [x] sp) (hbind : ∀ (s : Shared) (u : Value), BindsTo s fd ⟨[u], []⟩ [(x, u)])
    (hsp : ∀ H : Hp, Only H → SqL K H a (ns.map V.int) → sp [.ref a] H (fun v _ => v = .bl true) fun _ _ _ => False)
    (hCX : ∀ H e s', CX [] H s₁ (fun _ _ _ => False) e s' → False) :
    codeAny (model P w) callerA (.call (.ref fa) ⟨[.ref a], []⟩) (fun r s' => r = .ok (.ret (.bool true)) ∧ OldK s₁.heap s'.heap ∧ s'.os = s₁.os ∧ AllBare s'.gens) s₁ := by
  have rv := vals_ints hi
  have lenV := hi.length
  have core : ∀ H : Hp, Only H → SqL K H a (ns.map V.int) → HOk P w H s₁.heap → (∀ b, H b ≠ none → b = a) → (H a ≠ none → K.lookup a = none) →
      codeAny (model P w) callerA (.call (.ref fa) ⟨[.ref a], []⟩) (fun r s' => r = .ok (.ret (.bool true)) ∧ OldK s₁.heap s'.heap ∧ s'.os = s₁.os ∧ AllBare s'.gens) s₁ := by
    intro H hO hS hok hA hK
    have base_of : ∀ {b : Addr} {o : Obj}, s₁.heap.get? b = some o → H b = none → (hidT s₁.heap H).get? b = some o := fun e n => hidT_get e n
    have noA : ∀ {b : Addr} {o : Obj} {es : Array DictEntry} {ep : Nat}, s₁.heap.get? b = some o → o.data = .dict es ep → H b = none := fun {b o es ep} e d => by
      cases q : H b with
      | none => rfl
      | some u =>
        have e' : b = a := hA b (by rw [q]; simp)
        subst e'
        rw [ha] at e; cases e
        have d' : Data.seq vs.toArray _ = Data.dict es ep := d
        cases d'
    have nsK : ∀ {b : Addr} {m : Str → Option Value}, s₁.heap.Ns b m → (hidT s₁.heap H).Ns b m := fun {b m} ⟨o, es, ep, e, d, r⟩ => ⟨o, es, ep, base_of e (noA e d), d, r⟩
    have hKb : K.In (hidT s₁.heap H) := fun b o e => base_of (KX b o e) (by
      cases q : H b with
      | none => rfl
      | some u =>
        have e' : b = a := hA b (by rw [q]; simp)
        subst e'
        rw [hK (by rw [q]; simp)] at e; cases e)
    have hM : Mod K mg (hidT s₁.heap H) := ⟨hKb, nsK hns, ⟨mb, nsK hb, hbb⟩, let ⟨mc, h1, h2⟩ := hlim; ⟨mc, nsK h1, h2⟩⟩
    have e0 : Env0 P w K mg (hidT s₁.heap H) callerA [] s₁ H := ⟨rfl, hM, fun b o e => of_hidT e, Nat.le_of_eq (hidT_size _ _), trivial, fun b hb => absurd (show b ∈ ([] : List Addr) from hb) (by simp), hok, .of_eq hg⟩
    refine codeAny_mono ((F _ hKb (nsK hns)).run callerA [] s₁ H ⟨[.ref a], []⟩ [.ref a] [.ref a] _ _ hr e0 (hbind s₁ (.ref a)) (.cons rfl .nil) (hsp H hO hS)) fun r s' h => ?_
    cases r with
    | error e => exact (hCX H e s' h).elim
    | ok fl =>
      cases fl with
      | next => exact False.elim h
      | brk => exact False.elim h
      | cont => exact False.elim h
      | ret u =>
        obtain ⟨v, H', os, bare, un, hok', r', q⟩ := h
        have q' : v = .bl true := q
        subst q'
        obtain rfl : u = Value.bool true := r'
        refine ⟨rfl, OldK.of_keep fun b o e => ?_, os, bare⟩
        cases q : H b with
        | none => exact un.keep b o e q (by intro z; exact absurd (show b ∈ ([] : List Addr) from z) (by simp)) (by simp)
        | some u =>
          rcases hO b with z | ⟨ob, xs, z⟩
          · rw [q] at z; cases z
          · have z2 := un.frzs b ob _ z
            obtain ⟨e1, _⟩ := hok b _ z
            obtain ⟨e2, _⟩ := hok' b _ z2
            rw [e] at e1; cases e1
            exact e2
  cases hk : K.lookup a with
  | some o =>
    have e := KX a o hk
    rw [ha] at e
    cases e
    refine core (fun _ => none) (fun _ => .inl rfl) (.inr ⟨_, vs.toArray, _, hk, rfl, rfl, rfl, by rw [List.size_toArray, lenV]; exact hl, by simpa using rv⟩) (fun b u z => by have z' : (none : Option HO) = some u := z; cases z') (fun b z => absurd rfl z) fun z => absurd rfl z
  | none =>
    refine core (fun b => if b = a then some (.frz { cls := .type "list", data := .seq vs.toArray } (.lst (ns.map V.int))) else none) (fun b => ?_) (.inl (.inr ⟨{ cls := .type "list", data := .seq vs.toArray }, if_pos rfl⟩)) (fun b u z => ?_) (fun b z => ?_) fun _ => hk
    · by_cases hb : b = a
      · exact .inr ⟨_, _, if_pos hb⟩
      · exact .inl (if_neg hb)
    · by_cases hb : b = a
      · have z' := (if_pos hb).symm.trans z
        cases z'
        subst hb
        exact ⟨ha, by rw [List.length_map]; exact hl, vs, _, rv, ha⟩
      · have z' := (if_neg hb).symm.trans z
        cases z'
    · by_cases hb : b = a
      · exact hb
      · exact absurd (if_neg hb) z
end L2
namespace L2
open PySem PySem.Spec PyProof.Rows
theorem walk_of {l : PySem.W.OpenLaw} {n k : Nat} {q : Program} {loose : List Str} {XP : (Str → Option Value) → Heap → Prop} {YP : World → Heap → Prop} {d : DefRec} {K : Params → PySem.W.Frag} {CX : World → CXT} {sp : World → Sp} {x : Str}
    (hn : l.most = some n) (hn2 : n ≤ sizeLine) (hdf : d.params.defaults = []) (hr : Room k callerA)
    (hY : ∀ (w : World) (h : Heap), YP w h → (K w.params).In h)
    (F : ∀ (w : World) (mg : Str → Option Value) (fa : Addr) (h : Heap), (K w.params).In h → h.Ns mainGlobals mg → mg d.name = some (.ref fa) →
      ∃ fd : FuncData, (∀ (s : Shared) (u : Value), BindsTo s fd ⟨[u], []⟩ [(x, u)]) ∧
        ∀ base : Heap, (K w.params).In base → base.Ns mainGlobals mg → FnOk l.prog w (K w.params) mg base (CX w) k fa fd [x] (sp w))
    (hsp : ∀ (w : World) (H : Hp) (a : Addr) (ns : List Int), ns.length ≤ n → Only H → SqL (K w.params) H a (ns.map V.int) → sp w [.ref a] H (fun v _ => v = .bl true) fun _ _ _ => False)
    (hCX : ∀ (w : World) (H : Hp) (s : Shared) (e : Value) (s' : Shared), CX w [] H s (fun _ _ _ => False) e s' → False) :
    PySem.W.WalkO q loose XP YP l.row.toRowW d [] (fun f vs => PySem.call f vs) := by
  refine Att.attach_call hn hdf fun w s₀ s₁ mg mb fa o pm cd doc a vs ns G Y ho hd hcd hmg hobj hints hlen hg => ?_
  have KX := hY w _ Y
  obtain ⟨fd, hb, hF⟩ := F w mg fa _ KX G.T.g hmg
  exact law_call KX G.T.g G.T.b G.T.builtins G.T.nolimit hg hobj hints (Nat.le_trans hlen hn2) hr hF hb (fun H hO hS => hsp w H a ns hlen hO hS) fun H e s' => hCX w H s₁ e s'
end L2
namespace L2
open PySem PySem.Spec PyProof.Rows
def inClass (s : Stmt) (j : Nat) : Stmt := match s with
  | .ClassDef _ _ _ body _ _ _ _ _ _ _ => body.getD j (.Pass ⟨0, 0, 0, 0⟩)
  | _ => .Pass ⟨0, 0, 0, 0⟩
def defArgs (s : Stmt) : Arguments := match s with
  | .FunctionDef _ a _ _ _ _ _ _ _ _ => a
  | _ => { posonlyargs := [], args := [], vararg := none, kwonlyargs := [], kw_defaults := [], kwarg := none, defaults := [] }
def defBody (s : Stmt) : List Stmt := match s with
  | .FunctionDef _ _ b _ _ _ _ _ _ _ => b
  | _ => []
def defScope (s : Stmt) : Scope := match s with
  | .FunctionDef _ _ _ _ _ _ sc _ _ _ => sc
  | _ => { kind := .function, names := [], isGenerator := false, isCoroutine := false }
abbrev CX0 : CXT := fun _ _ _ _ _ _ => False
abbrev E0 : XK := fun _ _ _ => False
theorem pass0 {X : Cx} : Passes CX0 X E0 := fun _ _ _ _ _ _ _ h => h.elim
structure Fun (K : PySem.W.Frag) (x qual : Str) (st : Stmt) (f : Addr) (fd : FuncData) : Prop where
  ex : ∃ (oc : Value) (od : Option Addr) (kV doc pm : Value) (an : Option Addr) (cdv ct : Value) (osl : Array (Option Value)),
    fd = PySem.W.fnOf x qual (defArgs st) (defBody st) (defScope st) .none kV doc pm an cdv ct ∧ K.lookup f = some ⟨oc, od, .func fd, osl⟩ ∧ PySem.W.codeIn K cdv qual = true
  kp : PySem.W.keepIn K (.ref f) = true
section
variable {P : Program} {w : World} {K : PySem.W.Frag} {mg : Str → Option Value} {base : Heap}
theorem Fun.ok {x qual : Str} {st : Stmt} {f : Addr} {fd : FuncData} {N ps : List Str} {k : Nat} {sp : Sp} (F : Fun K x qual st f fd) (S : FnScope N ps (defScope st)) (len : ∀ vs H Q E, sp vs H Q E → vs.length = ps.length)
    (hbody : ∀ (cdv : Value) (A : Around) (outer : List Env) (s : Shared) (H : Hp) (vs : List V) (Q : VK) (E : XK), Room k (A.deeper (envOfC qual (defScope st) s.heap.objs.size f cdv)) → sp vs H Q E →
      ∃ t, PSs (cxOf CX0 P w K mg base N qual (defScope st) f cdv A outer s H E).nox (defBody st) t ∧ t { nx := fun _ H' => Q .non H', rt := Q } (start N vs) H) : FnOk P w K mg base CX0 (k + 1) f fd ps sp := by
  obtain ⟨oc, od, kV, doc, pm, an, cdv, ct, osl, rfl, lk, hcd⟩ := F.ex
  refine fn_of lk hcd S len fun A outer s H vs Q E hr hsp => ?_
  obtain ⟨t, h, q⟩ := hbody cdv A outer s H vs Q E hr hsp
  exact ⟨t, h.nox, q⟩
theorem Fun.binds {x qual : Str} {st : Stmt} {f : Addr} {fd : FuncData} {ps : List Str} (F : Fun K x qual st f fd)
    (h : ∀ (kV doc pm : Value) (an : Option Addr) (cdv ct : Value) (us : List Value), us.length = ps.length → bindArgs (PySem.W.fnOf x qual (defArgs st) (defBody st) (defScope st) .none kV doc pm an cdv ct) ⟨us, []⟩ = pure (ps.zip us)) : Binds K fd ps [] := by
  obtain ⟨oc, od, kV, doc, pm, an, cdv, ct, osl, rfl, lk, hcd⟩ := F.ex
  exact .all (h kV doc pm an cdv ct)
theorem fun_mk {x qual : Str} {st : Stmt} {f : Addr} {oc : Value} {od an : Option Addr} {osl : Array (Option Value)} {kV doc pm cdv ct : Value} (l : K.lookup f = some ⟨oc, od, .func (PySem.W.fnOf x qual (defArgs st) (defBody st) (defScope st) .none kV doc pm an cdv ct), osl⟩)
    (c : PySem.W.codeIn K cdv qual = true) (k : PySem.W.keepIn K (.ref f) = true) : Fun K x qual st f (PySem.W.fnOf x qual (defArgs st) (defBody st) (defScope st) .none kV doc pm an cdv ct) := ⟨⟨oc, od, kV, doc, pm, an, cdv, ct, osl, rfl, l, c⟩, k⟩
end
theorem small1000 {n : Nat} (h : n ≤ 1000) : n < sizeLine := Nat.lt_of_le_of_lt h (by decide)
section
variable {X : Cx}
theorem pv (i : Nat) {x : Str} {pos : Pos} (hN : X.N[i]? = some x := by rfl) (hv : Vis X.env.scope x := by first | exact Or.inl rfl | exact Or.inr (Or.inl rfl) | exact Or.inr (Or.inr rfl)) (hd : (x == ("__debug__" : Str)) = false := by decide)
    (hcd : (x == ("__classdict__" : Str)) = false := by decide) : PE X (.Name x pos) (tVar i) := pe_var hN hv hd hcd
end
theorem iteF {A B : Prop} (h : B) : if false = true then A else B := by
  rw [if_neg Bool.false_ne_true]
  exact h
theorem iteT {A B : Prop} (h : A) : if true = true then A else B := by
  rw [if_pos rfl]
  exact h
theorem ite2 {c A B : Prop} [Decidable c] (h1 : c → A) (h2 : ¬ c → B) : if c then A else B := by
  by_cases h : c
  · rw [if_pos h]
    exact h1 h
  · rw [if_neg h]
    exact h2 h
def Same (H H' : Hp) : Prop := ∀ b o, H b = some o → H' b = some o
theorem Same.refl (H : Hp) : Same H H := fun _ _ h => h
theorem Same.trans {H H1 H2 : Hp} (a : Same H H1) (b : Same H1 H2) : Same H H2 := fun c o h => b c o (a c o h)
theorem Same.free {H H' : Hp} (e : Same H H') {l : Addr} (h : H' l = Option.none) : H l = Option.none := by
  cases q : H l with
  | none => rfl
  | some o =>
    rw [e l o q] at h
    cases h
theorem Same.seq {K : PySem.W.Frag} {H H' : Hp} {a : Addr} {xs : List V} (e : Same H H') (h : SqL K H a xs) : SqL K H' a xs := by
  rcases h with (h | ⟨o, h⟩) | h
  · exact .inl (.inl (e _ _ h))
  · exact .inl (.inr ⟨o, e _ _ h⟩)
  · exact .inr h
end L2
set_option maxHeartbeats 4000000
namespace L2
open PySem PySem.Spec PyProof.Rows
theorem bt_abs : bootBuiltins "abs" = some (.builtin "abs") := by decide +kernel
theorem bt_len : bootBuiltins "len" = some (.builtin "len") := by decide +kernel
theorem bt_isinstance : bootBuiltins "isinstance" = some (.builtin "isinstance") := by decide +kernel
theorem bt_int : bootBuiltins "int" = some (.type "int") := by decide +kernel
theorem bt_bool : bootBuiltins "bool" = some (.type "bool") := by decide +kernel
theorem bt_str : bootBuiltins "str" = some (.type "str") := by decide +kernel
theorem bt_list : bootBuiltins "list" = some (.type "list") := by decide +kernel
theorem bt_tuple : bootBuiltins "tuple" = some (.type "tuple") := by decide +kernel
theorem bt_dict : bootBuiltins "dict" = some (.type "dict") := by decide +kernel
section
variable {X : Cx} {pos : Pos}
def DivOk (j : Int) : Prop := 0 < j ∧ (j < 1073741824 ∨ j.natAbs.log2 < 9000)
theorem DivOk.small {j : Int} (h : 0 < j) (h2 : j < 1073741824) : DivOk j := ⟨h, .inl h2⟩
theorem op_fdivL : OpR X (binaryOp .FloorDiv) (rI (fun _ j => DivOk j) fun i j => .int (i / j)) := opI fun i j _ _ _ _ _ hc q => by
  have h1 : (0 : Int) < j := hc.1
  refine floordiv_int (by omega) (by rw [Int.fdiv_eq_ediv_of_nonneg i (by omega)]; exact q) (.inl ?_)
  rcases hc.2 with h2 | h2
  · exact PyProof.noPylong_small (by omega)
  · exact PyProof.noPylong_of_log2 h2
def rCatS (K : PySem.W.Frag) : R2 := fun x y H Q => ∃ l b xs zs, x = .ref l ∧ y = .ref b ∧ SqL K H l xs ∧ SqL K H b zs ∧ xs.length + zs.length ≤ sizeLine ∧ ∀ p, H p = none → Q (.ref p) (upd H p (.lst (xs ++ zs)))
theorem op_catS : OpR X (binaryOp .Add) (rCatS X.K) := by
  intro pins s σ H x y v u Q I rx ry h
  obtain ⟨l, b, xs, zs, rfl, rfl, hH, hB, hz, q⟩ := h
  cases rx
  cases ry
  obtain ⟨its, r, hl, z⟩ := I.list hH
  obtain ⟨its2, r2, hl2, z2⟩ := I.list hB
  obtain ⟨⟨cls, dd, data, sl⟩, n, ho, hc, hdd, hd⟩ := hl
  obtain ⟨⟨cls2, dd2, data2, sl2⟩, n2, ho2, hc2, hdd2, hd2⟩ := hl2
  simp only at hc hd hc2 hd2
  subst hc hd hc2 hd2
  have l1 := r.length
  have l2 := r2.length
  have ea : its.toArray ++ its2.toArray = (its ++ its2).toArray := by simp
  refine concat_meets ⟨_, ho, rfl⟩ ⟨_, ho2, rfl⟩ noFill_list_add seq_list_add PySem.F.slot_list_add PySem.F.entry_list_add (PySem.F.args_list_add_2 _ _) (list_addW l b its.toArray its2.toArray n n2 dd dd2 sl sl2 (by rw [List.size_toArray, List.size_toArray]; omega)) ⟨ho, ho2, ?_⟩
  rw [ea]
  exact ⟨.ref _, _, I.lnew (t' := s.toks) (r.append r2) (by rw [List.length_append]; omega), rfl, q _ I.fresh⟩
def gLst (K : PySem.W.Frag) (n : Nat) (t : TGs) : TG := fun v σ H Q => ∃ a xs, v = .ref a ∧ SqL K H a xs ∧ xs.length = n ∧ t xs σ H Q
end
end L2
namespace L2
open PySem PySem.Spec PyProof.Rows
section
variable {X : Cx}
end
end L2
namespace L2
open PySem PySem.Spec PyProof.Rows
end L2
namespace L2
open PySem PySem.Spec PyProof.Rows
theorem cxOf_K (CX : CXT) (P : Program) (w : World) (K : PySem.W.Frag) (mg : Str → Option Value) (base : Heap) (N : List Str) (qual : Str) (scope : Scope) (f : Addr) (cd : Value) (A : Around) (outer : List Env) (s : Shared) (H : Hp) (E : XK) :
    (cxOf CX P w K mg base N qual scope f cd A outer s H E).K = K := rfl
end L2
namespace L2
open PySem PySem.Spec PyProof.Rows
theorem kit_same (K : PySem.W.Frag) (t : String) : PySem.W.kitOne K (.type t) (.type t) = some true := by
  unfold PySem.W.kitOne
  rw [if_pos (by simp)]
theorem kit_far (K : PySem.W.Frag) {t u : String} {b : Bool} (e1 : (Value.type t == Value.type u) = false) (e2 : PySem.W.kitMeta u = true) (e3 : (fastBuiltinMro t).map (·.contains (Value.type u)) = some b) : PySem.W.kitOne K (.type t) (.type u) = some b := by
  unfold PySem.W.kitOne
  rw [e1, if_neg Bool.false_ne_true]
  show (if PySem.W.kitMeta u = true then _ else _) = _
  rw [if_pos e2]
  exact e3
end L2
namespace L2
open PySem PySem.Spec PyProof.Rows
theorem Same.put {H : Hp} {b : Addr} {o : HO} (h : H b = none) : Same H (upd H b o) := fun c u e => by
  rw [upd_ne (ne_of_none e h)]
  exact e
end L2
namespace L2
theorem scal_ii (i j : Int) : scal (.int i) (.int j) = true := rfl
theorem scal_bb (i j : Bool) : scal (.bl i) (.bl j) = true := rfl
theorem scal_ss (i j : PySem.Str) : scal (.str i) (.str j) = true := rfl
theorem scal_in (i : Int) : scal (.int i) .non = true := rfl
theorem scal_ni (i : Int) : scal .non (.int i) = true := rfl
end L2
namespace L2
open PySem PySem.Spec PyProof.Rows
def cxLc (X : Cx) (N : List Str) (scope : Scope) (cl : List (Str × Addr)) (C : Addr) (s : Shared) (H : Hp) (fp : List Addr) : Cx :=
  { X with N := N, s₀ := s, H₀ := H, env := compEnvC scope cl C X.env, outer := X.stack, stack := X.stack, ex := fp, fn := fun _ => false, pn := [], xe := fun _ _ => False }
def lcSlots (fr : List Nat) (σ : St) (v : Option V) : St := v :: fr.map fun j => (σ[j]?).join
structure LcOk (X : Cx) (x : Str) (ns : List Str) (fr : List Nat) (scope : Scope) (cl : List (Str × Addr)) : Prop where
  clos : closureFor scope X.env = pure cl
  nocell : ∀ y ∈ scope.names, y.2 ≠ .cell
  kind : scope.kind = .function
  own : ∀ y ∈ scope.names, y.2 = .local → scope.names.lookup y.1 = some .local
  var : scope.names.lookup x = some .local
  sub : ∀ z c, cl.lookup z = some c → X.env.cells.lookup z = some c
  has : ∀ z, ((relabel scope X.env).names.lookup z = some .cell ∨ (relabel scope X.env).names.lookup z = some .free) → ∃ c, cl.lookup z = some c
  len : ns.length = fr.length
  from_ : ∀ (k : Nat) z j, ns[k]? = some z → fr[k]? = some j → X.N[j]? = some z ∧ X.env.scope.names.lookup z = some .cell ∧ ((relabel scope X.env).names.lookup z = some .cell ∨ (relabel scope X.env).names.lookup z = some .free)
  nd : (x :: ns).Nodup
inductive LcIf (P : Expr → TT → Prop) : List Expr → TT → Prop where
  | nil : LcIf P [] fun _ H Q => Q true H
  | one {c : Expr} {t : TT} (h : P c t) : LcIf P [c] t
def lcLoop (J : It) (fr : List Nat) (tt : TT) (te : TE) (σ : St) (D : Addr) (Q : Hp → Prop) (H : Hp) : Prop :=
  ∃ W : Nat → Nat → Hp → Prop, (∃ m, W 0 m H) ∧ ∀ i m H2, W i m H2 → (J.stop i H2 ∧ Q H2) ∨ (J.go i H2 ∧ ∀ v H', J.yld i H2 v H' → tt (lcSlots fr σ (some v)) H' fun b H3 =>
    if b = true then te (lcSlots fr σ (some v)) H3 fun y H4 => ∃ ys, H4 D = some (.lst ys) ∧ ys.length < sizeLine ∧ ∃ m', m' < m ∧ W (i + 1) m' (upd H4 D (.lst (ys ++ [y]))) else ∃ m', m' < m ∧ W (i + 1) m' H3)
theorem iteT_inv {A B : Prop} (h : if true = true then A else B) : A := by
  rw [if_pos rfl] at h
  exact h
section
variable {X : Cx} {pins : List (Addr × Obj)} {σ : St} {H : Hp} {s : Shared} {x : Str} {ns : List Str} {fr : List Nat} {scope : Scope} {cl : List (Str × Addr)} {fp : List Addr}
theorem lc_ok (I : Inv X pins σ H s) (L : LcOk X x ns fr scope cl) (hf : ∀ b ∈ fp, FpOk X pins H b) (ho : ∀ b ∈ fp, b < s.heap.objs.size) : (cxLc X (x :: ns) scope cl s.heap.objs.size s H fp).Ok where
  mod := I.ok.mod
  kind := L.kind
  glob := I.ok.glob
  blt := I.ok.blt
  above := Nat.le_refl _
  inj := fun a b c h1 h2 => I.ok.inj a b c (L.sub a c h1) (L.sub b c h2)
  has := fun z h => L.has z h
  cab := fun _ _ h => nomatch h
  hd := I.ok.hd
  frames := I.ok.frames
  stk := .inl rfl
  exf := fun b hb => ⟨Nat.ne_of_lt (ho b hb), fun z c h => (hf b hb).2.2.2.2.1 z c (L.sub z c h)⟩
  bs := I.bs
  bsz := Nat.le_trans I.ok.bsz I.sz
  noex := fun b o e hb => by
    rcases (hf b hb).2.2.2.1 with h | h
    · exact I.ok.noex b o e h
    · exact absurd (Nat.lt_of_lt_of_le (Heap.lt_size e) (Nat.le_trans I.ok.bsz h)) (Nat.lt_irrefl _)
  exfs := fun b hb hs => by
    rcases List.mem_cons.mp (I.stkSub b hs) with h | h
    · exact (hf b hb).2.1 h
    · exact (hf b hb).2.2.1 h
  funs := I.stack
  frf := I.stkFree
theorem lc_slot {fr : List Nat} {σ : St} {v : Option V} {k : Nat} {u : V} (h : (lcSlots fr σ v)[k + 1]? = some (some u)) : ∃ j, fr[k]? = some j ∧ σ[j]? = some (some u) := by
  unfold lcSlots at h
  rw [List.getElem?_cons_succ, List.getElem?_map] at h
  cases e : fr[k]? with
  | none => rw [e] at h; cases h
  | some j =>
    rw [e] at h
    refine ⟨j, rfl, ?_⟩
    cases e2 : σ[j]? with
    | none => simp [e2] at h
    | some o => simp [e2] at h; rw [h]
theorem lc_start {h' : Heap} {t' : Nat} (I : Inv X pins σ H s) (L : LcOk X x ns fr scope cl) (hf : ∀ b ∈ fp, FpOk X pins H b) (ho : ∀ b ∈ fp, b < s.heap.objs.size)
    (hn : h'.Ns s.heap.objs.size fun _ => none) (hk : ∀ b o, s.heap.get? b = some o → h'.get? b = some o) :
    Inv (cxLc X (x :: ns) scope cl s.heap.objs.size s H fp) [] (lcSlots fr σ none) H { s with heap := h', toks := t' } where
  ok := lc_ok I L hf ho
  os := rfl
  bare := I.bare
  base := Un.kept hk
  loc := by
    refine ⟨_, hn, fun i z v e1 e2 e3 => ?_⟩
    cases i with
    | zero => cases e2
    | succ k =>
      have e1' : ns[k]? = some z := e1
      obtain ⟨j, ej, ev⟩ := lc_slot e2
      obtain ⟨hN, hc, hy⟩ := L.from_ k z j e1' ej
      obtain ⟨m, hm, hl⟩ := I.loc
      obtain ⟨u, r, l⟩ := hl j z v hN ev (.inr (.inl hc))
      refine ⟨u, r, .inr ⟨hy, ?_⟩⟩
      rcases l with ⟨l, _⟩ | ⟨_, c, hcl, ⟨o, ho2, hd⟩⟩
      · have : X.env.scope.names.lookup z = some .local := l
        rw [hc] at this
        cases this
      · obtain ⟨c', hc'⟩ := L.has z hy
        have e := L.sub z c' hc'
        rw [hcl] at e
        cases e
        exact ⟨c, hc', o, hk c o ho2, hd⟩
  cell := fun z c e => by
    obtain ⟨v, o, ho2, hd⟩ := I.cell z c (L.sub z c e)
    exact ⟨v, o, hk c o ho2, hd⟩
  free := I.fresh
  freeC := fun z c e => I.freeC z c (L.sub z c e)
  pin := fun p hp => nomatch hp
  hok := I.hok.kept hk
  len := by
    show (lcSlots fr σ none).length = (x :: ns).length
    unfold lcSlots
    rw [List.length_cons, List.length_map, List.length_cons, L.len]
theorem lc_block {elt iter : Expr} {px : Pos} {ifs : List Expr} {pos : Pos} {J : It} {it D : Addr} {tn : Nat → Heap → Prop} {tt : TT} {te : TE} {Qe : Hp → Prop} {R : Result → Shared → Prop} {s4 : Shared}
    (hc : X.calm = true) (L : LcOk X x ns fr scope cl) (T : Turn X.prog X.w X.K (.Name x px) J fp it tn) (hf : ∀ b ∈ fp, FpOk X pins H b) (ho : ∀ b ∈ fp, b < s.heap.objs.size) (I : Inv X pins σ H s)
    (hE : PE (cxLc X (x :: ns) scope cl s.heap.objs.size s H fp) elt te) (hT : LcIf (PT (cxLc X (x :: ns) scope cl s.heap.objs.size s H fp)) ifs tt) (hw : lcLoop J fr tt te σ D Qe H)
    (I4 : Inv (cxLc X (x :: ns) scope cl s.heap.objs.size s H fp) [] (lcSlots fr σ none) H s4) (st4 : tn 0 s4.heap)
    (hR : ∀ (s' : Shared) (H' : Hp) (v : Option V), Inv (cxLc X (x :: ns) scope cl s.heap.objs.size s H fp) [] (lcSlots fr σ v) H' s' → Qe H' → R (.ok .next) s') :
    codeAny (model X.prog X.w) X.A (.compStart (.ListComp elt [⟨.Name x px, iter, ifs, 0⟩] scope pos) 0 (.ref it) (.ref D) (compEnvC scope cl s.heap.objs.size X.env)) R s4 := by
  obtain ⟨W, ⟨m0, w0⟩, turn⟩ := hw
  have okY := lc_ok I L hf ho
  have hxl : Loc (cxLc X (x :: ns) scope cl s.heap.objs.size s H fp).env.scope x := .inl (lookup_relabel_local L.var)
  have stat : ∀ {H' : Hp}, (∀ b ∈ fp, H' b = none) → ∀ b ∈ fp, FpOk (cxLc X (x :: ns) scope cl s.heap.objs.size s H fp) [] H' b := fun hn b hb =>
    ⟨hn b hb, (okY.exf b hb).1, okY.exfs b hb, .inl hb, (okY.exf b hb).2, fun p hp => nomatch hp⟩
  have fr0 : ∀ b ∈ fp, H b = none := fun b hb => (hf b hb).1
  have loop : codeAny (model X.prog X.w) X.A (.compLoop (.ListComp elt [⟨.Name x px, iter, ifs, 0⟩] scope pos) 0 (.ref it) (.ref D) (compEnvC scope cl s.heap.objs.size X.env)) R s4 := by
    refine codeAny_loop rfl (fun n s' => ∃ i v H', Inv (cxLc X (x :: ns) scope cl s.heap.objs.size s H fp) [] (lcSlots fr σ v) H' s' ∧ tn i s'.heap ∧ (∀ b ∈ fp, H' b = none) ∧ W i n H') (fun n s3 hI => ?_) m0 ⟨0, none, H, I4, st4, fr0, w0⟩
    obtain ⟨i, v0, H3, I3, st3, fr3, w3⟩ := hI
    show wpAny _ X.A ((compTurn (.ListComp elt [⟨.Name x px, iter, ifs, 0⟩] scope pos) 0 (.ref it) (.ref D) (compEnvC scope cl s.heap.objs.size X.env)).onRaise (fun y => do noteFrame y (compEnvC scope cl s.heap.objs.size X.env); theTreesLotGoes y)) _ _ s3
    refine wpAny_noted ?_
    rw [compTurn_list]
    have low : ∀ {α : Type} {t : Sem α} {Q Q' : α → Shared → Prop} {E : Value → Shared → Prop} {s5 : Shared}, wpAny (model X.prog X.w) X.A t Q (fun _ _ => False) s5 → (∀ a s6, Q a s6 → Q' a s6) → wpAny (model X.prog X.w) X.A t Q' E s5 :=
      fun h hq => wpAny_mono h hq fun _ _ z => z.elim
    rcases turn i n H3 w3 with ⟨stop, q⟩ | ⟨go, step⟩
    · refine wpAny_bind (wpAny_standAt (wpAny_bind (low (T.done (cxLc X (x :: ns) scope cl s.heap.objs.size s H fp) rfl rfl rfl hc i [] s3 _ H3 (fun _ _ => False) I3 (stat fr3) st3 stop) fun r s5 hr => ?_)))
      obtain ⟨hr, I5⟩ := hr
      subst hr
      exact wpAny_pure (hR s5 H3 v0 I5 q)
    · refine wpAny_bind (wpAny_standAt (wpAny_bind (low (T.item (cxLc X (x :: ns) scope cl s.heap.objs.size s H fp) rfl rfl rfl hc i [] s3 _ H3 (fun _ _ => False) I3 (stat fr3) st3 go) fun r s5 hr => ?_)))
      obtain ⟨u, hr, h5⟩ := hr
      subst hr
      refine wpAny_bind (low h5 fun _ s6 h6 => ?_)
      obtain ⟨y, H6, I6, r6, y6, st6, fr6⟩ := h6
      have I6' := I6.pinned (stat fr6) (T.obj _ _ st6)
      have hg : PG (cxLc X (x :: ns) scope cl s.heap.objs.size s H fp) (.Name x px) (gName 0) := pg_name (i := 0) L.nd rfl hxl (.inr (lookup_relabel_local L.var))
      refine wpAny_bind (low (hg _ s6 _ H6 y u (fun σ' H' => σ' = lcSlots fr σ (some y) ∧ H' = H6) I6' r6 ⟨rfl, rfl⟩) fun _ s7 h7 => ?_)
      obtain ⟨σ7, H7, I7, e7, e7'⟩ := h7
      subst e7 e7'
      have back : ∀ {H8 : Hp} {s8 : Shared}, Inv (cxLc X (x :: ns) scope cl s.heap.objs.size s H fp) ([] ++ pinsAt fp s6.heap) (lcSlots fr σ (some y)) H8 s8 → (∃ m', m' < n ∧ W (i + 1) m' H8) →
          ∃ m, m < n ∧ ∃ i v H', Inv (cxLc X (x :: ns) scope cl s.heap.objs.size s H fp) [] (lcSlots fr σ v) H' s8 ∧ tn i s8.heap ∧ (∀ b ∈ fp, H' b = none) ∧ W i m H' := fun {H8 s8} I8 hm => by
        obtain ⟨m', hm, w8⟩ := hm
        refine ⟨m', hm, i + 1, some y, H8, I8.unpinned, T.keep _ _ _ st6 fun b hb o e => (I8.pin (b, o) (List.mem_append_right _ (List.mem_append_right _ (mem_pinsAt hb e)))).1, fun b hb => ?_, w8⟩
        obtain ⟨o, e, d⟩ := T.obj _ _ st6 b hb
        exact (I8.pin (b, o) (List.mem_append_right _ (List.mem_append_right _ (mem_pinsAt hb e)))).2.1
      have hstep := step y _ y6
      have emit : ∀ {H8 : Hp} {s8 : Shared}, Inv (cxLc X (x :: ns) scope cl s.heap.objs.size s H fp) ([] ++ pinsAt fp s6.heap) (lcSlots fr σ (some y)) H8 s8 →
          te (lcSlots fr σ (some y)) H8 (fun y H4 => ∃ ys, H4 D = some (.lst ys) ∧ ys.length < sizeLine ∧ ∃ m', m' < n ∧ W (i + 1) m' (upd H4 D (.lst (ys ++ [y])))) →
          wpAny (model X.prog X.w) X.A (do let _ ← call (.builtin "list.append") [.ref D, ← eval elt (compEnvC scope cl s.heap.objs.size X.env)]) (fun _ s9 => ∃ m, m < n ∧ ∃ i v H', Inv (cxLc X (x :: ns) scope cl s.heap.objs.size s H fp) [] (lcSlots fr σ v) H' s9 ∧ tn i s9.heap ∧ (∀ b ∈ fp, H' b = none) ∧ W i m H') (fun _ _ => False) s8 := fun {H8 s8} I8 h8 => by
        refine wpAny_bind (thn (hE _ s8 _ H8 _ I8 h8) fun v9 s9 h9 => ?_)
        obtain ⟨z, H9, I9, r9, ys, hD, hlen, hm⟩ := h9
        refine wpAny_bind (thn (mt_append (X := cxLc X (x :: ns) scope cl s.heap.objs.size s H fp) _ s9 _ H9 (.ref D) [z] (.ref D) [v9] (fun _ H' => ∃ m', m' < n ∧ W (i + 1) m' H') I9 rfl (.cons r9 .nil) ⟨D, ys, z, rfl, rfl, hD, hlen, hm⟩) fun v10 s10 h10 => ?_)
        obtain ⟨_, H10, I10, _, hm10⟩ := h10
        exact wpAny_pure (back I10 hm10)
      cases hT with
      | nil =>
        refine wpAny_bind (wpAny_tests_nil ?_)
        refine wpAny_bind (low (emit I7 (iteT_inv hstep)) fun _ s9 h9 => wpAny_pure ⟨rfl, h9⟩)
      | one hP =>
        refine wpAny_bind (wpAny_tests_one (low (hP _ s7 _ _ _ I7 hstep) fun b s8 h8 => ?_))
        obtain ⟨H8, I8, q8⟩ := h8
        cases b with
        | false =>
          have q9 : ∃ m', m' < n ∧ W (i + 1) m' H8 := q8
          exact wpAny_pure ⟨rfl, back I8 q9⟩
        | true =>
          exact wpAny_bind (low (emit I8 q8) fun _ s9 h9 => wpAny_pure ⟨rfl, h9⟩)
  exact codeAny_compStart_list loop (T.self X.A 0 _ _ _ st4 loop)
theorem lc_after {s' : Shared} {H' : Hp} {σ' : St} (I : Inv X pins σ H s) (hf : ∀ b ∈ fp, FpOk X pins H b) (I' : Inv (cxLc X (x :: ns) scope cl s.heap.objs.size s H fp) [] σ' H' s') : Inv X pins σ H' s' :=
  I.call' (ch := fp) I'.os I'.base I'.hok I'.bare fun b hb => ⟨(hf b hb).2.2.2.1, (hf b hb).2.1, (hf b hb).2.2.2.2.1, (hf b hb).2.2.2.2.2⟩
theorem lc_run {elt iter : Expr} {px : Pos} {ifs : List Expr} {pos : Pos} {J : It} {it : Addr} {tn : Nat → Heap → Prop} {tt : TT} {te : TE} {Qe : Addr → Hp → Prop} {R : Value → Addr → Result → Shared → Prop} {E : Value → Shared → Prop}
    (hc : X.calm = true) (L : LcOk X x ns fr scope cl) (T : Turn X.prog X.w X.K (.Name x px) J fp it tn) (hf : ∀ b ∈ fp, FpOk X pins H b) (I : Inv X pins σ H s) (st : tn 0 s.heap)
    (hE : ∀ C s H, PE (cxLc X (x :: ns) scope cl C s H fp) elt te) (hT : ∀ C s H, LcIf (PT (cxLc X (x :: ns) scope cl C s H fp)) ifs tt) (hw : ∀ D, H D = none → lcLoop J fr tt te σ D (Qe D) (upd H D (.lst [])))
    (hR : ∀ (D C : Addr) (s' : Shared) (H' : Hp), Inv X pins σ H' s' → Qe D H' → (∃ m o, s'.heap.get? C = some o ∧ (∀ v, o.data ≠ .cell v) ∧ ∀ h' : Heap, h'.get? C = some o → h'.Ns C m) → H' C = none → C ≠ X.env.locals → C ∉ X.fs → X.s₀.heap.objs.size ≤ C →
      (∀ z c, X.env.cells.lookup z = some c → c ≠ C) → (∀ p ∈ X.pn ++ pins, p.1 ≠ C) → R (.ref D) C (.ok .next) s') :
    wpAny (model X.prog X.w) X.A (newList []) (fun acc s₃ => wpAny (model X.prog X.w) X.A (newFunctionEnv scope X.env.globals cl [] X.env.qual none .none (some X.env)) (fun cenv s₄ =>
      codeAny (model X.prog X.w) X.A (.compStart (.ListComp elt [⟨.Name x px, iter, ifs, 0⟩] scope pos) 0 (.ref it) acc { cenv with scope := relabel scope X.env }) (R acc cenv.locals) s₄) E s₃) E s := by
  have ho : ∀ b ∈ fp, b < s.heap.objs.size := fun b hb => by
    obtain ⟨o, e, _⟩ := T.obj _ _ st b hb
    exact Heap.lt_size e
  have I3 : Inv X pins σ (upd H s.heap.objs.size (.lst [])) { s with heap := s.heap.push { cls := .type "list", dict := none, data := .seq ([] : List Value).toArray } } := I.lnew (t' := s.toks) (.nil) (Nat.zero_le _)
  refine wpAny_newObj_type (wpAny_newFunctionEnv L.nocell (by intro y hy; simp at hy) (fun h1 hns hsb => ?_) L.kind)
  dsimp only at hns hsb ⊢
  generalize hs3 : ({ s with heap := s.heap.push { cls := .type "list", dict := none, data := .seq ([] : List Value).toArray } } : Shared) = s3 at I3
  have eh : s.heap.push { cls := .type "list", dict := none, data := .seq ([] : List Value).toArray } = s3.heap := by rw [← hs3]
  rw [eh] at hns hsb ⊢
  have hz : s3.heap.objs.size = s.heap.objs.size + 1 := by rw [← eh, Heap.size_push]
  have hk : ∀ b o, s3.heap.get? b = some o → h1.get? b = some o := fun b o e => hsb.extBut b o (Nat.ne_of_lt (Heap.lt_size e)) (Heap.get?_push_of_some _ e)
  have hf3 : ∀ b ∈ fp, FpOk X pins (upd H s.heap.objs.size (.lst [])) b := fun b hb => ⟨by rw [upd_ne (Nat.ne_of_lt (ho b hb))]; exact (hf b hb).1, (hf b hb).2⟩
  have ho3 : ∀ b ∈ fp, b < s3.heap.objs.size := fun b hb => by rw [hz]; exact Nat.lt_succ_of_lt (ho b hb)
  have es : ∀ tk, ({ s with heap := h1, toks := tk } : Shared) = { s3 with heap := h1, toks := tk } := fun tk => by rw [← hs3]
  rw [es]
  have I4 := lc_start (t' := s.toks + ([] : List (Str × Value)).length) I3 L hf3 ho3 hns hk
  refine lc_block hc L T hf3 ho3 I3 (hE _ _ _) (hT _ _ _) (hw _ I.fresh) I4 ?_ fun s' H' v I' q => ?_
  · refine T.keep _ _ _ st fun b hb o e => hk b o ?_
    rw [← eh]
    exact Heap.get?_push_of_some _ e
  · have IX := lc_after I3 hf3 I'
    obtain ⟨m, ⟨o, es', ep, ho', hd', hr'⟩, _⟩ := I'.loc
    refine hR _ _ s' H' IX q ⟨m, o, ho', fun v z => ?_, fun h' e => ⟨o, es', ep, e, hd', hr'⟩⟩ I'.free (Nat.ne_of_gt I3.lt) (I3.nofs (Nat.le_refl _)) I3.sz (fun z c e => ?_) fun p hp => ?_
    · rw [hd'] at z
      cases z
    · obtain ⟨v, o2, e2, _⟩ := I3.cell z c e
      exact Nat.ne_of_lt (Heap.lt_size e2)
    · exact Nat.ne_of_lt (Heap.lt_size (I3.pin p hp).1)
def tLc (wi : TI) (fr : List Nat) (tt : TT) (te : TE) : TE := fun σ H Q => wi σ H fun J H1 => ∀ D, H1 D = none → lcLoop J fr tt te σ D (fun H2 => Q (.ref D) H2) (upd H1 D (.lst []))
theorem pe_lc {elt iter : Expr} {px pos : Pos} {ifs : List Expr} {wi : TI} {tt : TT} {te : TE} (hc : X.calm = true) (L : LcOk X x ns fr scope cl) (hi : PI X (.Name x px) iter wi)
    (hE : ∀ C s H fp, PE (cxLc X (x :: ns) scope cl C s H fp) elt te) (hT : ∀ C s H fp, LcIf (PT (cxLc X (x :: ns) scope cl C s H fp)) ifs tt)
    (hs : ∀ v, foldedSetIterable iter X.env v = pure v := by intro _; rfl) : PE X (.ListComp elt [⟨.Name x px, iter, ifs, 0⟩] scope pos) (tLc wi fr tt te) := by
  intro pins s σ H Q I h
  rw [eval_ListComp]
  refine wpAny_comprehension_free (use := none) rfl hs L.clos L.kind L.own (thn (hi pins s σ H _ I h) fun v s1 h1 => thn h1 fun itv s2 h2 => ?_)
  obtain ⟨it, fp, tn, J, H2, e, I2, T, st2, f2, q⟩ := h2
  subst e
  refine lc_run (R := fun acc C => compPost (model X.prog X.w) X.A X.xe none (EP X pins σ Q) acc C) hc L T f2 I2 st2 (fun C s H => hE C s H fp) (fun C s H => hT C s H fp) q ?_
  intro D C s' H' I' q' hns hn hl hfs hz hcell hpin
  obtain ⟨m, o, e, hd, hk⟩ := hns
  refine ⟨m, hk _ e, fun h' hsb => ?_⟩
  exact ⟨.ref D, H', I'.turned (t' := s'.toks) (fun b o hb e => hsb.extBut b o hb e) hn hl (.inr hz) hcell hpin, rfl, q'⟩
theorem ps_lc {elt iter : Expr} {y : Str} {j : Nat} {px py pos spos : Pos} {ifs : List Expr} {wi : TI} {tt : TT} {te : TE} (hc : X.calm = true) (hN : X.N.Nodup) (hj : X.N[j]? = some y) (hy : X.env.scope.names.lookup y = some .local) (L : LcOk X x ns fr scope cl) (hi : PI X (.Name x px) iter wi)
    (hE : ∀ C s H fp, PE (cxLc X (x :: ns) scope cl C s H fp) elt te) (hT : ∀ C s H fp, LcIf (PT (cxLc X (x :: ns) scope cl C s H fp)) ifs tt)
    (hsw : swapsWith (.ListComp elt [⟨.Name x px, iter, ifs, 0⟩] scope pos) (some (.Name y py)) spos.line X.env = pure true := by rfl)
    (hs : ∀ v, foldedSetIterable iter X.env v = pure v := by intro _; rfl) : PS X (.Assign [.Name y py] (.ListComp elt [⟨.Name x px, iter, ifs, 0⟩] scope pos) spos) (tAsg (tLc wi fr tt te) (gName j)) := by
  intro pins s σ H Dn I h
  rw [exec_Assign_Name_used _ _ _ _ hsw]
  refine wpAny_bind (wpAny_standAt (wpAny_bind ?_))
  show wpAny _ X.A (do let _ ← comprehension (.ListComp elt [⟨.Name x px, iter, ifs, 0⟩] scope pos) scope X.env _ (newList []) false (eval iter X.env) (some (assign (.Name y py) X.env))) _ _ s
  refine wpAny_bind (thn (wpAny_comprehension_free (use := some (assign (.Name y py) X.env)) (Q := fun _ s' => SP X pins Dn .next s') rfl hs L.clos L.kind L.own (thn (hi pins s σ H _ I h) fun v s1 h1 => thn h1 fun itv s2 h2 => ?_)) fun _ s' q => wpAny_pure (wpAny_pure q))
  obtain ⟨it, fp, tn, J, H2, e, I2, T, st2, f2, q⟩ := h2
  subst e
  refine lc_run (R := fun acc C => compPost (model X.prog X.w) X.A X.xe (some (assign (.Name y py) X.env)) (fun _ s' => SP X pins Dn .next s') acc C) hc L T f2 I2 st2 (fun C s H => hE C s H fp) (fun C s H => hT C s H fp) q ?_
  intro D C s' H' I' q' hns hn hl hfs hz hcell hpin
  obtain ⟨m, o, e, hd, hk⟩ := hns
  have I'' : Inv X (pins ++ [(C, o)]) σ H' s' := I'.pins_of fun p hp => by
    rcases List.mem_append.mp hp with h | h
    · exact I'.pin p (List.mem_append_right _ h)
    · have ep : p = (C, o) := by simpa using h
      subst ep
      exact ⟨e, hn, hl, hfs, hd⟩
  refine wpAny_assign_Name (store_ok I'' hN hj (.inl hy) (show RelV (.ref D) (.ref D) from rfl) (fun s2 I2 => ?_) (.inr hy))
  obtain ⟨e2, n2, _⟩ := I2.pin (C, o) (List.mem_append_right _ (List.mem_append_right _ (List.mem_singleton.mpr rfl)))
  refine ⟨m, hk _ e2, fun h' hsb => ?_⟩
  exact ⟨σ.set j (some (.ref D)), H', I2.unpinned.turned (t' := s2.toks) (fun b o hb e => hsb.extBut b o hb e) hn hl (.inr hz) hcell hpin, q'⟩
end
section
variable {X : Cx} {x : Str} {ns : List Str} {fr : List Nat} {scope : Scope} {cl : List (Str × Addr)}
theorem lk_mem {α : Type} {z : Str} {c : α} : ∀ {l : List (Str × α)}, l.lookup z = some c → (z, c) ∈ l
  | [], h => by simp at h
  | (y, d) :: l, h => by
    rw [List.lookup_cons] at h
    cases e : z == y with
    | true =>
      rw [e] at h
      have e2 : z = y := by simpa using e
      cases h
      rw [e2]
      exact List.mem_cons_self
    | false =>
      rw [e] at h
      exact List.mem_cons_of_mem _ (lk_mem h)
theorem lcok (clos : closureFor scope X.env = pure cl) (nocell : scope.names.all (fun y => y.2 != .cell) = true) (kind : scope.kind = .function)
    (own : scope.names.all (fun y => y.2 != .local || scope.names.lookup y.1 == some .local) = true) (var : scope.names.lookup x = some .local) (sub : ∀ p ∈ cl, X.env.cells.lookup p.1 = some p.2)
    (has : (relabel scope X.env).names.all (fun y => !(y.2 == .cell || y.2 == .free) || (cl.lookup y.1).isSome) = true) (len : ns.length = fr.length)
    (fr_ : ∀ p ∈ ns.zip fr, X.N[p.2]? = some p.1 ∧ X.env.scope.names.lookup p.1 = some .cell ∧ ((relabel scope X.env).names.lookup p.1 = some .cell ∨ (relabel scope X.env).names.lookup p.1 = some .free)) (nd : (x :: ns).Nodup) : LcOk X x ns fr scope cl where
  clos := clos
  nocell := fun y hy => by simpa using List.all_eq_true.mp nocell y hy
  kind := kind
  own := fun y hy h => by
    have := List.all_eq_true.mp own y hy
    rw [h] at this
    simpa using this
  var := var
  sub := fun z c h => sub _ (lk_mem h)
  has := fun z h => by
    have k : ∀ t, (relabel scope X.env).names.lookup z = some t → (t = .cell ∨ t = .free) → ∃ c, cl.lookup z = some c := fun t ht hk => by
      have := List.all_eq_true.mp has _ (lk_mem ht)
      rcases hk with rfl | rfl <;> simpa [Option.isSome_iff_exists] using this
    rcases h with h | h
    · exact k _ h (.inl rfl)
    · exact k _ h (.inr rfl)
  len := len
  from_ := fun k z j h1 h2 => fr_ (z, j) (List.mem_of_getElem? (i := k) (by rw [List.getElem?_zip_eq_some]; exact ⟨h1, h2⟩))
  nd := nd
end
end L2
namespace L2
end L2
namespace L2
open PySem PySem.Spec PyProof.Rows
theorem ix_listC {X : Cx} {K : PySem.W.Frag} (h : X.K = K) : IxR X (rIxL K) := by
  subst h
  exact ix_list
theorem ix_tupC {X : Cx} {K : PySem.W.Frag} (h : X.K = K) : IxR X (rIxT K) := by
  subst h
  exact ix_tup
theorem pe_fldC {X : Cx} {K : PySem.W.Frag} {e : Expr} {f : Str} {pos : Pos} {ta : TE} (h : X.K = K) (he : PE X e ta) (hb : attributeBase e f X.env (eval e X.env) = eval e X.env) : PE X (.Attribute e f pos) (tFld K ta f) := by
  subst h
  exact pe_fld he hb
end L2
namespace L2
open PySem PySem.Spec PyProof.Rows
open AutoSeq1 (wpAny_loadPart')
section
variable {prog : Program} {w : World} {A : Around} {E : Value → Shared → Prop} {s : Shared}
end
def Ite (K : PySem.W.Frag) (l : Addr) (p : Nat) : It :=
  ⟨fun i H => ∃ xs x, SqL K H l xs ∧ xs[i]? = some x, fun i H x H' => ∃ t v, H t = none ∧ x = .ref t ∧ (∀ xs, SqL K H l xs → xs[i]? = some v) ∧ H' = upd H t (.tup [.int ((p + i : Nat) : Int), v]), fun i H => ∃ xs, SqL K H l xs ∧ xs.length = i⟩
section
variable {M : Model} {A : Around} {E : Value → Shared → Prop} {s : Shared} {env : Env}
end
section
variable {X : Cx}
def iEnum (K : PySem.W.Frag) (tl tp : TE) : TI := fun σ H R => tl σ H fun x H1 => tp σ H1 fun y H2 => ∃ (a : Addr) (p : Nat), x = .ref a ∧ y = .int p ∧ (∃ xs, SqL K H2 a xs) ∧ p < 2 ^ 62 ∧ R (Ite K a p) H2
end
end L2
namespace L2
open PySem PySem.Spec PyProof.Rows
inductive D where
  | non | bl (b : Bool) | int (i : Int) | str (x : Str) | lst (ds : List D) | tup (ds : List D)
mutual
def deq : D → D → Bool
  | .non, .non => true
  | .bl a, .bl b => a == b
  | .bl a, .int b => (if a then 1 else 0) == b
  | .int a, .bl b => a == (if b then 1 else 0)
  | .int a, .int b => a == b
  | .str a, .str b => a == b
  | .lst a, .lst b => deqs a b
  | .tup a, .tup b => deqs a b
  | _, _ => false
def deqs : List D → List D → Bool
  | [], [] => true
  | a :: x, b :: y => deq a b && deqs x y
  | _, _ => false
end
mutual
def D.dep : D → Nat
  | .lst a => deps a + 1
  | .tup a => deps a + 1
  | _ => 0
def deps : List D → Nat
  | [] => 0
  | a :: x => max a.dep (deps x)
end
mutual
theorem deq_refl : ∀ d : D, deq d d = true
  | .non => by simp [deq]
  | .bl b => by simp [deq]
  | .int i => by simp [deq]
  | .str x => by simp [deq]
  | .lst ds => by rw [deq]; exact deqs_refl ds
  | .tup ds => by rw [deq]; exact deqs_refl ds
theorem deqs_refl : ∀ ds : List D, deqs ds ds = true
  | [] => by simp [deqs]
  | d :: ds => by rw [deqs, deq_refl d, deqs_refl ds]; rfl
end
theorem deps_le : ∀ {ds : List D} {i : Nat} {d : D}, ds[i]? = some d → d.dep ≤ deps ds
  | [], _, _, h => by simp at h
  | e :: ds, 0, d, h => by
    simp at h
    subst h
    rw [deps]
    exact Nat.le_max_left _ _
  | e :: ds, i + 1, d, h => by
    rw [deps]
    exact Nat.le_trans (deps_le (i := i) (by simpa using h)) (Nat.le_max_right _ _)
theorem deqs_len : ∀ {ds es : List D}, ds.length ≠ es.length → deqs ds es = false
  | [], [], h => absurd rfl h
  | [], _ :: _, _ => by simp [deqs]
  | _ :: _, [], _ => by simp [deqs]
  | d :: ds, e :: es, h => by rw [deqs, deqs_len (by simpa using h), Bool.and_false]
theorem deqs_all : ∀ {ds es : List D}, ds.length = es.length → deqs ds es = (List.range ds.length).all fun j => deq (ds.getD j .non) (es.getD j .non)
  | [], [], _ => by simp [deqs]
  | [], _ :: _, h => by simp at h
  | _ :: _, [], h => by simp at h
  | d :: ds, e :: es, h => by
    rw [deqs, deqs_all (by simpa using h), List.length_cons, List.range_succ_eq_map, List.all_cons, List.all_map]
    rfl
inductive IsD (K : PySem.W.Frag) (H : Hp) : V → D → Prop where
  | non : IsD K H .non .non
  | bl (b : Bool) : IsD K H (.bl b) (.bl b)
  | int (i : Int) : IsD K H (.int i) (.int i)
  | str (x : Str) : IsD K H (.str x) (.str x)
  | lst {a : Addr} {xs : List V} {ds : List D} (h : SqL K H a xs) (hl : xs.length = ds.length) (hi : ∀ (i : Nat) (x : V) (d : D), xs[i]? = some x → ds[i]? = some d → IsD K H x d) : IsD K H (.ref a) (.lst ds)
  | tup {a : Addr} {xs : List V} {ds : List D} (h : SqT K H a xs) (hl : xs.length = ds.length) (hi : ∀ (i : Nat) (x : V) (d : D), xs[i]? = some x → ds[i]? = some d → IsD K H x d) : IsD K H (.ref a) (.tup ds)
section
variable {X : Cx} {pins : List (Addr × Obj)} {s : Shared} {σ : St} {H : Hp}
theorem Inv.not_both (I : Inv X pins σ H s) {a : Addr} {xs ys : List V} (h : SqL X.K H a xs) (h' : SqT X.K H a ys) : False := by
  obtain ⟨its, _, p, _⟩ := I.list h
  obtain ⟨its2, _, q, _⟩ := I.tuple h'
  obtain ⟨o, e, c, _⟩ := p.isList
  obtain ⟨o2, e2, c2, _⟩ := q
  rw [e] at e2
  cases e2
  rw [c] at c2
  injection c2 with h3
  exact absurd h3 (by decide)
theorem ext_D {xs : List V} {ds es : List D} (hl : xs.length = ds.length) (hl2 : xs.length = es.length) (h : ∀ (i : Nat) x d e, xs[i]? = some x → ds[i]? = some d → es[i]? = some e → d = e) : ds = es := by
  refine List.ext_getElem (by omega) fun i h1 h2 => ?_
  exact h i _ _ _ (List.getElem?_eq_getElem (by omega)) (List.getElem?_eq_getElem h1) (List.getElem?_eq_getElem h2)
theorem IsD.one (I : Inv X pins σ H s) {x : V} {d : D} (h : IsD X.K H x d) : ∀ {e : D}, IsD X.K H x e → d = e := by
  induction h with
  | non => intro e h; cases h; rfl
  | bl b => intro e h; cases h; rfl
  | int b => intro e h; cases h; rfl
  | str b => intro e h; cases h; rfl
  | lst q hl hi ih =>
    intro e h
    cases h with
    | lst q2 hl2 hi2 =>
      cases I.list_inj q q2
      rw [ext_D hl hl2 fun i x d e h1 h2 h3 => ih i x d h1 h2 (hi2 i x e h1 h3)]
    | tup q2 hl2 hi2 => exact (I.not_both q q2).elim
  | tup q hl hi ih =>
    intro e h
    cases h with
    | tup q2 hl2 hi2 =>
      cases I.tuple_inj q q2
      rw [ext_D hl hl2 fun i x d e h1 h2 h3 => ih i x d h1 h2 (hi2 i x e h1 h3)]
    | lst q2 hl2 hi2 => exact (I.not_both q2 q).elim
theorem getD_of {ds : List D} {i : Nat} (h : i < ds.length) : ds[i]? = some (ds.getD i .non) := by simp [List.getD, h]
theorem items_D {xs ys : List V} {ds es : List D} {its its2 : List Value} {A : Around} (r1 : Vals xs its) (r2 : Vals ys its2) (hl : xs.length = ds.length) (hl2 : ys.length = es.length)
    (ih : ∀ (i : Nat) x d, xs[i]? = some x → ds[i]? = some d → ∀ {y : V} {e : D} {u v : Value}, IsD X.K H y e → RelV x u → RelV y v → SeqAt.EqAt A s u v (deq d e)) (hi2 : ∀ (i : Nat) y e, ys[i]? = some y → es[i]? = some e → IsD X.K H y e) :
    ∀ j (h1 : j < its.toArray.size) (h2 : j < its2.toArray.size), SeqAt.EqAt A s its.toArray[j] its2.toArray[j] (deq (ds.getD j .non) (es.getD j .non)) := by
  intro j h1 h2
  have l1 := r1.length
  have l2 := r2.length
  have j1 : j < xs.length := by simp at h1; omega
  have j2 : j < ys.length := by simp at h2; omega
  obtain ⟨u1, e1, q1⟩ := r1.get (List.getElem?_eq_getElem j1)
  obtain ⟨u2, e2, q2⟩ := r2.get (List.getElem?_eq_getElem j2)
  have i1 : its.toArray[j] = u1 := by
    obtain ⟨_, e⟩ := List.getElem?_eq_some_iff.mp e1
    simpa using e
  have i2 : its2.toArray[j] = u2 := by
    obtain ⟨_, e⟩ := List.getElem?_eq_some_iff.mp e2
    simpa using e
  rw [i1, i2]
  exact ih j _ _ (List.getElem?_eq_getElem j1) (getD_of (by omega)) (hi2 j _ _ (List.getElem?_eq_getElem j2) (getD_of (by omega))) q1 q2
theorem tup_D {ds es : List D} : (((List.range (min ds.length es.length)).all fun j => deq (ds.getD j .non) (es.getD j .non)) && (ds.length == es.length)) = deqs ds es := by
  by_cases h : ds.length = es.length
  · rw [deqs_all h, h]
    simp
  · rw [deqs_len h]
    have : (ds.length == es.length) = false := by simpa using h
    rw [this, Bool.and_false]
theorem eqAt_D (I : Inv X pins σ H s) {x : V} {d : D} (h : IsD X.K H x d) : ∀ {A : Around}, A.units + d.dep < cLine → ∀ {y : V} {e : D} {u v : Value}, IsD X.K H y e → RelV x u → RelV y v → SeqAt.EqAt A s u v (deq d e) := by
  induction h with
  | non =>
    intro A hu y e u v h2 r1 r2
    cases r1
    have hu0 : A.units < cLine := Nat.lt_of_le_of_lt (Nat.le_add_right _ _) hu
    cases h2 with
    | non =>
      cases r2
      first | exact SeqAt.EqAt.same _ | (rw [deq] <;> first | exact SeqAt.EqAt.same _ | nofun)
    | bl b2 =>
      cases r2
      first | exact SeqAt.EqAt.none_bool b2 | (rw [deq] <;> first | exact SeqAt.EqAt.none_bool b2 | nofun)
    | int b2 =>
      obtain ⟨t2, rfl⟩ := r2
      first | exact SeqAt.EqAt.none_int b2 t2 | (rw [deq] <;> first | exact SeqAt.EqAt.none_int b2 t2 | nofun)
    | str b2 =>
      obtain ⟨t2, rfl⟩ := r2
      first | exact SeqAt.EqAt.none_str b2 t2 | (rw [deq] <;> first | exact SeqAt.EqAt.none_str b2 t2 | nofun)
    | @lst a2 xs2 ds2 q2 l2 i2 =>
      cases r2
      obtain ⟨its2, v2, p2, z2⟩ := I.list q2
      first | exact SeqAt.EqAt.none_list p2.isList hu0 | (rw [deq] <;> first | exact SeqAt.EqAt.none_list p2.isList hu0 | nofun)
    | @tup a2 xs2 ds2 q2 l2 i2 =>
      cases r2
      obtain ⟨its2, v2, p2, z2⟩ := I.tuple q2
      first | exact SeqAt.EqAt.none_tuple p2 hu0 | (rw [deq] <;> first | exact SeqAt.EqAt.none_tuple p2 hu0 | nofun)
  | bl b1 =>
    intro A hu y e u v h2 r1 r2
    cases r1
    have hu0 : A.units < cLine := Nat.lt_of_le_of_lt (Nat.le_add_right _ _) hu
    cases h2 with
    | non =>
      cases r2
      first | exact SeqAt.EqAt.bool_none b1 | (rw [deq] <;> first | exact SeqAt.EqAt.bool_none b1 | nofun)
    | bl b2 =>
      cases r2
      first | exact SeqAt.EqAt.bool_bool b1 b2 | (rw [deq] <;> first | exact SeqAt.EqAt.bool_bool b1 b2 | nofun)
    | int b2 =>
      obtain ⟨t2, rfl⟩ := r2
      first | exact SeqAt.EqAt.bool_int b1 b2 t2 | (rw [deq] <;> first | exact SeqAt.EqAt.bool_int b1 b2 t2 | nofun)
    | str b2 =>
      obtain ⟨t2, rfl⟩ := r2
      first | exact SeqAt.EqAt.bool_str b1 b2 t2 | (rw [deq] <;> first | exact SeqAt.EqAt.bool_str b1 b2 t2 | nofun)
    | @lst a2 xs2 ds2 q2 l2 i2 =>
      cases r2
      obtain ⟨its2, v2, p2, z2⟩ := I.list q2
      first | exact SeqAt.EqAt.bool_list b1 p2.isList hu0 | (rw [deq] <;> first | exact SeqAt.EqAt.bool_list b1 p2.isList hu0 | nofun)
    | @tup a2 xs2 ds2 q2 l2 i2 =>
      cases r2
      obtain ⟨its2, v2, p2, z2⟩ := I.tuple q2
      first | exact SeqAt.EqAt.bool_tuple b1 p2 hu0 | (rw [deq] <;> first | exact SeqAt.EqAt.bool_tuple b1 p2 hu0 | nofun)
  | int b1 =>
    intro A hu y e u v h2 r1 r2
    obtain ⟨t1, rfl⟩ := r1
    have hu0 : A.units < cLine := Nat.lt_of_le_of_lt (Nat.le_add_right _ _) hu
    cases h2 with
    | non =>
      cases r2
      first | exact SeqAt.EqAt.int_none b1 t1 | (rw [deq] <;> first | exact SeqAt.EqAt.int_none b1 t1 | nofun)
    | bl b2 =>
      cases r2
      first | exact SeqAt.EqAt.int_bool b1 t1 b2 | (rw [deq] <;> first | exact SeqAt.EqAt.int_bool b1 t1 b2 | nofun)
    | int b2 =>
      obtain ⟨t2, rfl⟩ := r2
      first | exact SeqAt.EqAt.int_int b1 t1 b2 t2 | (rw [deq] <;> first | exact SeqAt.EqAt.int_int b1 t1 b2 t2 | nofun)
    | str b2 =>
      obtain ⟨t2, rfl⟩ := r2
      first | exact SeqAt.EqAt.int_str b1 t1 b2 t2 | (rw [deq] <;> first | exact SeqAt.EqAt.int_str b1 t1 b2 t2 | nofun)
    | @lst a2 xs2 ds2 q2 l2 i2 =>
      cases r2
      obtain ⟨its2, v2, p2, z2⟩ := I.list q2
      first | exact SeqAt.EqAt.int_list b1 t1 p2.isList hu0 | (rw [deq] <;> first | exact SeqAt.EqAt.int_list b1 t1 p2.isList hu0 | nofun)
    | @tup a2 xs2 ds2 q2 l2 i2 =>
      cases r2
      obtain ⟨its2, v2, p2, z2⟩ := I.tuple q2
      first | exact SeqAt.EqAt.int_tuple b1 t1 p2 hu0 | (rw [deq] <;> first | exact SeqAt.EqAt.int_tuple b1 t1 p2 hu0 | nofun)
  | str b1 =>
    intro A hu y e u v h2 r1 r2
    obtain ⟨t1, rfl⟩ := r1
    have hu0 : A.units < cLine := Nat.lt_of_le_of_lt (Nat.le_add_right _ _) hu
    cases h2 with
    | non =>
      cases r2
      first | exact SeqAt.EqAt.str_none b1 t1 | (rw [deq] <;> first | exact SeqAt.EqAt.str_none b1 t1 | nofun)
    | bl b2 =>
      cases r2
      first | exact SeqAt.EqAt.str_bool b1 t1 b2 | (rw [deq] <;> first | exact SeqAt.EqAt.str_bool b1 t1 b2 | nofun)
    | int b2 =>
      obtain ⟨t2, rfl⟩ := r2
      first | exact SeqAt.EqAt.str_int b1 t1 b2 t2 | (rw [deq] <;> first | exact SeqAt.EqAt.str_int b1 t1 b2 t2 | nofun)
    | str b2 =>
      obtain ⟨t2, rfl⟩ := r2
      first | exact SeqAt.EqAt.str_str b1 t1 b2 t2 | (rw [deq] <;> first | exact SeqAt.EqAt.str_str b1 t1 b2 t2 | nofun)
    | @lst a2 xs2 ds2 q2 l2 i2 =>
      cases r2
      obtain ⟨its2, v2, p2, z2⟩ := I.list q2
      first | exact SeqAt.EqAt.str_list b1 t1 p2.isList hu0 | (rw [deq] <;> first | exact SeqAt.EqAt.str_list b1 t1 p2.isList hu0 | nofun)
    | @tup a2 xs2 ds2 q2 l2 i2 =>
      cases r2
      obtain ⟨its2, v2, p2, z2⟩ := I.tuple q2
      first | exact SeqAt.EqAt.str_tuple b1 t1 p2 hu0 | (rw [deq] <;> first | exact SeqAt.EqAt.str_tuple b1 t1 p2 hu0 | nofun)
  | @lst a1 xs1 ds1 q1 l1 i1 ih =>
    intro A hu y e u v h2 r1 r2
    cases r1
    have hu0 : A.units < cLine := Nat.lt_of_le_of_lt (Nat.le_add_right _ _) hu
    obtain ⟨its1, v1, p1, z1⟩ := I.list q1
    have n1 : its1.toArray.size = ds1.length := by rw [List.size_toArray, ← v1.length, l1]
    have hu1 : ∀ (i : Nat) (d : D), ds1[i]? = some d → A.in1.units + d.dep < cLine := fun i d h => by
      have e1 := deps_le h
      have e2 : A.units + (deps ds1 + 1) < cLine := by simpa only [D.dep] using hu
      show A.units + 1 + d.dep < cLine
      omega
    cases h2 with
    | non =>
      cases r2
      first | exact SeqAt.EqAt.list_none p1.isList hu0 | (rw [deq] <;> first | exact SeqAt.EqAt.list_none p1.isList hu0 | nofun)
    | bl b2 =>
      cases r2
      first | exact SeqAt.EqAt.list_bool b2 p1.isList hu0 | (rw [deq] <;> first | exact SeqAt.EqAt.list_bool b2 p1.isList hu0 | nofun)
    | int b2 =>
      obtain ⟨t2, rfl⟩ := r2
      first | exact SeqAt.EqAt.list_int b2 t2 p1.isList hu0 | (rw [deq] <;> first | exact SeqAt.EqAt.list_int b2 t2 p1.isList hu0 | nofun)
    | str b2 =>
      obtain ⟨t2, rfl⟩ := r2
      first | exact SeqAt.EqAt.list_str b2 t2 p1.isList hu0 | (rw [deq] <;> first | exact SeqAt.EqAt.list_str b2 t2 p1.isList hu0 | nofun)
    | @lst a2 xs2 ds2 q2 l2 i2 =>
      cases r2
      obtain ⟨its2, v2, p2, z2⟩ := I.list q2
      have n2 : its2.toArray.size = ds2.length := by rw [List.size_toArray, ← v2.length, l2]
      have it := items_D (X := X) (A := A.in1) v1 v2 l1 l2 (fun i x d ha hb => ih i x d ha hb (hu1 i d hb)) i2
      by_cases hne : a1 = a2
      · subst hne
        cases (IsD.lst q1 l1 i1).one I (IsD.lst q2 l2 i2)
        rw [deq_refl]
        exact SeqAt.EqAt.same _
      refine SeqAt.EqAt.of_refs hne ?_
      rw [deq]
      by_cases hlen : its1.toArray.size = its2.toArray.size
      · rw [deqs_all (by omega), ← n1]
        exact SeqAt.RcAt.lists p1.isList p2.isList hlen hu0 it
      · rw [deqs_len (by omega)]
        exact SeqAt.RcAt.lists_lengths p1.isList p2.isList (by simpa using hlen) hu0
    | @tup a2 xs2 ds2 q2 l2 i2 =>
      cases r2
      obtain ⟨its2, v2, p2, z2⟩ := I.tuple q2
      first | exact SeqAt.EqAt.list_tuple p1.isList p2 hu0 | (rw [deq] <;> first | exact SeqAt.EqAt.list_tuple p1.isList p2 hu0 | nofun)
  | @tup a1 xs1 ds1 q1 l1 i1 ih =>
    intro A hu y e u v h2 r1 r2
    cases r1
    have hu0 : A.units < cLine := Nat.lt_of_le_of_lt (Nat.le_add_right _ _) hu
    obtain ⟨its1, v1, p1, z1⟩ := I.tuple q1
    have n1 : its1.toArray.size = ds1.length := by rw [List.size_toArray, ← v1.length, l1]
    have hu1 : ∀ (i : Nat) (d : D), ds1[i]? = some d → A.in1.units + d.dep < cLine := fun i d h => by
      have e1 := deps_le h
      have e2 : A.units + (deps ds1 + 1) < cLine := by simpa only [D.dep] using hu
      show A.units + 1 + d.dep < cLine
      omega
    cases h2 with
    | non =>
      cases r2
      first | exact SeqAt.EqAt.tuple_none p1 hu0 | (rw [deq] <;> first | exact SeqAt.EqAt.tuple_none p1 hu0 | nofun)
    | bl b2 =>
      cases r2
      first | exact SeqAt.EqAt.tuple_bool b2 p1 hu0 | (rw [deq] <;> first | exact SeqAt.EqAt.tuple_bool b2 p1 hu0 | nofun)
    | int b2 =>
      obtain ⟨t2, rfl⟩ := r2
      first | exact SeqAt.EqAt.tuple_int b2 t2 p1 hu0 | (rw [deq] <;> first | exact SeqAt.EqAt.tuple_int b2 t2 p1 hu0 | nofun)
    | str b2 =>
      obtain ⟨t2, rfl⟩ := r2
      first | exact SeqAt.EqAt.tuple_str b2 t2 p1 hu0 | (rw [deq] <;> first | exact SeqAt.EqAt.tuple_str b2 t2 p1 hu0 | nofun)
    | @lst a2 xs2 ds2 q2 l2 i2 =>
      cases r2
      obtain ⟨its2, v2, p2, z2⟩ := I.list q2
      first | exact SeqAt.EqAt.tuple_list p1 p2.isList hu0 | (rw [deq] <;> first | exact SeqAt.EqAt.tuple_list p1 p2.isList hu0 | nofun)
    | @tup a2 xs2 ds2 q2 l2 i2 =>
      cases r2
      obtain ⟨its2, v2, p2, z2⟩ := I.tuple q2
      have n2 : its2.toArray.size = ds2.length := by rw [List.size_toArray, ← v2.length, l2]
      have it := items_D (X := X) (A := A.in1) v1 v2 l1 l2 (fun i x d ha hb => ih i x d ha hb (hu1 i d hb)) i2
      by_cases hne : a1 = a2
      · subst hne
        cases (IsD.tup q1 l1 i1).one I (IsD.tup q2 l2 i2)
        rw [deq_refl]
        exact SeqAt.EqAt.same _
      refine SeqAt.EqAt.of_refs hne ?_
      rw [deq]
      rw [← tup_D, ← n1, ← n2]
      exact SeqAt.RcAt.tuples p1 p2 hu0 it
theorem rcAt_D (I : Inv X pins σ H s) {A : Around} {x y : V} {d e : D} {u v : Value} (h : IsD X.K H x d) (h2 : IsD X.K H y e) (hu : A.units + d.dep < cLine) (r1 : RelV x u) (r2 : RelV y v) : SeqAt.RcAt A s u v (deq d e) := by
  cases h with
  | non =>
    cases r1
    have hu0 : A.units < cLine := Nat.lt_of_le_of_lt (Nat.le_add_right _ _) hu
    cases h2 with
    | non =>
      cases r2
      first | exact SeqAt.RcAt.none_none | (rw [deq] <;> first | exact SeqAt.RcAt.none_none | nofun)
    | bl b2 =>
      cases r2
      first | exact SeqAt.RcAt.none_bool b2 | (rw [deq] <;> first | exact SeqAt.RcAt.none_bool b2 | nofun)
    | int b2 =>
      obtain ⟨t2, rfl⟩ := r2
      first | exact SeqAt.RcAt.none_int b2 t2 | (rw [deq] <;> first | exact SeqAt.RcAt.none_int b2 t2 | nofun)
    | str b2 =>
      obtain ⟨t2, rfl⟩ := r2
      first | exact SeqAt.RcAt.none_str b2 t2 | (rw [deq] <;> first | exact SeqAt.RcAt.none_str b2 t2 | nofun)
    | @lst a2 xs2 ds2 q2 l2 i2 =>
      cases r2
      obtain ⟨its2, v2, p2, z2⟩ := I.list q2
      first | exact SeqAt.RcAt.none_list p2.isList hu0 | (rw [deq] <;> first | exact SeqAt.RcAt.none_list p2.isList hu0 | nofun)
    | @tup a2 xs2 ds2 q2 l2 i2 =>
      cases r2
      obtain ⟨its2, v2, p2, z2⟩ := I.tuple q2
      first | exact SeqAt.RcAt.none_tuple p2 hu0 | (rw [deq] <;> first | exact SeqAt.RcAt.none_tuple p2 hu0 | nofun)
  | bl b1 =>
    cases r1
    have hu0 : A.units < cLine := Nat.lt_of_le_of_lt (Nat.le_add_right _ _) hu
    cases h2 with
    | non =>
      cases r2
      first | exact SeqAt.RcAt.bool_none b1 | (rw [deq] <;> first | exact SeqAt.RcAt.bool_none b1 | nofun)
    | bl b2 =>
      cases r2
      first | exact SeqAt.RcAt.bool_bool b1 b2 | (rw [deq] <;> first | exact SeqAt.RcAt.bool_bool b1 b2 | nofun)
    | int b2 =>
      obtain ⟨t2, rfl⟩ := r2
      first | exact SeqAt.RcAt.bool_int b1 b2 t2 | (rw [deq] <;> first | exact SeqAt.RcAt.bool_int b1 b2 t2 | nofun)
    | str b2 =>
      obtain ⟨t2, rfl⟩ := r2
      first | exact SeqAt.RcAt.bool_str b1 b2 t2 | (rw [deq] <;> first | exact SeqAt.RcAt.bool_str b1 b2 t2 | nofun)
    | @lst a2 xs2 ds2 q2 l2 i2 =>
      cases r2
      obtain ⟨its2, v2, p2, z2⟩ := I.list q2
      first | exact SeqAt.RcAt.bool_list b1 p2.isList hu0 | (rw [deq] <;> first | exact SeqAt.RcAt.bool_list b1 p2.isList hu0 | nofun)
    | @tup a2 xs2 ds2 q2 l2 i2 =>
      cases r2
      obtain ⟨its2, v2, p2, z2⟩ := I.tuple q2
      first | exact SeqAt.RcAt.bool_tuple b1 p2 hu0 | (rw [deq] <;> first | exact SeqAt.RcAt.bool_tuple b1 p2 hu0 | nofun)
  | int b1 =>
    obtain ⟨t1, rfl⟩ := r1
    have hu0 : A.units < cLine := Nat.lt_of_le_of_lt (Nat.le_add_right _ _) hu
    cases h2 with
    | non =>
      cases r2
      first | exact SeqAt.RcAt.int_none b1 t1 | (rw [deq] <;> first | exact SeqAt.RcAt.int_none b1 t1 | nofun)
    | bl b2 =>
      cases r2
      first | exact SeqAt.RcAt.int_bool b1 t1 b2 | (rw [deq] <;> first | exact SeqAt.RcAt.int_bool b1 t1 b2 | nofun)
    | int b2 =>
      obtain ⟨t2, rfl⟩ := r2
      first | exact SeqAt.RcAt.int_int b1 t1 b2 t2 | (rw [deq] <;> first | exact SeqAt.RcAt.int_int b1 t1 b2 t2 | nofun)
    | str b2 =>
      obtain ⟨t2, rfl⟩ := r2
      first | exact SeqAt.RcAt.int_str b1 t1 b2 t2 | (rw [deq] <;> first | exact SeqAt.RcAt.int_str b1 t1 b2 t2 | nofun)
    | @lst a2 xs2 ds2 q2 l2 i2 =>
      cases r2
      obtain ⟨its2, v2, p2, z2⟩ := I.list q2
      first | exact SeqAt.RcAt.int_list b1 t1 p2.isList hu0 | (rw [deq] <;> first | exact SeqAt.RcAt.int_list b1 t1 p2.isList hu0 | nofun)
    | @tup a2 xs2 ds2 q2 l2 i2 =>
      cases r2
      obtain ⟨its2, v2, p2, z2⟩ := I.tuple q2
      first | exact SeqAt.RcAt.int_tuple b1 t1 p2 hu0 | (rw [deq] <;> first | exact SeqAt.RcAt.int_tuple b1 t1 p2 hu0 | nofun)
  | str b1 =>
    obtain ⟨t1, rfl⟩ := r1
    have hu0 : A.units < cLine := Nat.lt_of_le_of_lt (Nat.le_add_right _ _) hu
    cases h2 with
    | non =>
      cases r2
      first | exact SeqAt.RcAt.str_none b1 t1 | (rw [deq] <;> first | exact SeqAt.RcAt.str_none b1 t1 | nofun)
    | bl b2 =>
      cases r2
      first | exact SeqAt.RcAt.str_bool b1 t1 b2 | (rw [deq] <;> first | exact SeqAt.RcAt.str_bool b1 t1 b2 | nofun)
    | int b2 =>
      obtain ⟨t2, rfl⟩ := r2
      first | exact SeqAt.RcAt.str_int b1 t1 b2 t2 | (rw [deq] <;> first | exact SeqAt.RcAt.str_int b1 t1 b2 t2 | nofun)
    | str b2 =>
      obtain ⟨t2, rfl⟩ := r2
      first | exact SeqAt.RcAt.str_str b1 t1 b2 t2 | (rw [deq] <;> first | exact SeqAt.RcAt.str_str b1 t1 b2 t2 | nofun)
    | @lst a2 xs2 ds2 q2 l2 i2 =>
      cases r2
      obtain ⟨its2, v2, p2, z2⟩ := I.list q2
      first | exact SeqAt.RcAt.str_list b1 t1 p2.isList hu0 | (rw [deq] <;> first | exact SeqAt.RcAt.str_list b1 t1 p2.isList hu0 | nofun)
    | @tup a2 xs2 ds2 q2 l2 i2 =>
      cases r2
      obtain ⟨its2, v2, p2, z2⟩ := I.tuple q2
      first | exact SeqAt.RcAt.str_tuple b1 t1 p2 hu0 | (rw [deq] <;> first | exact SeqAt.RcAt.str_tuple b1 t1 p2 hu0 | nofun)
  | @lst a1 xs1 ds1 q1 l1 i1 =>
    cases r1
    have hu0 : A.units < cLine := Nat.lt_of_le_of_lt (Nat.le_add_right _ _) hu
    obtain ⟨its1, v1, p1, z1⟩ := I.list q1
    have n1 : its1.toArray.size = ds1.length := by rw [List.size_toArray, ← v1.length, l1]
    have hu1 : ∀ (i : Nat) (d : D), ds1[i]? = some d → A.in1.units + d.dep < cLine := fun i d h => by
      have e1 := deps_le h
      have e2 : A.units + (deps ds1 + 1) < cLine := by simpa only [D.dep] using hu
      show A.units + 1 + d.dep < cLine
      omega
    cases h2 with
    | non =>
      cases r2
      first | exact SeqAt.RcAt.list_none p1.isList hu0 | (rw [deq] <;> first | exact SeqAt.RcAt.list_none p1.isList hu0 | nofun)
    | bl b2 =>
      cases r2
      first | exact SeqAt.RcAt.list_bool b2 p1.isList hu0 | (rw [deq] <;> first | exact SeqAt.RcAt.list_bool b2 p1.isList hu0 | nofun)
    | int b2 =>
      obtain ⟨t2, rfl⟩ := r2
      first | exact SeqAt.RcAt.list_int b2 t2 p1.isList hu0 | (rw [deq] <;> first | exact SeqAt.RcAt.list_int b2 t2 p1.isList hu0 | nofun)
    | str b2 =>
      obtain ⟨t2, rfl⟩ := r2
      first | exact SeqAt.RcAt.list_str b2 t2 p1.isList hu0 | (rw [deq] <;> first | exact SeqAt.RcAt.list_str b2 t2 p1.isList hu0 | nofun)
    | @lst a2 xs2 ds2 q2 l2 i2 =>
      cases r2
      obtain ⟨its2, v2, p2, z2⟩ := I.list q2
      have n2 : its2.toArray.size = ds2.length := by rw [List.size_toArray, ← v2.length, l2]
      have it := items_D (X := X) (A := A.in1) v1 v2 l1 l2 (fun i x d ha hb => eqAt_D I (i1 i x d ha hb) (hu1 i d hb)) i2
      rw [deq]
      by_cases hlen : its1.toArray.size = its2.toArray.size
      · rw [deqs_all (by omega), ← n1]
        exact SeqAt.RcAt.lists p1.isList p2.isList hlen hu0 it
      · rw [deqs_len (by omega)]
        exact SeqAt.RcAt.lists_lengths p1.isList p2.isList (by simpa using hlen) hu0
    | @tup a2 xs2 ds2 q2 l2 i2 =>
      cases r2
      obtain ⟨its2, v2, p2, z2⟩ := I.tuple q2
      first | exact SeqAt.RcAt.list_tuple p1.isList p2 hu0 | (rw [deq] <;> first | exact SeqAt.RcAt.list_tuple p1.isList p2 hu0 | nofun)
  | @tup a1 xs1 ds1 q1 l1 i1 =>
    cases r1
    have hu0 : A.units < cLine := Nat.lt_of_le_of_lt (Nat.le_add_right _ _) hu
    obtain ⟨its1, v1, p1, z1⟩ := I.tuple q1
    have n1 : its1.toArray.size = ds1.length := by rw [List.size_toArray, ← v1.length, l1]
    have hu1 : ∀ (i : Nat) (d : D), ds1[i]? = some d → A.in1.units + d.dep < cLine := fun i d h => by
      have e1 := deps_le h
      have e2 : A.units + (deps ds1 + 1) < cLine := by simpa only [D.dep] using hu
      show A.units + 1 + d.dep < cLine
      omega
    cases h2 with
    | non =>
      cases r2
      first | exact SeqAt.RcAt.tuple_none p1 hu0 | (rw [deq] <;> first | exact SeqAt.RcAt.tuple_none p1 hu0 | nofun)
    | bl b2 =>
      cases r2
      first | exact SeqAt.RcAt.tuple_bool b2 p1 hu0 | (rw [deq] <;> first | exact SeqAt.RcAt.tuple_bool b2 p1 hu0 | nofun)
    | int b2 =>
      obtain ⟨t2, rfl⟩ := r2
      first | exact SeqAt.RcAt.tuple_int b2 t2 p1 hu0 | (rw [deq] <;> first | exact SeqAt.RcAt.tuple_int b2 t2 p1 hu0 | nofun)
    | str b2 =>
      obtain ⟨t2, rfl⟩ := r2
      first | exact SeqAt.RcAt.tuple_str b2 t2 p1 hu0 | (rw [deq] <;> first | exact SeqAt.RcAt.tuple_str b2 t2 p1 hu0 | nofun)
    | @lst a2 xs2 ds2 q2 l2 i2 =>
      cases r2
      obtain ⟨its2, v2, p2, z2⟩ := I.list q2
      first | exact SeqAt.RcAt.tuple_list p1 p2.isList hu0 | (rw [deq] <;> first | exact SeqAt.RcAt.tuple_list p1 p2.isList hu0 | nofun)
    | @tup a2 xs2 ds2 q2 l2 i2 =>
      cases r2
      obtain ⟨its2, v2, p2, z2⟩ := I.tuple q2
      have n2 : its2.toArray.size = ds2.length := by rw [List.size_toArray, ← v2.length, l2]
      have it := items_D (X := X) (A := A.in1) v1 v2 l1 l2 (fun i x d ha hb => eqAt_D I (i1 i x d ha hb) (hu1 i d hb)) i2
      rw [deq]
      rw [← tup_D, ← n1, ← n2]
      exact SeqAt.RcAt.tuples p1 p2 hu0 it
theorem rcNeAt_D (I : Inv X pins σ H s) {A : Around} {x y : V} {d e : D} {u v : Value} (h : IsD X.K H x d) (h2 : IsD X.K H y e) (hu : A.units + d.dep < cLine) (r1 : RelV x u) (r2 : RelV y v) : SeqAt.RcNeAt A s u v (!deq d e) := by
  cases h with
  | non =>
    cases r1
    have hu0 : A.units < cLine := Nat.lt_of_le_of_lt (Nat.le_add_right _ _) hu
    cases h2 with
    | non =>
      cases r2
      first | exact SeqAt.RcNeAt.none_none | (rw [deq] <;> first | exact SeqAt.RcNeAt.none_none | nofun)
    | bl b2 =>
      cases r2
      first | exact SeqAt.RcNeAt.none_bool b2 | (rw [deq] <;> first | exact SeqAt.RcNeAt.none_bool b2 | nofun)
    | int b2 =>
      obtain ⟨t2, rfl⟩ := r2
      first | exact SeqAt.RcNeAt.none_int b2 t2 | (rw [deq] <;> first | exact SeqAt.RcNeAt.none_int b2 t2 | nofun)
    | str b2 =>
      obtain ⟨t2, rfl⟩ := r2
      first | exact SeqAt.RcNeAt.none_str b2 t2 | (rw [deq] <;> first | exact SeqAt.RcNeAt.none_str b2 t2 | nofun)
    | @lst a2 xs2 ds2 q2 l2 i2 =>
      cases r2
      obtain ⟨its2, v2, p2, z2⟩ := I.list q2
      first | exact SeqAt.RcNeAt.none_list p2.isList hu0 | (rw [deq] <;> first | exact SeqAt.RcNeAt.none_list p2.isList hu0 | nofun)
    | @tup a2 xs2 ds2 q2 l2 i2 =>
      cases r2
      obtain ⟨its2, v2, p2, z2⟩ := I.tuple q2
      first | exact SeqAt.RcNeAt.none_tuple p2 hu0 | (rw [deq] <;> first | exact SeqAt.RcNeAt.none_tuple p2 hu0 | nofun)
  | bl b1 =>
    cases r1
    have hu0 : A.units < cLine := Nat.lt_of_le_of_lt (Nat.le_add_right _ _) hu
    cases h2 with
    | non =>
      cases r2
      first | exact SeqAt.RcNeAt.bool_none b1 | (rw [deq] <;> first | exact SeqAt.RcNeAt.bool_none b1 | nofun)
    | bl b2 =>
      cases r2
      first | exact SeqAt.RcNeAt.bool_bool b1 b2 | (rw [deq] <;> first | exact SeqAt.RcNeAt.bool_bool b1 b2 | nofun)
    | int b2 =>
      obtain ⟨t2, rfl⟩ := r2
      first | exact SeqAt.RcNeAt.bool_int b1 b2 t2 | (rw [deq] <;> first | exact SeqAt.RcNeAt.bool_int b1 b2 t2 | nofun)
    | str b2 =>
      obtain ⟨t2, rfl⟩ := r2
      first | exact SeqAt.RcNeAt.bool_str b1 b2 t2 | (rw [deq] <;> first | exact SeqAt.RcNeAt.bool_str b1 b2 t2 | nofun)
    | @lst a2 xs2 ds2 q2 l2 i2 =>
      cases r2
      obtain ⟨its2, v2, p2, z2⟩ := I.list q2
      first | exact SeqAt.RcNeAt.bool_list b1 p2.isList hu0 | (rw [deq] <;> first | exact SeqAt.RcNeAt.bool_list b1 p2.isList hu0 | nofun)
    | @tup a2 xs2 ds2 q2 l2 i2 =>
      cases r2
      obtain ⟨its2, v2, p2, z2⟩ := I.tuple q2
      first | exact SeqAt.RcNeAt.bool_tuple b1 p2 hu0 | (rw [deq] <;> first | exact SeqAt.RcNeAt.bool_tuple b1 p2 hu0 | nofun)
  | int b1 =>
    obtain ⟨t1, rfl⟩ := r1
    have hu0 : A.units < cLine := Nat.lt_of_le_of_lt (Nat.le_add_right _ _) hu
    cases h2 with
    | non =>
      cases r2
      first | exact SeqAt.RcNeAt.int_none b1 t1 | (rw [deq] <;> first | exact SeqAt.RcNeAt.int_none b1 t1 | nofun)
    | bl b2 =>
      cases r2
      first | exact SeqAt.RcNeAt.int_bool b1 t1 b2 | (rw [deq] <;> first | exact SeqAt.RcNeAt.int_bool b1 t1 b2 | nofun)
    | int b2 =>
      obtain ⟨t2, rfl⟩ := r2
      first | exact SeqAt.RcNeAt.int_int b1 t1 b2 t2 | (rw [deq] <;> first | exact SeqAt.RcNeAt.int_int b1 t1 b2 t2 | nofun)
    | str b2 =>
      obtain ⟨t2, rfl⟩ := r2
      first | exact SeqAt.RcNeAt.int_str b1 t1 b2 t2 | (rw [deq] <;> first | exact SeqAt.RcNeAt.int_str b1 t1 b2 t2 | nofun)
    | @lst a2 xs2 ds2 q2 l2 i2 =>
      cases r2
      obtain ⟨its2, v2, p2, z2⟩ := I.list q2
      first | exact SeqAt.RcNeAt.int_list b1 t1 p2.isList hu0 | (rw [deq] <;> first | exact SeqAt.RcNeAt.int_list b1 t1 p2.isList hu0 | nofun)
    | @tup a2 xs2 ds2 q2 l2 i2 =>
      cases r2
      obtain ⟨its2, v2, p2, z2⟩ := I.tuple q2
      first | exact SeqAt.RcNeAt.int_tuple b1 t1 p2 hu0 | (rw [deq] <;> first | exact SeqAt.RcNeAt.int_tuple b1 t1 p2 hu0 | nofun)
  | str b1 =>
    obtain ⟨t1, rfl⟩ := r1
    have hu0 : A.units < cLine := Nat.lt_of_le_of_lt (Nat.le_add_right _ _) hu
    cases h2 with
    | non =>
      cases r2
      first | exact SeqAt.RcNeAt.str_none b1 t1 | (rw [deq] <;> first | exact SeqAt.RcNeAt.str_none b1 t1 | nofun)
    | bl b2 =>
      cases r2
      first | exact SeqAt.RcNeAt.str_bool b1 t1 b2 | (rw [deq] <;> first | exact SeqAt.RcNeAt.str_bool b1 t1 b2 | nofun)
    | int b2 =>
      obtain ⟨t2, rfl⟩ := r2
      first | exact SeqAt.RcNeAt.str_int b1 t1 b2 t2 | (rw [deq] <;> first | exact SeqAt.RcNeAt.str_int b1 t1 b2 t2 | nofun)
    | str b2 =>
      obtain ⟨t2, rfl⟩ := r2
      first | exact SeqAt.RcNeAt.str_str b1 t1 b2 t2 | (rw [deq] <;> first | exact SeqAt.RcNeAt.str_str b1 t1 b2 t2 | nofun)
    | @lst a2 xs2 ds2 q2 l2 i2 =>
      cases r2
      obtain ⟨its2, v2, p2, z2⟩ := I.list q2
      first | exact SeqAt.RcNeAt.str_list b1 t1 p2.isList hu0 | (rw [deq] <;> first | exact SeqAt.RcNeAt.str_list b1 t1 p2.isList hu0 | nofun)
    | @tup a2 xs2 ds2 q2 l2 i2 =>
      cases r2
      obtain ⟨its2, v2, p2, z2⟩ := I.tuple q2
      first | exact SeqAt.RcNeAt.str_tuple b1 t1 p2 hu0 | (rw [deq] <;> first | exact SeqAt.RcNeAt.str_tuple b1 t1 p2 hu0 | nofun)
  | @lst a1 xs1 ds1 q1 l1 i1 =>
    cases r1
    have hu0 : A.units < cLine := Nat.lt_of_le_of_lt (Nat.le_add_right _ _) hu
    obtain ⟨its1, v1, p1, z1⟩ := I.list q1
    have n1 : its1.toArray.size = ds1.length := by rw [List.size_toArray, ← v1.length, l1]
    have hu1 : ∀ (i : Nat) (d : D), ds1[i]? = some d → A.in1.units + d.dep < cLine := fun i d h => by
      have e1 := deps_le h
      have e2 : A.units + (deps ds1 + 1) < cLine := by simpa only [D.dep] using hu
      show A.units + 1 + d.dep < cLine
      omega
    cases h2 with
    | non =>
      cases r2
      first | exact SeqAt.RcNeAt.list_none p1.isList hu0 | (rw [deq] <;> first | exact SeqAt.RcNeAt.list_none p1.isList hu0 | nofun)
    | bl b2 =>
      cases r2
      first | exact SeqAt.RcNeAt.list_bool b2 p1.isList hu0 | (rw [deq] <;> first | exact SeqAt.RcNeAt.list_bool b2 p1.isList hu0 | nofun)
    | int b2 =>
      obtain ⟨t2, rfl⟩ := r2
      first | exact SeqAt.RcNeAt.list_int b2 t2 p1.isList hu0 | (rw [deq] <;> first | exact SeqAt.RcNeAt.list_int b2 t2 p1.isList hu0 | nofun)
    | str b2 =>
      obtain ⟨t2, rfl⟩ := r2
      first | exact SeqAt.RcNeAt.list_str b2 t2 p1.isList hu0 | (rw [deq] <;> first | exact SeqAt.RcNeAt.list_str b2 t2 p1.isList hu0 | nofun)
    | @lst a2 xs2 ds2 q2 l2 i2 =>
      cases r2
      obtain ⟨its2, v2, p2, z2⟩ := I.list q2
      have n2 : its2.toArray.size = ds2.length := by rw [List.size_toArray, ← v2.length, l2]
      have it := items_D (X := X) (A := A.in1) v1 v2 l1 l2 (fun i x d ha hb => eqAt_D I (i1 i x d ha hb) (hu1 i d hb)) i2
      rw [deq]
      by_cases hlen : its1.toArray.size = its2.toArray.size
      · rw [deqs_all (by omega), ← n1]
        exact SeqAt.RcNeAt.lists p1.isList p2.isList hlen hu0 it
      · rw [deqs_len (by omega)]
        exact SeqAt.RcNeAt.lists_lengths p1.isList p2.isList (by simpa using hlen) hu0
    | @tup a2 xs2 ds2 q2 l2 i2 =>
      cases r2
      obtain ⟨its2, v2, p2, z2⟩ := I.tuple q2
      first | exact SeqAt.RcNeAt.list_tuple p1.isList p2 hu0 | (rw [deq] <;> first | exact SeqAt.RcNeAt.list_tuple p1.isList p2 hu0 | nofun)
  | @tup a1 xs1 ds1 q1 l1 i1 =>
    cases r1
    have hu0 : A.units < cLine := Nat.lt_of_le_of_lt (Nat.le_add_right _ _) hu
    obtain ⟨its1, v1, p1, z1⟩ := I.tuple q1
    have n1 : its1.toArray.size = ds1.length := by rw [List.size_toArray, ← v1.length, l1]
    have hu1 : ∀ (i : Nat) (d : D), ds1[i]? = some d → A.in1.units + d.dep < cLine := fun i d h => by
      have e1 := deps_le h
      have e2 : A.units + (deps ds1 + 1) < cLine := by simpa only [D.dep] using hu
      show A.units + 1 + d.dep < cLine
      omega
    cases h2 with
    | non =>
      cases r2
      first | exact SeqAt.RcNeAt.tuple_none p1 hu0 | (rw [deq] <;> first | exact SeqAt.RcNeAt.tuple_none p1 hu0 | nofun)
    | bl b2 =>
      cases r2
      first | exact SeqAt.RcNeAt.tuple_bool b2 p1 hu0 | (rw [deq] <;> first | exact SeqAt.RcNeAt.tuple_bool b2 p1 hu0 | nofun)
    | int b2 =>
      obtain ⟨t2, rfl⟩ := r2
      first | exact SeqAt.RcNeAt.tuple_int b2 t2 p1 hu0 | (rw [deq] <;> first | exact SeqAt.RcNeAt.tuple_int b2 t2 p1 hu0 | nofun)
    | str b2 =>
      obtain ⟨t2, rfl⟩ := r2
      first | exact SeqAt.RcNeAt.tuple_str b2 t2 p1 hu0 | (rw [deq] <;> first | exact SeqAt.RcNeAt.tuple_str b2 t2 p1 hu0 | nofun)
    | @lst a2 xs2 ds2 q2 l2 i2 =>
      cases r2
      obtain ⟨its2, v2, p2, z2⟩ := I.list q2
      first | exact SeqAt.RcNeAt.tuple_list p1 p2.isList hu0 | (rw [deq] <;> first | exact SeqAt.RcNeAt.tuple_list p1 p2.isList hu0 | nofun)
    | @tup a2 xs2 ds2 q2 l2 i2 =>
      cases r2
      obtain ⟨its2, v2, p2, z2⟩ := I.tuple q2
      have n2 : its2.toArray.size = ds2.length := by rw [List.size_toArray, ← v2.length, l2]
      have it := items_D (X := X) (A := A.in1) v1 v2 l1 l2 (fun i x d ha hb => eqAt_D I (i1 i x d ha hb) (hu1 i d hb)) i2
      rw [deq]
      rw [← tup_D, ← n1, ← n2]
      exact SeqAt.RcNeAt.tuples p1 p2 hu0 it
def rEqD (K : PySem.W.Frag) (neg : Bool) : R2 := fun x y H Q => ∃ d e, IsD K H x d ∧ IsD K H y e ∧ d.dep ≤ 60 ∧ Q (.bl (if neg = true then !deq d e else deq d e)) H
theorem op_eqD (hu : X.A.units + 64 < cLine) : OpR X (compareOp .Eq) (rEqD X.K false) := by
  intro pins s σ H x y v u Q I rx ry h
  obtain ⟨d, e, h1, h2, hd, q⟩ := h
  exact rcAt_D I h1 h2 (by omega) rx ry _ _ _ _ (fin_bl I q rfl)
theorem op_neD (hu : X.A.units + 64 < cLine) : OpR X (compareOp .NotEq) (rEqD X.K true) := by
  intro pins s σ H x y v u Q I rx ry h
  obtain ⟨d, e, h1, h2, hd, q⟩ := h
  exact rcNeAt_D I h1 h2 (by omega) rx ry _ _ _ _ (fin_bl I q rfl)
def fD : V → D
  | .non => .non
  | .bl b => .bl b
  | .int i => .int i
  | .str x => .str x
  | _ => .non
theorem IsD.flat {K : PySem.W.Frag} {x : V} (h : flatV x = true) : IsD K H x (fD x) := by
  cases x with
  | non => exact .non
  | bl b => exact .bl b
  | int i => exact .int i
  | str z => exact .str z
  | _ => exact absurd (show false = true from h) Bool.false_ne_true
theorem IsD.flatL {K : PySem.W.Frag} {a : Addr} {xs : List V} (h : SqL K H a xs) (hf : ∀ x ∈ xs, flatV x = true) : IsD K H (.ref a) (.lst (xs.map fD)) := by
  refine .lst h (by simp) fun i x d h1 h2 => ?_
  rw [List.getElem?_map, h1] at h2
  cases h2
  exact .flat (hf x (List.mem_of_getElem? h1))
theorem IsD.flatT {K : PySem.W.Frag} {a : Addr} {xs : List V} (h : SqT K H a xs) (hf : ∀ x ∈ xs, flatV x = true) : IsD K H (.ref a) (.tup (xs.map fD)) := by
  refine .tup h (by simp) fun i x d h1 h2 => ?_
  rw [List.getElem?_map, h1] at h2
  cases h2
  exact .flat (hf x (List.mem_of_getElem? h1))
theorem dep_flat (x : V) : (fD x).dep = 0 := by cases x <;> rfl
theorem deps_flat (xs : List V) : deps (xs.map fD) = 0 := by
  induction xs with
  | nil => rfl
  | cons x xs ih => rw [List.map_cons, deps, dep_flat, ih]; rfl
end
end L2
namespace L2
open PySem PySem.Spec PyProof.Rows
structure Ends.Le (D D' : Ends) : Prop where
  nx : ∀ σ H, D.nx σ H → D'.nx σ H
  rt : ∀ v H, D.rt v H → D'.rt v H
  bk : ∀ σ H, D.bk σ H → D'.bk σ H
  ct : ∀ σ H, D.ct σ H → D'.ct σ H
theorem Ends.Le.refl (D : Ends) : D.Le D := ⟨fun _ _ h => h, fun _ _ h => h, fun _ _ h => h, fun _ _ h => h⟩
theorem Ends.Le.trans {D E F : Ends} (a : D.Le E) (b : E.Le F) : D.Le F := ⟨fun σ H h => b.nx σ H (a.nx σ H h), fun σ H h => b.rt σ H (a.rt σ H h), fun σ H h => b.bk σ H (a.bk σ H h), fun σ H h => b.ct σ H (a.ct σ H h)⟩
def bodyT (X : Cx) (sts : List Stmt) : TS := fun D σ H => ∃ t D', PSs X sts t ∧ t D' σ H ∧ D'.Le D
theorem pss_bodyT {X : Cx} {sts : List Stmt} : PSs X sts (bodyT X sts) := fun pins s σ H D I h => by
  obtain ⟨t, D', h1, h2, le⟩ := h
  refine thn (h1 pins s σ H D' I h2) fun f s' h => ?_
  cases f with
  | next => obtain ⟨a, b, c, d⟩ := h; exact ⟨a, b, c, le.nx _ _ d⟩
  | brk => obtain ⟨a, b, c, d⟩ := h; exact ⟨a, b, c, le.bk _ _ d⟩
  | cont => obtain ⟨a, b, c, d⟩ := h; exact ⟨a, b, c, le.ct _ _ d⟩
  | ret u => obtain ⟨v, a, b, c, r, d⟩ := h; exact ⟨v, a, b, c, r, le.rt _ _ d⟩
theorem bodyT.of {X : Cx} {sts : List Stmt} {D : Ends} {σ : St} {H : Hp} {t : TS} (h : PSs X sts t) (q : t D σ H) : bodyT X sts D σ H := ⟨t, D, h, q, .refl D⟩
theorem bodyT.mono {X : Cx} {sts : List Stmt} {D D' : Ends} {σ : St} {H : Hp} (h : bodyT X sts D σ H) (le : D.Le D') : bodyT X sts D' σ H := by
  obtain ⟨t, E, h1, h2, l⟩ := h
  exact ⟨t, E, h1, h2, l.trans le⟩
def testT (X : Cx) (e : Expr) : TT := fun σ H Q => ∃ t Q', PT X e t ∧ t σ H Q' ∧ ∀ b H1, Q' b H1 → Q b H1
theorem testT.of {X : Cx} {e : Expr} {σ : St} {H : Hp} {Q : Bool → Hp → Prop} {t : TT} (h : PT X e t) (q : t σ H Q) : testT X e σ H Q := ⟨t, Q, h, q, fun _ _ h => h⟩
def forW (J : It) (g : TG) (tb : TS) (D : Ends) (σ : St) (H : Hp) : Prop := ∃ W : Nat → Nat → St → Hp → Prop, (∃ m, W 0 m σ H) ∧ ∀ i m σ H, W i m σ H →
  (J.stop i H ∧ D.nx σ H) ∨ (J.go i H ∧ ∃ N : St → Hp → Prop, (∀ σ' H', N σ' H' → ∃ m', m' < m ∧ W (i + 1) m' σ' H') ∧ ∀ x H', J.yld i H x H' → g x σ H' fun σ2 H2 => tb { D with nx := N, ct := N, bk := D.nx } σ2 H2)
def tForW (wi : TI) (g : TG) (tb : TS) : TS := fun D σ H => wi σ H fun J H1 => forW J g tb D σ H1
theorem ps_forW {X : Cx} {tg iter : Expr} {body : List Stmt} {wi : TI} {g : TG} {tb : TS} {pos : Pos} (hp : PassesOwn (model X.prog X.w) X.A X.env X.xe) (hc : X.calm = true) (hi : PI X tg iter wi) (hg : PG X tg g) (hb : PSs X body tb)
    (hs : ∀ x, foldedSetIterable iter X.env x = pure x := by intro _; rfl) : PS X (.For tg iter body [] pos) (tForW wi g tb) := ps_for hp hc hi hg hb hs
section
variable {K : PySem.W.Frag} {a : Addr} {p : Nat} {xs : List V} {lo : Int} {n : Nat} {g : TG} {tb : TS} {D : Ends} {σ : St} {H : Hp}
theorem fw_list (xs : List V) (Pv : Nat → St → Hp → Prop) (h0 : Pv 0 σ H) (hl : ∀ i σ H, i ≤ xs.length → Pv i σ H → SqL K H a xs)
    (hs : ∀ i x σ H, xs[i]? = some x → Pv i σ H → g x σ H fun σ2 H2 => tb { D with nx := Pv (i + 1), ct := Pv (i + 1), bk := D.nx } σ2 H2) (hd : ∀ σ H, Pv xs.length σ H → D.nx σ H) : forW (Itl K a) g tb D σ H := for_list Pv h0 hl hs hd
theorem fw_range (Pv : Nat → St → Hp → Prop) (h0 : Pv 0 σ H) (hs : ∀ i σ H, i < n → Pv i σ H → g (.int (lo + i)) σ H fun σ2 H2 => tb { D with nx := Pv (i + 1), ct := Pv (i + 1), bk := D.nx } σ2 H2) (hd : ∀ σ H, Pv n σ H → D.nx σ H) : forW (Itr lo n) g tb D σ H := for_range Pv h0 hs hd
end
def whileW (c : TT) (tb : TS) (D : Ends) (σ : St) (H : Hp) : Prop := tWhile c tb D σ H
def tWhileW (c : TT) (tb : TS) : TS := fun D σ H => whileW c tb D σ H
theorem ww {X : Cx} {c : Expr} {tb : TS} {D : Ends} {σ : St} {H : Hp} (Pv : Nat → St → Hp → Prop) (m0 : Nat) (h0 : Pv m0 σ H)
    (hs : ∀ m σ H, Pv m σ H → testT X c σ H fun b H1 => if b = true then tb { D with nx := fun σ' H' => ∃ m', m' < m ∧ Pv m' σ' H', ct := fun σ' H' => ∃ m', m' < m ∧ Pv m' σ' H', bk := D.nx } σ H1 else D.nx σ H1) : whileW (testT X c) tb D σ H := by
  refine ⟨Pv, ⟨m0, h0⟩, fun m σ H h => ?_⟩
  obtain ⟨t, Q', h1, h2, le⟩ := hs m σ H h
  refine ⟨t, Q', h1, h2, fun b H1 q => ?_⟩
  have q := le b H1 q
  cases b with
  | true => exact ⟨_, fun _ _ h => h, q⟩
  | false => exact q
def stT (X : Cx) (st : Stmt) : TS := fun D σ H => ∃ t D', PS X st t ∧ t D' σ H ∧ D'.Le D
theorem ps_stT {X : Cx} {st : Stmt} : PS X st (stT X st) := fun pins s σ H D I h => by
  obtain ⟨t, D', h1, h2, le⟩ := h
  refine thn (h1 pins s σ H D' I h2) fun f s' h => ?_
  cases f with
  | next => obtain ⟨a, b, c, d⟩ := h; exact ⟨a, b, c, le.nx _ _ d⟩
  | brk => obtain ⟨a, b, c, d⟩ := h; exact ⟨a, b, c, le.bk _ _ d⟩
  | cont => obtain ⟨a, b, c, d⟩ := h; exact ⟨a, b, c, le.ct _ _ d⟩
  | ret u => obtain ⟨v, a, b, c, r, d⟩ := h; exact ⟨v, a, b, c, r, le.rt _ _ d⟩
theorem stT.of {X : Cx} {st : Stmt} {D : Ends} {σ : St} {H : Hp} {t : TS} (h : PS X st t) (q : t D σ H) : stT X st D σ H := ⟨t, D, h, q, .refl D⟩
theorem joinW {X : Cx} {st : Stmt} {D : Ends} {σ : St} {H : Hp} (M : St → Hp → Prop) (h : stT X st { D with nx := M } σ H) (q : ∀ σ H, M σ H → D.nx σ H) : stT X st D σ H := by
  obtain ⟨t, D', h1, h2, le⟩ := h
  exact ⟨t, D', h1, h2, fun σ H z => q σ H (le.nx σ H z), le.rt, le.bk, le.ct⟩
end L2
namespace L2
open PySem PySem.Spec PyProof.Rows
structure ClsFn (K : PySem.W.Frag) (C : Addr) (m : Str) (f : Addr) : Prop where
  sp : PySem.W.specialIn K (.ref C) "__getattribute__" = some (some (.builtin "type.__getattribute__"))
  rd : PySem.W.readsIn K C (.type "type") = true
  fd : PySem.W.findCls K (.ref C) (.type "type") m = some (.val (.ref f))
  kp : PySem.W.keepIn K (.ref f) = true
structure Tyc (K : PySem.W.Frag) (C : Addr) : Prop where
  ha : PySem.W.findIn K (.ref C) "__class__" = some (some (.builtin "object.__class__"))
  hn : PySem.W.specialIn K (.builtin "object.__class__") "__get__" = some (some (.builtin "getset_descriptor.__get__"))
  htk : PySem.W.takesIn K (.builtin "object.__class__") = some true
  hm : PySem.W.mroIn K C (.type "object") = some true
theorem Tyc.ty {K : PySem.W.Frag} {C a dx : Addr} {H : Hp} {fs : List (Str × V)} (t : Tyc K C) (c : Cls K C) (e : H a = some (.ins C dx fs)) : TyOf K H (.ref a) (.ref C) := .ins e c t.ha t.hn t.htk t.hm
def tMethV (L : List (Addr × Sp)) (m : Str) (dvs : List V) (E : XK) (ta : TE) (t : TA) : TE := fun σ H Q => ta σ H fun x H1 => ∃ a C dx fs, x = .ref a ∧ H1 a = some (.ins C dx fs) ∧ fs.lookup m = none ∧ ∃ sp, (C, sp) ∈ L ∧
  t σ H1 fun vs H2 => sp (x :: (vs ++ dvs)) H2 Q E
def VM (X : Cx) (CX : CXT) (m : Str) (ds : List Value) (q : Addr × Sp) : Prop := ∃ (f : Addr) (fd : FuncData) (ps : List Str) (k : Nat), Cls X.K q.1 ∧ Meth X.K q.1 m f ∧ FnOk X.prog X.w X.K X.mg X.base CX k f fd ps q.2 ∧ Room k X.A ∧ Binds X.K fd ps ds
section
variable {X : Cx} {CX : CXT} {k : Nat} {f C : Addr} {fd : FuncData} {ps : List Str} {sp : Sp} {dvs : List V} {ds : List Value} {E : XK} {x m : Str} {p pos apos : Pos} {e o : Expr} {es : List Expr} {ta : TE} {t : TA} {L : List (Addr × Sp)}
theorem pe_clsm {pl : Sem Bool} (he : PE X o (tC (.ref C))) (hm : ClsFn X.K C m f) (F : FnOk X.prog X.w X.K X.mg X.base CX k f fd ps sp) (hr : Room k X.A) (hb : Binds X.K fd ps ds) (hd : Vals dvs ds) (hx : Passes CX X E) (ha : PA X (e :: es) t)
    (hst : starEach (e :: es) X.env = (false, eval e X.env) :: starEach es X.env := by rfl) (hpl : (backTo pos (starEach es X.env)).any (·.1) = false := by rfl)
    (ht : eval (.Call (.Attribute o m apos) (e :: es) [] pos) X.env = (do
      let ov ← eval o X.env
      standAt apos.atName
      let (f, first) ← holding [ov] (getMethod ov m pl)
      callWith pos f first (backTo pos (starEach (e :: es) X.env)) (backToKw pos (keywordEach [] X.env))) := by rfl) :
    PE X (.Call (.Attribute o m apos) (e :: es) [] pos) (tCall sp dvs E t) := by
  intro pins s σ H Q I h
  refine PySem.W.methodCall_KW (pl := pl) (thn (he pins s σ H (fun v H1 => v = .ref C ∧ H1 = H) I ⟨rfl, rfl⟩) fun u s1 ⟨x, H1, I1, rx, ex, eH⟩ => ?_) ht
  subst ex
  subst eH
  obtain rfl : u = Value.ref C := rx
  refine PySem.W.method_cls I1.kIn hm.sp (PySem.W.cls_value I1.kIn hm.rd hm.fd rfl ?_)
  refine PySem.W.callWith_K (first := []) (h₀ := X.base) I.ok.mod.kin hm.kp (thn (ha pos pins _ σ _ _ (I1.tok _) h) fun us s2 ⟨vs, H2, I2, r, q2⟩ => ⟨I2.kIn, ?_⟩) hst hpl
  exact run_fn F hr hb hd hx I2 r q2
theorem pe_methV0 {pl : Sem Bool} (he : PE X o ta) (hL : ∀ q ∈ L, VM X CX m ds q) (hd : Vals dvs ds) (hx : Passes CX X E)
    (ht : eval (.Call (.Attribute o m apos) [] [] pos) X.env = (do
      let ov ← eval o X.env
      standAt apos.atName
      let (f, first) ← holding [ov] (getMethod ov m pl)
      callWith pos f first (backTo pos (starEach [] X.env)) (backToKw pos (keywordEach [] X.env))) := by rfl) :
    PE X (.Call (.Attribute o m apos) [] [] pos) (tMethV L m dvs E ta tNil) := by
  intro pins s σ H Q I h
  refine PySem.W.methodCall_KW (pl := pl) (thn (he pins s σ H _ I h) fun u s1 ⟨x, H1, I1, rx, a, C, dx, fs, ex, ea, l, sp, hC, q⟩ => ?_) ht
  subst ex
  obtain rfl : u = Value.ref a := rx
  obtain ⟨f, fd, ps, k, c, hm, F, hr, hb⟩ := hL _ hC
  refine getmeth_ok I1 ea c hm l ?_
  exact PySem.W.callWith_K0 (first := [.ref a]) I1.kIn hm.kp (run_fn (us := [.ref a]) (vs := [.ref a]) F hr hb hd hx I1 (.cons rfl .nil) q)
theorem call_isinstC : CallR X (.builtin "isinstance") (fun xs H Q => ∃ x C t b, xs = [x, .ref C] ∧ TyOf X.K H x t ∧ PySem.W.kitOne X.K t (.ref C) = some b ∧ Q (.bl b) H) := by
  intro pins s σ H xs us Q I r h
  obtain ⟨x, n, t, b, rfl, ty, e, q⟩ := h
  obtain ⟨u, w', rfl, r1, r2⟩ := vals2 r
  cases (show w' = Value.ref n from r2)
  exact isinst_ok I r1 ty e fun tk => ⟨.bl b, H, I.tok _, rfl, q⟩
end
theorem Same.seqT {K : PySem.W.Frag} {H H' : Hp} (k : Same H H') {a : Addr} {xs : List V} (h : SqT K H a xs) : SqT K H' a xs := by
  rcases h with (h | ⟨o, h⟩) | h
  · exact .inl (.inl (k _ _ h))
  · exact .inl (.inr ⟨o, k _ _ h⟩)
  · exact .inr h
theorem gN {i : Nat} {v : V} {σ : St} {H : Hp} {Q : St → Hp → Prop} (h : Q (σ.set i (some v)) H) : gName i v σ H Q := h
section
variable {K : PySem.W.Frag} {a D : Addr} {fr : List Nat} {tt : TT} {te : TE} {σ : St} {Q : Hp → Prop} {H : Hp}
def lcS (D : Addr) (Pv : Nat → List V → Hp → Prop) (n m i : Nat) : VK := fun y H4 => ∃ ys, H4 D = some (.lst ys) ∧ ys.length < sizeLine ∧ ∃ m', m' < m ∧ (m' + (i + 1) = n ∧ ∃ zs, Pv (i + 1) zs (upd H4 D (.lst (ys ++ [y]))))
def lcK (Pv : Nat → List V → Hp → Prop) (n m i : Nat) (H3 : Hp) : Prop := ∃ m', m' < m ∧ (m' + (i + 1) = n ∧ ∃ zs, Pv (i + 1) zs H3)
theorem lcS.mk {Pv : Nat → List V → Hp → Prop} {n m i : Nat} {y : V} {H4 : Hp} {ys : List V} (hm : m + 1 + i = n) (h : H4 D = some (.lst ys)) (hz : ys.length ≤ 1000) (p : Pv (i + 1) (ys ++ [y]) (upd H4 D (.lst (ys ++ [y])))) : lcS D Pv n (m + 1) i y H4 :=
  ⟨ys, h, small1000 hz, m, by omega, by omega, _, p⟩
theorem lcK.mk {Pv : Nat → List V → Hp → Prop} {n m i : Nat} {H3 : Hp} {ys : List V} (hm : m + 1 + i = n) (p : Pv (i + 1) ys H3) : lcK Pv n (m + 1) i H3 := ⟨m, by omega, by omega, _, p⟩
theorem lcl (xs : List V) (Pv : Nat → List V → Hp → Prop) (h0 : Pv 0 [] H) (hl : ∀ i ys H, i ≤ xs.length → Pv i ys H → SqL K H a xs)
    (hs : ∀ i m x ys H, m + 1 + i = xs.length → xs[i]? = some x → Pv i ys H → tt (lcSlots fr σ (some x)) H fun b H3 => if b = true then te (lcSlots fr σ (some x)) H3 (lcS D Pv xs.length (m + 1) i) else lcK Pv xs.length (m + 1) i H3)
    (hq : ∀ ys H, Pv xs.length ys H → Q H) : lcLoop (Itl K a) fr tt te σ D Q H := by
  refine ⟨fun i m H2 => m + i = xs.length ∧ ∃ ys, Pv i ys H2, ⟨xs.length, rfl, [], h0⟩, ?_⟩
  rintro i m H2 ⟨hm, ys, hp⟩
  have hS := hl i ys H2 (by omega) hp
  cases m with
  | zero =>
    have e : i = xs.length := by omega
    subst e
    exact .inl ⟨⟨xs, hS, Nat.le_refl _⟩, hq ys H2 hp⟩
  | succ m =>
    have hi : i < xs.length := by omega
    refine .inr ⟨⟨xs, xs[i], hS, List.getElem?_eq_getElem hi⟩, fun v H' y => ?_⟩
    obtain ⟨rfl, hv⟩ := y
    exact hs i m v ys H' hm (hv xs hS) hp
theorem lcr {lo : Int} {n : Nat} (Pv : Nat → List V → Hp → Prop) (h0 : Pv 0 [] H)
    (hs : ∀ i m ys H, m + 1 + i = n → i < n → Pv i ys H → tt (lcSlots fr σ (some (.int (lo + i)))) H fun b H3 => if b = true then te (lcSlots fr σ (some (.int (lo + i)))) H3 (lcS D Pv n (m + 1) i) else lcK Pv n (m + 1) i H3)
    (hq : ∀ ys H, Pv n ys H → Q H) : lcLoop (Itr lo n) fr tt te σ D Q H := by
  refine ⟨fun i m H2 => m + i = n ∧ ∃ ys, Pv i ys H2, ⟨n, rfl, [], h0⟩, ?_⟩
  rintro i m H2 ⟨hm, ys, hp⟩
  cases m with
  | zero =>
    have e : i = n := by omega
    subst e
    exact .inl ⟨Nat.le_refl _, hq ys H2 hp⟩
  | succ m =>
    have hi : i < n := by omega
    refine .inr ⟨hi, fun v H' y => ?_⟩
    obtain ⟨rfl, rfl⟩ := y
    exact hs i m ys H' hm hi hp
theorem lc_listG {β : Type} (xs : List V) (bs : List β) (g : β → Option V) (hz : xs.length ≤ 1000) (hl : bs.length = xs.length) (hS : ∀ ys, SqL K (upd H D (.lst ys)) a xs)
    (ht : ∀ (i : Nat) x b ys (R : Bool → Hp → Prop), xs[i]? = some x → bs[i]? = some b → R (g b).isSome (upd H D (.lst ys)) → tt (lcSlots fr σ (some x)) (upd H D (.lst ys)) R)
    (he : ∀ (i : Nat) x b y ys (R : VK), xs[i]? = some x → bs[i]? = some b → g b = some y → R y (upd H D (.lst ys)) → te (lcSlots fr σ (some x)) (upd H D (.lst ys)) R)
    (hq : Q (upd H D (.lst (bs.filterMap g)))) : lcLoop (Itl K a) fr tt te σ D Q (upd H D (.lst [])) := by
  refine ⟨fun i m H2 => m + i = xs.length ∧ H2 = upd H D (.lst ((bs.take i).filterMap g)), ⟨xs.length, rfl, rfl⟩, ?_⟩
  rintro i m H2 ⟨hm, rfl⟩
  cases m with
  | zero =>
    have e : i = xs.length := by omega
    subst e
    refine .inl ⟨⟨xs, hS _, Nat.le_refl _⟩, ?_⟩
    rw [← hl, List.take_length]
    exact hq
  | succ m =>
    have hi : i < xs.length := by omega
    have hb : i < bs.length := by omega
    refine .inr ⟨⟨xs, xs[i], hS _, List.getElem?_eq_getElem hi⟩, fun v H' y => ?_⟩
    obtain ⟨rfl, hv⟩ := y
    have hx := hv xs (hS _)
    have hbi : bs[i]? = some bs[i] := List.getElem?_eq_getElem hb
    have et : bs.take (i + 1) = bs.take i ++ [bs[i]] := by rw [List.take_add_one, hbi]; rfl
    have ll : ((bs.take i).filterMap g).length ≤ 1000 := by
      have h1 := List.length_filterMap_le g (bs.take i)
      have h2 := List.length_take_le i bs
      omega
    have l2 : ((bs.take i).filterMap g).length < 1000 := by
      have h1 := List.length_filterMap_le g (bs.take i)
      have h2 := List.length_take_le i bs
      omega
    refine ht i v _ _ _ hx hbi ?_
    cases eg : g bs[i] with
    | none =>
      rw [Option.isSome_none, if_neg Bool.false_ne_true]
      refine ⟨m, by omega, by omega, ?_⟩
      rw [et, List.filterMap_append]
      simp [eg]
    | some y =>
      rw [Option.isSome_some, if_pos rfl]
      refine he i v _ y _ _ hx hbi eg ⟨_, upd_same, small1000 (by omega), m, by omega, by omega, ?_⟩
      rw [upd_upd, et, List.filterMap_append]
      simp [eg]
end
end L2
namespace L2
open PySem PySem.Spec PyProof.Rows
inductive TyS (K : PySem.W.Frag) (H : Hp) : V → Value → Prop where
  | ty {x : V} {t : Value} (h : TyOf K H x t) : TyS K H x t
  | lst {a : Addr} {xs : List V} (h : SqL K H a xs) : TyS K H (.ref a) (.type "list")
  | tup {a : Addr} {xs : List V} (h : SqT K H a xs) : TyS K H (.ref a) (.type "tuple")
theorem call_isinstS {X : Cx} : CallR X (.builtin "isinstance") (fun xs H Q => ∃ x n t b, xs = [x, .ty n] ∧ TyS X.K H x t ∧ PySem.W.kitOne X.K t (.type n) = some b ∧ Q (.bl b) H) := by
  intro pins s σ H xs us Q I r h
  obtain ⟨x, n, t, b, rfl, ty, e, q⟩ := h
  obtain ⟨u, w', rfl, r1, r2⟩ := vals2 r
  cases (show w' = Value.type n from r2)
  cases ty with
  | ty h => exact isinst_ok I r1 h e fun tk => ⟨.bl b, H, I.tok _, rfl, q⟩
  | @lst a ys h =>
    cases (show u = Value.ref a from r1)
    obtain ⟨its, _, ⟨o, n, h1, h2, _⟩, _⟩ := I.list h
    exact PySem.W.kia_one PySem.W.kitx_list I.kIn ⟨o, h1, h2⟩ e (fun z => nomatch z) fun tk => ⟨.bl b, H, I.tok _, rfl, q⟩
  | @tup a ys h =>
    cases (show u = Value.ref a from r1)
    obtain ⟨its, _, ⟨o, h1, h2, _⟩, _⟩ := I.tuple h
    exact PySem.W.kia_one PySem.W.kitx_tuple I.kIn ⟨o, h1, h2⟩ e (fun z => nomatch z) fun tk => ⟨.bl b, H, I.tok _, rfl, q⟩
end L2
namespace L2
open PySem PySem.Spec PyProof.Rows
section
variable {κ : Type} [DecidableEq κ]
def valV (kvs : List (κ × V)) (k : κ) : Option V := (kvs.find? fun kv => decide (kv.1 = k)).map (·.2)
def putK (kvs : List (κ × V)) (k : κ) (v : V) : List (κ × V) :=
  if (kvs.any fun kv => decide (kv.1 = k)) = true then kvs.map (fun kv => if kv.1 = k then (kv.1, v) else kv) else kvs ++ [(k, v)]
def dropK (kvs : List (κ × V)) (k : κ) : List (κ × V) := kvs.filter fun kv => decide (kv.1 ≠ k)
theorem valV_pos {p : κ × V} {r : List (κ × V)} {k : κ} (e : p.1 = k) : valV (p :: r) k = some p.2 := by simp [valV, List.find?_cons, e]
theorem valV_neg {p : κ × V} {r : List (κ × V)} {k : κ} (e : ¬ p.1 = k) : valV (p :: r) k = valV r k := by simp [valV, List.find?_cons, e]
theorem valV_any (k : κ) : ∀ kvs : List (κ × V), (kvs.any fun kv => decide (kv.1 = k)) = (valV kvs k).isSome
  | [] => rfl
  | p :: r => by
    rw [List.any_cons]
    by_cases e : p.1 = k
    · simp only [valV_pos e, decide_eq_true e, Bool.true_or, Option.isSome_some]
    · rw [valV_neg e, decide_eq_false e, Bool.false_or]; exact valV_any k r
theorem RelO.isSome_eq {o : Option V} {u : Option Value} (r : RelO o u) : o.isSome = u.isSome := by
  cases o with
  | none => cases u with
    | none => rfl
    | some _ => exact (show False from r).elim
  | some _ => cases u with
    | none => exact (show False from r).elim
    | some _ => rfl
theorem RelO.getD {o : Option V} {u : Option Value} {d : V} {d' : Value} (r : RelO o u) (rd : RelV d d') : RelV (o.getD d) (u.getD d') := by
  cases o with
  | none => cases u with
    | none => exact rd
    | some _ => exact (show False from r).elim
  | some _ => cases u with
    | none => exact (show False from r).elim
    | some _ => exact r
theorem KV.val {kvs : List (κ × V)} {vs : List (κ × Value)} (r : KV kvs vs) (k : κ) : RelO (valV kvs k) (valueAt vs k) := by
  unfold KV at r
  induction r with
  | nil => exact True.intro
  | @cons p q ps qs h t ih =>
    obtain ⟨h1, h2⟩ := h
    by_cases e : p.1 = k
    · have e' : q.1 = k := h1.symm.trans e
      have b : valueAt (q :: qs) k = some q.2 := by simp [valueAt, List.find?_cons, e']
      rw [valV_pos e, b]; exact h2
    · have e' : ¬ q.1 = k := fun z => e (h1.trans z)
      have b : valueAt (q :: qs) k = valueAt qs k := by simp [valueAt, List.find?_cons, e']
      rw [valV_neg e, b]; exact ih
theorem KV.any {kvs : List (κ × V)} {vs : List (κ × Value)} (r : KV kvs vs) (k : κ) : (kvs.any fun kv => decide (kv.1 = k)) = vs.any fun kv => decide (kv.1 = k) := by
  unfold KV at r
  induction r with
  | nil => rfl
  | cons h t ih => rw [List.any_cons, List.any_cons, ih, h.1]
theorem KV.repl {kvs : List (κ × V)} {vs : List (κ × Value)} (r : KV kvs vs) (k : κ) {y : V} {u : Value} (ry : RelV y u) :
    KV (kvs.map fun kv => if kv.1 = k then (kv.1, y) else kv) (vs.map fun kv => if kv.1 = k then (kv.1, u) else kv) := by
  unfold KV at r ⊢
  induction r with
  | nil => exact .nil
  | @cons p q ps qs h t ih =>
    rw [List.map_cons, List.map_cons]
    refine .cons ?_ ih
    obtain ⟨h1, h2⟩ := h
    by_cases e : p.1 = k
    · rw [if_pos e, if_pos (h1.symm.trans e)]; exact ⟨h1, ry⟩
    · rw [if_neg e, if_neg (fun z => e (h1.trans z))]; exact ⟨h1, h2⟩
theorem KV.put {kvs : List (κ × V)} {vs : List (κ × Value)} (r : KV kvs vs) (k : κ) {y : V} {u : Value} (ry : RelV y u) : KV (putK kvs k y) (stored vs k u) := by
  unfold putK stored
  rw [r.any k]
  by_cases e : (vs.any fun kv => decide (kv.1 = k)) = true
  · rw [if_pos e, if_pos e]; exact r.repl k ry
  · rw [if_neg e, if_neg e]; exact Paired.snoc r ⟨rfl, ry⟩
theorem KV.drop {kvs : List (κ × V)} {vs : List (κ × Value)} (r : KV kvs vs) (k : κ) : KV (dropK kvs k) (without vs k) := by
  unfold KV at r ⊢
  unfold dropK without
  induction r with
  | nil => exact .nil
  | @cons p q ps qs h t ih =>
    obtain ⟨h1, h2⟩ := h
    rw [List.filter_cons, List.filter_cons]
    by_cases e : p.1 = k
    · have a : ¬ decide (p.1 ≠ k) = true := by simp [e]
      have b : ¬ decide (q.1 ≠ k) = true := by simp [h1.symm.trans e]
      rw [if_neg a, if_neg b]; exact ih
    · have e' : ¬ q.1 = k := fun z => e (h1.trans z)
      have a : decide (p.1 ≠ k) = true := by simp [e]
      have b : decide (q.1 ≠ k) = true := by simp [e']
      rw [if_pos a, if_pos b]; exact .cons ⟨h1, h2⟩ ih
theorem KV.length {kvs : List (κ × V)} {vs : List (κ × Value)} (r : KV kvs vs) : kvs.length = vs.length := Paired.length r
end
abbrev KT (H : Hp) : List (List Key × V) → List (List Key × Addr × Value) → Prop := Paired fun p q => p.1 = q.1 ∧ H q.2.1 = some (.tup (p.1.map kV)) ∧ RelV p.2 q.2.2
theorem KT.val {H : Hp} {kvs : List (List Key × V)} {xs : List (List Key × Addr × Value)} (r : KT H kvs xs) (k : List Key) : RelO (valV kvs k) ((atKey xs k).map (·.2)) := by
  induction r with
  | nil => exact True.intro
  | @cons p q ps qs h t ih =>
    obtain ⟨h1, _, h2⟩ := h
    by_cases e : p.1 = k
    · have e' : q.1 = k := h1.symm.trans e
      have b : atKey (q :: qs) k = some q.2 := by simp [atKey, List.find?_cons, e']
      rw [valV_pos e, b]; exact h2
    · have e' : ¬ q.1 = k := fun z => e (h1.trans z)
      have b : atKey (q :: qs) k = atKey qs k := by simp [atKey, List.find?_cons, e']
      rw [valV_neg e, b]; exact ih
theorem KT.repl {H : Hp} {kvs : List (List Key × V)} {xs : List (List Key × Addr × Value)} (r : KT H kvs xs) (k : List Key) {y : V} {u : Value} (ry : RelV y u) :
    KT H (kvs.map fun kv => if kv.1 = k then (kv.1, y) else kv) (xs.map (putAt k u)) := by
  induction r with
  | nil => exact .nil
  | @cons p q ps qs h t ih =>
    rw [List.map_cons, List.map_cons]
    refine .cons ?_ ih
    obtain ⟨h1, h2, h3⟩ := h
    unfold putAt
    by_cases e : p.1 = k
    · rw [if_pos e, if_pos (h1.symm.trans e)]; exact ⟨h1, h2, ry⟩
    · rw [if_neg e, if_neg (fun z => e (h1.trans z))]; exact ⟨h1, h2, h3⟩
theorem KT.put {H : Hp} {kvs : List (List Key × V)} {xs : List (List Key × Addr × Value)} (r : KT H kvs xs) (k : List Key) {b : Addr} {y : V} {u : Value} (hb : H b = some (.tup (k.map kV))) (ry : RelV y u) :
    KT H (putK kvs k y) (storedH xs k b u) := by
  have e : (kvs.any fun kv => decide (kv.1 = k)) = (atKey xs k).isSome := by
    rw [valV_any, (r.val k).isSome_eq, Option.isSome_map]
  unfold putK storedH
  rw [e]
  by_cases q : (atKey xs k).isSome = true
  · rw [if_pos q, if_pos q]; exact r.repl k ry
  · rw [if_neg q, if_neg q]; exact Paired.snoc r ⟨rfl, hb, ry⟩
theorem KT.keeps {H H' : Hp} {kvs : List (List Key × V)} {xs : List (List Key × Addr × Value)} (r : KT H kvs xs) (ht : ∀ b ys, H b = some (.tup ys) → H' b = some (.tup ys)) : KT H' kvs xs :=
  Paired.mapP r fun _ _ z => ⟨z.1, ht _ _ z.2.1, z.2.2⟩
section
variable {P : Program} {w : World} {H : Hp} {h : Heap} {a : Addr}
end
def DGet (H : Hp) (a : Addr) (y : V) (r : Option V) : Prop :=
  (∃ kvs k, Rd H a (.dK kvs) ∧ y = kV k ∧ r = valV kvs k) ∨ ∃ kvs k b, Rd H a (.dT kvs) ∧ y = .ref b ∧ H b = some (.tup (k.map kV)) ∧ r = valV kvs k
def DPut (H : Hp) (a : Addr) (y v : V) (H' : Hp) : Prop :=
  (∃ kvs k, H a = some (.dK kvs) ∧ y = kV k ∧ kvs.length < sizeLine ∧ H' = upd H a (.dK (putK kvs k v))) ∨
  ∃ kvs k b, H a = some (.dT kvs) ∧ y = .ref b ∧ H b = some (.tup (k.map kV)) ∧ kvs.length < sizeLine ∧ H' = upd H a (.dT (putK kvs k v))
theorem DGet.k {H : Hp} {a : Addr} {kvs : List (Key × V)} {k : Key} (e : H a = some (.dK kvs)) : DGet H a (kV k) (valV kvs k) := .inl ⟨kvs, k, .inl e, rfl, rfl⟩
theorem DGet.t {H : Hp} {a b : Addr} {kvs : List (List Key × V)} {k : List Key} (e : H a = some (.dT kvs)) (eb : H b = some (.tup (k.map kV))) : DGet H a (.ref b) (valV kvs k) := .inr ⟨kvs, k, b, .inl e, rfl, eb, rfl⟩
theorem DPut.k {H : Hp} {a : Addr} {kvs : List (Key × V)} {k : Key} {v : V} (e : H a = some (.dK kvs)) (hl : kvs.length < sizeLine) : DPut H a (kV k) v (upd H a (.dK (putK kvs k v))) := .inl ⟨kvs, k, e, rfl, hl, rfl⟩
theorem DPut.t {H : Hp} {a b : Addr} {kvs : List (List Key × V)} {k : List Key} {v : V} (e : H a = some (.dT kvs)) (eb : H b = some (.tup (k.map kV))) (hl : kvs.length < sizeLine) :
    DPut H a (.ref b) v (upd H a (.dT (putK kvs k v))) := .inr ⟨kvs, k, b, e, rfl, eb, hl, rfl⟩
section
variable {X : Cx} {pins : List (Addr × Obj)} {σ : St} {H : Hp} {s : Shared} {a : Addr} {y v : V} {u r : Value} {o : Option V} {A : Around} {E : Value → Shared → Prop}
end
section
variable {X : Cx} {pins : List (Addr × Obj)} {σ : St} {H : Hp} {s : Shared} {a : Addr} {kvs : List (Key × V)} {k : Key} {u : Value} {A : Around} {E : Value → Shared → Prop}
end
def tDGet (td ty : TE) : TE := fun σ H Q => td σ H fun x H1 => ty σ H1 fun y H2 => ∃ a v, x = .ref a ∧ DGet H2 a y (some v) ∧ Q v H2
def tDIn (ty td : TE) : TE := fun σ H Q => ty σ H fun y H1 => td σ H1 fun x H2 => ∃ a o, x = .ref a ∧ DGet H2 a y o ∧ Q (.bl o.isSome) H2
def tDNotIn (ty td : TE) : TE := fun σ H Q => ty σ H fun y H1 => td σ H1 fun x H2 => ∃ a o, x = .ref a ∧ DGet H2 a y o ∧ Q (.bl (!o.isSome)) H2
def sDPut (td ty tv : TE) : TS := fun D σ H => tv σ H fun v H1 => td σ H1 fun x H2 => ty σ H2 fun y H3 => ∃ a H4, x = .ref a ∧ DPut H3 a y v H4 ∧ D.nx σ H4
section
variable {X : Cx} {o i e value : Expr} {pos pos' tpos : Pos} {td ty tv : TE}
end
def tDNewK : TE := fun _ H Q => ∀ p, H p = none → Q (.ref p) (upd H p (.dK []))
section
variable {X : Cx} {pos : Pos}
end
structure M1 (X : Cx) (o : Expr) (m : Str) (apos : Pos) (e : Expr) (cpos : Pos) : Prop where
  base : attributeBase o m X.env (eval o X.env) = eval o X.env
  few : ((backTo cpos (starEach [e] X.env)).all (fun x => !x.1) && (backToKw cpos (keywordEach [] X.env)).all (fun x => x.1.isSome)
    && decide (([e] : List Expr).length + ([] : List Keyword).length + (if ([] : List Keyword).isEmpty then 0 else 1) < 30)) = true
  line : (apos.endLine == cpos.line) = true
  trees : backTo cpos (starEach [e] X.env) = [(false, eval e X.env)]
structure M2 (X : Cx) (o : Expr) (m : Str) (apos : Pos) (e f : Expr) (cpos : Pos) : Prop where
  base : attributeBase o m X.env (eval o X.env) = eval o X.env
  few : ((backTo cpos (starEach [e, f] X.env)).all (fun x => !x.1) && (backToKw cpos (keywordEach [] X.env)).all (fun x => x.1.isSome)
    && decide (([e, f] : List Expr).length + ([] : List Keyword).length + (if ([] : List Keyword).isEmpty then 0 else 1) < 30)) = true
  line : (apos.endLine == cpos.line) = true
  trees : backTo cpos (starEach [e, f] X.env) = [(false, eval e X.env), (false, eval f X.env)]
def IsDic (H : Hp) (a : Addr) : Prop := (∃ kvs, Rd H a (.dK kvs)) ∨ ∃ kvs, Rd H a (.dT kvs)
section
variable {X : Cx} {pins : List (Addr × Obj)} {σ : St} {H : Hp} {s : Shared} {a : Addr} {y d : V} {u r : Value} {o : Option V} {A : Around} {E : Value → Shared → Prop}
end
def tDGet1 (td ty : TE) : TE := fun σ H Q => td σ H fun x H1 => ∃ a, x = .ref a ∧ IsDic H1 a ∧ ty σ H1 fun y H2 => ∃ o, DGet H2 a y o ∧ Q (o.getD .non) H2
def tDGet2 (td ty tx : TE) : TE := fun σ H Q => td σ H fun x H1 => ∃ a, x = .ref a ∧ IsDic H1 a ∧ ty σ H1 fun y H2 => tx σ H2 fun z H3 => ∃ o, DGet H3 a y o ∧ Q (o.getD z) H3
def tDPop1 (td ty : TE) : TE := fun σ H Q => td σ H fun x H1 => ∃ a, x = .ref a ∧ IsDic H1 a ∧ ty σ H1 fun y H2 => ∃ kvs k v, H2 a = some (.dK kvs) ∧ y = kV k ∧ valV kvs k = some v ∧ Q v (upd H2 a (.dK (dropK kvs k)))
def tDPop2 (td ty tx : TE) : TE := fun σ H Q => td σ H fun x H1 => ∃ a, x = .ref a ∧ IsDic H1 a ∧ ty σ H1 fun y H2 => tx σ H2 fun z H3 => ∃ kvs k, H3 a = some (.dK kvs) ∧ y = kV k ∧
  (∀ v, valV kvs k = some v → Q v (upd H3 a (.dK (dropK kvs k)))) ∧ (valV kvs k = none → Q z H3)
section
variable {X : Cx} {o e f : Expr} {apos cpos : Pos} {td ty tx : TE}
end
section
variable {X : Cx} {pins : List (Addr × Obj)} {σ : St} {H : Hp} {s : Shared} {a : Addr} {kvs : List (Key × V)} {A : Around} {E : Value → Shared → Prop}
end
section
variable {X : Cx} {pins : List (Addr × Obj)} {σ : St} {H : Hp} {s : Shared} {a : Addr} {y : V} {u : Value} {A : Around} {E : Value → Shared → Prop}
end
end L2
namespace L2
open PySem PySem.Spec PyProof.Rows
section
variable {X : Cx}
end
section
variable {κ : Type} [DecidableEq κ]
end
end L2
namespace L2
open PySem PySem.Spec PyProof.Rows
theorem KV.get : ∀ {kvs : List (Key × V)} {vs : List (Key × Value)} {i : Nat} {p : Key × V} {q : Key × Value}, KV kvs vs → kvs[i]? = some p → vs[i]? = some q → p.1 = q.1
  | _, _, _, _, _, .nil, h, _ => by simp at h
  | _, _, 0, _, _, .cons r _, h, h' => by
    simp at h h'
    subst h h'
    exact r.1
  | _, _, i + 1, _, _, .cons _ t, h, h' => KV.get (i := i) t (by simpa using h) (by simpa using h')
section
variable {X : Cx}
end
section
variable {X : Cx} {pins : List (Addr × Obj)} {σ : St} {H : Hp} {s : Shared} {a : Addr} {kvs : List (Key × V)} {o : Obj}
def Thaw (H₀ : Hp) (a : Addr) (kvs : List (Key × V)) (H H' : Hp) : Prop := (∀ o u, H₀ a ≠ some (.frz o u)) ∧ (∃ o, H a = some (.frz o (.dK kvs))) ∧ H' = upd H a (.dK kvs)
end
def Itd (a : Addr) (o : Obj) (kvs : List (Key × V)) : It :=
  ⟨fun i H => i < kvs.length ∧ H a = some (.frz o (.dK kvs)), fun i H x H' => H' = H ∧ ∃ kv, kvs[i]? = some kv ∧ x = kV kv.1, fun i H => kvs.length ≤ i ∧ H a = some (.frz o (.dK kvs))⟩
def iDict (tl : TE) : TI := fun σ H R => tl σ H fun x H1 => ∃ a kvs, x = .ref a ∧ H1 a = some (.dK kvs) ∧ ∀ o, R (Itd a o kvs) (upd H1 a (.frz o (.dK kvs)))
def thawE (H₀ : Hp) (D : Ends) : Ends := { nx := fun σ H => D.nx σ H ∨ ∃ a kvs H', Thaw H₀ a kvs H H' ∧ D.nx σ H', rt := fun v H => D.rt v H ∨ ∃ a kvs H', Thaw H₀ a kvs H H' ∧ D.rt v H', bk := D.bk, ct := D.ct }
def tThaw (H₀ : Hp) (t : TS) : TS := fun D σ H => t (thawE H₀ D) σ H
end L2
namespace L2
open PySem PySem.Spec PyProof.Rows
section
variable {prog : Program} {w : World} {A : Around} {E : Value → Shared → Prop} {s : Shared}
end
section
variable {X : Cx}
end
section
variable {X : Cx}
end
end L2
namespace L2
open PySem PySem.Spec PyProof.Rows
section
variable {X : Cx}
end
end L2
namespace L2
open PySem PySem.Spec PyProof.Rows
def thawV (H₀ : Hp) (Q : VK) : VK := fun v H => Q v H ∨ ∃ a kvs H', Thaw H₀ a kvs H H' ∧ Q v H'
def tThawV (H₀ : Hp) (t : TE) : TE := fun σ H Q => t σ H (thawV H₀ Q)
section
variable {a D : Addr} {o : Obj} {kvs : List (Key × V)} {fr : List Nat} {tt : TT} {te : TE} {σ : St} {H : Hp} {Q : Hp → Prop}
end
end L2
namespace L2
open PySem PySem.Spec PyProof.Rows
section
variable {X : Cx}
end
end L2
namespace L2
open PySem PySem.Spec PyProof.Rows
section
variable {X : Cx}
end
end L2
namespace L2
open PySem PySem.Spec PyProof.Rows
def rIxA (K : PySem.W.Frag) : R2 := fun x y H Q => rIxL K x y H Q ∨ rIxT K x y H Q
theorem ix_any {X : Cx} : IxR X (rIxA X.K) := fun value slice pins s σ H x y v u Q I rx ry h hs => by
  rcases h with h | h
  · exact ix_list value slice pins s σ H x y v u Q I rx ry h hs
  · exact ix_tup value slice pins s σ H x y v u Q I rx ry h hs
theorem FnOk.no {P : Program} {w : World} {K : PySem.W.Frag} {mg : Str → Option Value} {base : Heap} {CX : CXT} {k : Nat} {f : Addr} {fd : FuncData} {ps : List Str} : FnOk P w K mg base CX k f fd ps (fun _ _ _ _ => False) :=
  ⟨fun _ _ _ _ h => h.elim, fun _ _ _ _ _ _ _ _ _ _ => by
    intros
    exact False.elim (by assumption)⟩
def tyD : D → String
  | .non => "NoneType"
  | .bl _ => "bool"
  | .int _ => "int"
  | .str _ => "str"
  | .lst _ => "list"
  | .tup _ => "tuple"
theorem IsD.ty {K : PySem.W.Frag} {H : Hp} {x : V} {d : D} (h : IsD K H x d) : TyS K H x (.type (tyD d)) := by
  cases h with
  | non => exact .ty .non
  | bl b => exact .ty (.bl b)
  | int i => exact .ty (.int i)
  | str x => exact .ty (.str x)
  | lst h _ _ => exact .lst h
  | tup h _ _ => exact .tup h
def isN (t n : String) : Bool := t == n || (t == "bool" && n == "int")
def isT (d : D) (n : String) : Bool := isN (tyD d) n
theorem kitN (K : PySem.W.Frag) (t n : String) (ht : t = "NoneType" ∨ t = "bool" ∨ t = "int" ∨ t = "str" ∨ t = "list" ∨ t = "tuple") (hn : n = "bool" ∨ n = "str" ∨ n = "int" ∨ n = "tuple" ∨ n = "list" ∨ n = "dict") : PySem.W.kitOne K (.type t) (.type n) = some (isN t n) := by
  rcases ht with rfl | rfl | rfl | rfl | rfl | rfl <;> rcases hn with rfl | rfl | rfl | rfl | rfl | rfl <;>
    first
    | exact kit_same K _
    | exact kit_far K (by decide +kernel) (by decide +kernel) (by decide +kernel)
theorem kitD (K : PySem.W.Frag) (d : D) (n : String) (hn : n = "bool" ∨ n = "str" ∨ n = "int" ∨ n = "tuple" ∨ n = "list" ∨ n = "dict") : PySem.W.kitOne K (.type (tyD d)) (.type n) = some (isT d n) := by
  refine kitN K _ n ?_ hn
  cases d <;> simp [tyD]
end L2
set_option Elab.async false
set_option linter.all false
set_option maxRecDepth 100000
set_option maxHeartbeats 4000000
namespace K10
open PySem L2
local macro_rules | `(tactic| dsimp! [$xs,*]) => `(tactic| simp only [tSeq, tNext, tRet, tRetN, tIfS, tIf, tB, tTest, tOp, tUn, tVar, tC, rI0, rI, rU, tAsg, gName, gNil, gCons, gLst, gTup, gSub, tDrop, tCons, tNil, tCall, tCB, tBM, tBM0, tMeth, tMake, tSl, tPart, tNoPart, tFld, sFld, tAnd, tOr, tNot, tAndV, tOrV, tNotV, L2.start, rEq, rNe, scal_ii, scal_bb, scal_ss, scal_in, scal_ni, tLst, tTup, cxOf_K, List.map_cons, List.map_nil, List.length_cons, List.length_nil, List.replicate_succ, List.replicate_zero, Nat.reduceAdd, Nat.reduceSub, Nat.zero_add, Nat.sub_self, Nat.zero_le, List.cons_append, List.nil_append, List.append_nil, List.set_cons_zero, List.set_cons_succ, List.getElem?_cons_zero, List.getElem?_cons_succ, Option.some.injEq, V.int.injEq, V.bl.injEq, V.ref.injEq, V.ty.injEq, V.str.injEq, List.cons.injEq, exists_eq_left', exists_eq_left, exists_eq_right, exists_and_left, exists_const, true_and, and_true, Bool.not_true, Bool.not_false, Bool.false_eq_true, if_true, if_false, reduceCtorEq, false_and, and_false, false_or, or_false, exists_false, decide_true, decide_false, eq_self, and_assoc, Int.toNat_natCast, tLc, tForW, tWhileW, iRng1, iRng2, iList, iTup, iEnum, tMethV, tDGet, tDIn, tDNotIn, sDPut, tDNewK, tDGet1, tDGet2, tDPop1, tDPop2, iDict, tThaw, tThawV, $xs,*])
def top (i : Nat) : Stmt := PySem.Challenge.pw_heapsafe_k10_what_things_hold.main.body.getD i (.Pass ⟨0, 0, 0, 0⟩)
abbrev s_is_thing : Stmt := top 1
abbrev s_names_in : Stmt := top 2
abbrev s_Thing_init : Stmt := inClass (top 3) 0
abbrev s_Thing_sort_of : Stmt := inClass (top 3) 1
abbrev s_Thing_fields : Stmt := inClass (top 3) 2
abbrev s_Thing_holds : Stmt := inClass (top 3) 3
abbrev s_Thing_waits : Stmt := inClass (top 3) 4
abbrev s_Thing_words : Stmt := inClass (top 3) 5
abbrev s_PlainThing_init : Stmt := inClass (top 4) 0
abbrev s_PlainThing_holds : Stmt := inClass (top 4) 1
abbrev s_PlainThing_words : Stmt := inClass (top 4) 2
abbrev s_PlainThing_with_field : Stmt := inClass (top 4) 3
abbrev s_PlainThing_with_words : Stmt := inClass (top 4) 4
abbrev s_PairThing_init : Stmt := inClass (top 5) 0
abbrev s_PairThing_waits : Stmt := inClass (top 5) 1
abbrev s_plain : Stmt := top 6
abbrev s_weak : Stmt := top 7
abbrev s_pair : Stmt := top 8
abbrev s_law_alike : Stmt := top 11
abbrev s_law_value_by : Stmt := top 12
abbrev s_law_right : Stmt := top 13
abbrev s_law_holds : Stmt := top 14
abbrev s_law : Stmt := top 15
theorem sc_is_thing : FnScope ["value"] ["value"] (defScope s_is_thing) := ⟨rfl, rfl, rfl, by decide +kernel, rfl, by decide +kernel, by decide +kernel⟩
theorem sc_names_in : FnScope ["some"] ["some"] (defScope s_names_in) := ⟨rfl, rfl, rfl, by decide +kernel, rfl, by decide +kernel, by decide +kernel⟩
theorem sc_Thing_init : FnScope ["self", "sort", "some"] ["self", "sort", "some"] (defScope s_Thing_init) := ⟨rfl, rfl, rfl, by decide +kernel, rfl, by decide +kernel, by decide +kernel⟩
theorem sc_Thing_sort_of : FnScope ["self"] ["self"] (defScope s_Thing_sort_of) := ⟨rfl, rfl, rfl, by decide +kernel, rfl, by decide +kernel, by decide +kernel⟩
theorem sc_Thing_fields : FnScope ["self"] ["self"] (defScope s_Thing_fields) := ⟨rfl, rfl, rfl, by decide +kernel, rfl, by decide +kernel, by decide +kernel⟩
theorem sc_Thing_holds : FnScope ["self"] ["self"] (defScope s_Thing_holds) := ⟨rfl, rfl, rfl, by decide +kernel, rfl, by decide +kernel, by decide +kernel⟩
theorem sc_Thing_waits : FnScope ["self"] ["self"] (defScope s_Thing_waits) := ⟨rfl, rfl, rfl, by decide +kernel, rfl, by decide +kernel, by decide +kernel⟩
theorem sc_Thing_words : FnScope ["self"] ["self"] (defScope s_Thing_words) := ⟨rfl, rfl, rfl, by decide +kernel, rfl, by decide +kernel, by decide +kernel⟩
theorem sc_PlainThing_init : FnScope ["self", "some", "last_words"] ["self", "some", "last_words"] (defScope s_PlainThing_init) := ⟨rfl, rfl, rfl, by decide +kernel, rfl, by decide +kernel, by decide +kernel⟩
theorem sc_PlainThing_holds : FnScope ["self"] ["self"] (defScope s_PlainThing_holds) := ⟨rfl, rfl, rfl, by decide +kernel, rfl, by decide +kernel, by decide +kernel⟩
theorem sc_PlainThing_words : FnScope ["self"] ["self"] (defScope s_PlainThing_words) := ⟨rfl, rfl, rfl, by decide +kernel, rfl, by decide +kernel, by decide +kernel⟩
theorem sc_PlainThing_with_field : FnScope ["self", "at", "value"] ["self", "at", "value"] (defScope s_PlainThing_with_field) := ⟨rfl, rfl, rfl, by decide +kernel, rfl, by decide +kernel, by decide +kernel⟩
theorem sc_PlainThing_with_words : FnScope ["self", "words"] ["self", "words"] (defScope s_PlainThing_with_words) := ⟨rfl, rfl, rfl, by decide +kernel, rfl, by decide +kernel, by decide +kernel⟩
theorem sc_PairThing_init : FnScope ["self", "key", "value"] ["self", "key", "value"] (defScope s_PairThing_init) := ⟨rfl, rfl, rfl, by decide +kernel, rfl, by decide +kernel, by decide +kernel⟩
theorem sc_PairThing_waits : FnScope ["self"] ["self"] (defScope s_PairThing_waits) := ⟨rfl, rfl, rfl, by decide +kernel, rfl, by decide +kernel, by decide +kernel⟩
theorem sc_plain : FnScope ["fields", "words"] ["fields", "words"] (defScope s_plain) := ⟨rfl, rfl, rfl, by decide +kernel, rfl, by decide +kernel, by decide +kernel⟩
theorem sc_weak : FnScope ["field"] ["field"] (defScope s_weak) := ⟨rfl, rfl, rfl, by decide +kernel, rfl, by decide +kernel, by decide +kernel⟩
theorem sc_pair : FnScope ["key", "value"] ["key", "value"] (defScope s_pair) := ⟨rfl, rfl, rfl, by decide +kernel, rfl, by decide +kernel, by decide +kernel⟩
theorem sc_law_alike : FnScope ["_law_found", "_law_due", "_law_key", "_law_k"] ["_law_found", "_law_due"] (defScope s_law_alike) := ⟨rfl, rfl, rfl, by decide +kernel, rfl, by decide +kernel, by decide +kernel⟩
theorem sc_law_value_by : FnScope ["_law_number"] ["_law_number"] (defScope s_law_value_by) := ⟨rfl, rfl, rfl, by decide +kernel, rfl, by decide +kernel, by decide +kernel⟩
theorem sc_law_right : FnScope ["_law_thing", "_law_sort", "_law_fields", "_law_words", "_law_holds_here", "_law_waits", "_law_due"] ["_law_thing", "_law_sort", "_law_fields", "_law_words"] (defScope s_law_right) := ⟨rfl, rfl, rfl, by decide +kernel, rfl, by decide +kernel, by decide +kernel⟩
theorem sc_law_holds : FnScope ["_law_cell", "_law_number", "_law_fields", "_law_words", "_law_handed", "_law_thing", "_law_at", "_law_other", "_law_key", "_law_value", "_law_two", "_law_three"] ["_law_cell"] (defScope s_law_holds) := ⟨rfl, rfl, rfl, by decide +kernel, rfl, by decide +kernel, by decide +kernel⟩
theorem sc_law : FnScope ["_law_script", "_law_cell"] ["_law_script"] (defScope s_law) := ⟨rfl, rfl, rfl, by decide +kernel, rfl, by decide +kernel, by decide +kernel⟩
structure Adr where
  a_is_thing : Addr
  d_is_thing : FuncData
  a_names_in : Addr
  d_names_in : FuncData
  a_Thing_init : Addr
  d_Thing_init : FuncData
  a_Thing_sort_of : Addr
  d_Thing_sort_of : FuncData
  a_Thing_fields : Addr
  d_Thing_fields : FuncData
  a_Thing_holds : Addr
  d_Thing_holds : FuncData
  a_Thing_waits : Addr
  d_Thing_waits : FuncData
  a_Thing_words : Addr
  d_Thing_words : FuncData
  a_PlainThing_init : Addr
  d_PlainThing_init : FuncData
  a_PlainThing_holds : Addr
  d_PlainThing_holds : FuncData
  a_PlainThing_words : Addr
  d_PlainThing_words : FuncData
  a_PlainThing_with_field : Addr
  d_PlainThing_with_field : FuncData
  a_PlainThing_with_words : Addr
  d_PlainThing_with_words : FuncData
  a_PairThing_init : Addr
  d_PairThing_init : FuncData
  a_PairThing_waits : Addr
  d_PairThing_waits : FuncData
  a_plain : Addr
  d_plain : FuncData
  a_weak : Addr
  d_weak : FuncData
  a_pair : Addr
  d_pair : FuncData
  a_law_alike : Addr
  d_law_alike : FuncData
  a_law_value_by : Addr
  d_law_value_by : FuncData
  a_law_right : Addr
  d_law_right : FuncData
  a_law_holds : Addr
  d_law_holds : FuncData
  a_law : Addr
  d_law : FuncData
  c_Thing : Addr
  c_PlainThing : Addr
  c_PairThing : Addr
structure Txt (K : PySem.W.Frag) (mg : Str → Option Value) (a : Adr) : Prop where
  f_is_thing : Fun K "is_thing" "is_thing" s_is_thing a.a_is_thing a.d_is_thing
  b_is_thing : Binds K a.d_is_thing ["value"] []
  m_is_thing : mg "is_thing" = some (.ref a.a_is_thing)
  f_names_in : Fun K "names_in" "names_in" s_names_in a.a_names_in a.d_names_in
  b_names_in : Binds K a.d_names_in ["some"] []
  m_names_in : mg "names_in" = some (.ref a.a_names_in)
  f_Thing_init : Fun K "__init__" "Thing.__init__" s_Thing_init a.a_Thing_init a.d_Thing_init
  b_Thing_init : Binds K a.d_Thing_init ["self", "sort", "some"] []
  mk_Thing : Mk K a.c_Thing a.a_Thing_init
  f_Thing_sort_of : Fun K "sort_of" "Thing.sort_of" s_Thing_sort_of a.a_Thing_sort_of a.d_Thing_sort_of
  b_Thing_sort_of : Binds K a.d_Thing_sort_of ["self"] []
  me_Thing_sort_of : Meth K a.c_Thing "sort_of" a.a_Thing_sort_of
  f_Thing_fields : Fun K "fields" "Thing.fields" s_Thing_fields a.a_Thing_fields a.d_Thing_fields
  b_Thing_fields : Binds K a.d_Thing_fields ["self"] []
  me_Thing_fields : Meth K a.c_Thing "fields" a.a_Thing_fields
  f_Thing_holds : Fun K "holds" "Thing.holds" s_Thing_holds a.a_Thing_holds a.d_Thing_holds
  b_Thing_holds : Binds K a.d_Thing_holds ["self"] []
  me_Thing_holds : Meth K a.c_Thing "holds" a.a_Thing_holds
  f_Thing_waits : Fun K "waits" "Thing.waits" s_Thing_waits a.a_Thing_waits a.d_Thing_waits
  b_Thing_waits : Binds K a.d_Thing_waits ["self"] []
  me_Thing_waits : Meth K a.c_Thing "waits" a.a_Thing_waits
  f_Thing_words : Fun K "words" "Thing.words" s_Thing_words a.a_Thing_words a.d_Thing_words
  b_Thing_words : Binds K a.d_Thing_words ["self"] []
  me_Thing_words : Meth K a.c_Thing "words" a.a_Thing_words
  f_PlainThing_init : Fun K "__init__" "PlainThing.__init__" s_PlainThing_init a.a_PlainThing_init a.d_PlainThing_init
  b_PlainThing_init : Binds K a.d_PlainThing_init ["self", "some", "last_words"] []
  mk_PlainThing : Mk K a.c_PlainThing a.a_PlainThing_init
  f_PlainThing_holds : Fun K "holds" "PlainThing.holds" s_PlainThing_holds a.a_PlainThing_holds a.d_PlainThing_holds
  b_PlainThing_holds : Binds K a.d_PlainThing_holds ["self"] []
  me_PlainThing_holds : Meth K a.c_PlainThing "holds" a.a_PlainThing_holds
  f_PlainThing_words : Fun K "words" "PlainThing.words" s_PlainThing_words a.a_PlainThing_words a.d_PlainThing_words
  b_PlainThing_words : Binds K a.d_PlainThing_words ["self"] []
  me_PlainThing_words : Meth K a.c_PlainThing "words" a.a_PlainThing_words
  f_PlainThing_with_field : Fun K "with_field" "PlainThing.with_field" s_PlainThing_with_field a.a_PlainThing_with_field a.d_PlainThing_with_field
  b_PlainThing_with_field : Binds K a.d_PlainThing_with_field ["self", "at", "value"] []
  me_PlainThing_with_field : Meth K a.c_PlainThing "with_field" a.a_PlainThing_with_field
  f_PlainThing_with_words : Fun K "with_words" "PlainThing.with_words" s_PlainThing_with_words a.a_PlainThing_with_words a.d_PlainThing_with_words
  b_PlainThing_with_words : Binds K a.d_PlainThing_with_words ["self", "words"] []
  me_PlainThing_with_words : Meth K a.c_PlainThing "with_words" a.a_PlainThing_with_words
  f_PairThing_init : Fun K "__init__" "PairThing.__init__" s_PairThing_init a.a_PairThing_init a.d_PairThing_init
  b_PairThing_init : Binds K a.d_PairThing_init ["self", "key", "value"] []
  mk_PairThing : Mk K a.c_PairThing a.a_PairThing_init
  f_PairThing_waits : Fun K "waits" "PairThing.waits" s_PairThing_waits a.a_PairThing_waits a.d_PairThing_waits
  b_PairThing_waits : Binds K a.d_PairThing_waits ["self"] []
  me_PairThing_waits : Meth K a.c_PairThing "waits" a.a_PairThing_waits
  f_plain : Fun K "plain" "plain" s_plain a.a_plain a.d_plain
  b_plain : Binds K a.d_plain ["fields", "words"] []
  m_plain : mg "plain" = some (.ref a.a_plain)
  f_weak : Fun K "weak" "weak" s_weak a.a_weak a.d_weak
  b_weak : Binds K a.d_weak ["field"] []
  m_weak : mg "weak" = some (.ref a.a_weak)
  f_pair : Fun K "pair" "pair" s_pair a.a_pair a.d_pair
  b_pair : Binds K a.d_pair ["key", "value"] []
  m_pair : mg "pair" = some (.ref a.a_pair)
  f_law_alike : Fun K "_law_alike" "_law_alike" s_law_alike a.a_law_alike a.d_law_alike
  b_law_alike : Binds K a.d_law_alike ["_law_found", "_law_due"] []
  m_law_alike : mg "_law_alike" = some (.ref a.a_law_alike)
  f_law_value_by : Fun K "_law_value_by" "_law_value_by" s_law_value_by a.a_law_value_by a.d_law_value_by
  b_law_value_by : Binds K a.d_law_value_by ["_law_number"] []
  m_law_value_by : mg "_law_value_by" = some (.ref a.a_law_value_by)
  f_law_right : Fun K "_law_right" "_law_right" s_law_right a.a_law_right a.d_law_right
  b_law_right : Binds K a.d_law_right ["_law_thing", "_law_sort", "_law_fields", "_law_words"] []
  m_law_right : mg "_law_right" = some (.ref a.a_law_right)
  f_law_holds : Fun K "_law_holds" "_law_holds" s_law_holds a.a_law_holds a.d_law_holds
  b_law_holds : Binds K a.d_law_holds ["_law_cell"] []
  m_law_holds : mg "_law_holds" = some (.ref a.a_law_holds)
  f_law : Fun K "law" "law" s_law a.a_law a.d_law
  m_law : mg "law" = some (.ref a.a_law)
  me_PlainThing_sort_of : Meth K a.c_PlainThing "sort_of" a.a_Thing_sort_of
  me_PlainThing_fields : Meth K a.c_PlainThing "fields" a.a_Thing_fields
  me_PlainThing_waits : Meth K a.c_PlainThing "waits" a.a_Thing_waits
  me_PairThing_sort_of : Meth K a.c_PairThing "sort_of" a.a_Thing_sort_of
  me_PairThing_fields : Meth K a.c_PairThing "fields" a.a_Thing_fields
  me_PairThing_holds : Meth K a.c_PairThing "holds" a.a_Thing_holds
  me_PairThing_words : Meth K a.c_PairThing "words" a.a_Thing_words
  cf_Thing_init : ClsFn K a.c_Thing "__init__" a.a_Thing_init
  ty_Thing : Tyc K a.c_Thing
  ty_PlainThing : Tyc K a.c_PlainThing
  ty_PairThing : Tyc K a.c_PairThing
  ki_Thing_Thing : PySem.W.kitOne K (.ref a.c_Thing) (.ref a.c_Thing) = some true
  ki_PlainThing_Thing : PySem.W.kitOne K (.ref a.c_PlainThing) (.ref a.c_Thing) = some true
  ki_PairThing_Thing : PySem.W.kitOne K (.ref a.c_PairThing) (.ref a.c_Thing) = some true
  cl_Thing : Cls K a.c_Thing
  mc_Thing : mg "Thing" = some (.ref a.c_Thing)
  na_Thing_called : NoAttr K a.c_Thing "called"
  na_Thing_parts : NoAttr K a.c_Thing "parts"
  cl_PlainThing : Cls K a.c_PlainThing
  mc_PlainThing : mg "PlainThing" = some (.ref a.c_PlainThing)
  na_PlainThing_called : NoAttr K a.c_PlainThing "called"
  na_PlainThing_parts : NoAttr K a.c_PlainThing "parts"
  na_PlainThing_last_words : NoAttr K a.c_PlainThing "last_words"
  cl_PairThing : Cls K a.c_PairThing
  mc_PairThing : mg "PairThing" = some (.ref a.c_PairThing)
  na_PairThing_called : NoAttr K a.c_PairThing "called"
  na_PairThing_parts : NoAttr K a.c_PairThing "parts"
  n_abs : mg "abs" = none
  n_bool : mg "bool" = none
  n_dict : mg "dict" = none
  n_int : mg "int" = none
  n_isinstance : mg "isinstance" = none
  n_len : mg "len" = none
  n_list : mg "list" = none
  n_range : mg "range" = none
  n_str : mg "str" = none
  n_tuple : mg "tuple" = none
section
variable {P : Program} {w : World} {K : PySem.W.Frag} {mg : Str → Option Value} {base : Heap} {a : Adr}
def Keep (d : Addr) (H H' : Hp) : Prop := ∀ b o, b ≠ d → H b = some o → H' b = some o
theorem Keep.refl (d : Addr) (H : Hp) : Keep d H H := fun _ _ _ h => h
theorem Keep.put {d l : Addr} {H H' : Hp} {o : HO} (k : Keep d H H') (h : H' l = none) : Keep d H (upd H' l o) := fun b u hb e => by
  have := k b u hb e
  rw [upd_ne (ne_of_none this h)]
  exact this
theorem Keep.set {d : Addr} {H H' : Hp} {o : HO} (k : Keep d H H') : Keep d H (upd H' d o) := fun b u hb e => by
  rw [upd_ne hb]
  exact k b u hb e
def Kp (S : Addr → Prop) (H H' : Hp) : Prop := ∀ b o, ¬ S b → H b = some o → H' b = some o
theorem Kp.refl (S : Addr → Prop) (H : Hp) : Kp S H H := fun _ _ _ h => h
theorem Kp.trans {S : Addr → Prop} {H H1 H2 : Hp} (k : Kp S H H1) (k2 : Kp S H1 H2) : Kp S H H2 := fun b o n h => k2 b o n (k b o n h)
theorem Kp.mono {S S' : Addr → Prop} {H H' : Hp} (k : Kp S H H') (i : ∀ b, S b → S' b) : Kp S' H H' := fun b o n h => k b o (fun z => n (i b z)) h
theorem Same.kp {S : Addr → Prop} {H H' : Hp} (k : Same H H') : Kp S H H' := fun b o _ h => k b o h
theorem Kp.put {S : Addr → Prop} {H H' : Hp} {l : Addr} {o : HO} (k : Kp S H H') (h : H' l = none) : Kp S H (upd H' l o) := k.trans (Same.kp (Same.put h))
theorem Kp.set {S : Addr → Prop} {H H' : Hp} {l : Addr} {o : HO} (k : Kp S H H') (h : S l) : Kp S H (upd H' l o) := fun b u n e => by
  rw [upd_ne (fun z => n (by rw [z]; exact h))]
  exact k b u n e
theorem Keep.kp {S : Addr → Prop} {d : Addr} {H H' : Hp} (k : Keep d H H') (h : S d) : Kp S H H' := fun b o n e => k b o (fun z => n (by rw [z]; exact h)) e
def Mu (H : Hp) (b : Addr) : Prop := (∃ xs, H b = some (.lst xs)) ∨ ∃ kvs, H b = some (.dK kvs)
theorem Mu.ntup {H : Hp} {b : Addr} (m : Mu H b) {xs : List V} (h : Rd H b (.tup xs)) : False := by
  rcases m with ⟨ys, m⟩ | ⟨ys, m⟩ <;> rcases h with h | ⟨o, h⟩ <;> (rw [m] at h; cases h)
theorem Kp.seqT {K : PySem.W.Frag} {S : Addr → Prop} {H H' : Hp} (k : Kp S H H') (mu : ∀ b, S b → Mu H b) {a : Addr} {xs : List V} (h : SqT K H a xs) : SqT K H' a xs := by
  rcases h with h | h
  · have n : ¬ S a := fun z => (mu a z).ntup h
    rcases h with h | ⟨o, h⟩
    · exact .inl (.inl (k _ _ n h))
    · exact .inl (.inr ⟨o, k _ _ n h⟩)
  · exact .inr h
theorem SqL.ins {K : PySem.W.Frag} {H : Hp} {l p C dx : Addr} {xs : List V} {fs : List (Str × V)} {o : HO} (h : SqL K H l xs) (hp : H p = some (.ins C dx fs)) : SqL K (upd H p o) l xs := by
  rcases h with (h | ⟨u, h⟩) | h
  · exact .inl (.inl (by rw [upd_ne (ne_of h hp (by intro z; cases z))]; exact h))
  · exact .inl (.inr ⟨u, by rw [upd_ne (ne_of h hp (by intro z; cases z))]; exact h⟩)
  · exact .inr h
inductive Vl where
  | no | num (n : Int) | th (n : Int)
def Vl.items : Vl → List V
  | .no => [.str "nothing"]
  | .num n => [.str "number", .int n]
  | .th n => [.str "thing", .int n]
def Vl.word : Vl → Str
  | .no => "nothing"
  | .num _ => "number"
  | .th _ => "thing"
def Vl.isTh : Vl → Bool
  | .th _ => true
  | _ => false
def Vl.nm : Vl → Option V
  | .th n => some (.int n)
  | _ => none
theorem Vl.hd (v : Vl) : atI v.items 0 = some (.str v.word) := by cases v <;> rfl
theorem Vl.is : ∀ v : Vl, decide (v.word = ("thing" : Str)) = v.isTh
  | .no => (by decide +kernel : decide (("nothing" : Str) = "thing") = false)
  | .num _ => (by decide +kernel : decide (("number" : Str) = "thing") = false)
  | .th _ => (by decide +kernel : decide (("thing" : Str) = "thing") = true)
theorem Vl.isnm (v : Vl) : v.nm.isSome = v.isTh := by cases v <;> rfl
def IsVl (K : PySem.W.Frag) (H : Hp) (x : V) (v : Vl) : Prop := ∃ t, x = .ref t ∧ SqT K H t v.items
theorem IsVl.same {K : PySem.W.Frag} {H H' : Hp} {x : V} {v : Vl} (h : IsVl K H x v) (k : Same H H') : IsVl K H' x v := by
  obtain ⟨t, e, h⟩ := h
  exact ⟨t, e, k.seqT h⟩
theorem IsVl.kp {K : PySem.W.Frag} {S : Addr → Prop} {H H' : Hp} {x : V} {v : Vl} (h : IsVl K H x v) (k : Kp S H H') (mu : ∀ b, S b → Mu H b) : IsVl K H' x v := by
  obtain ⟨t, e, h⟩ := h
  exact ⟨t, e, k.seqT mu h⟩
def sp_is_thing (K : PySem.W.Frag) : Sp := fun vs H Q _ => ∃ x v, vs = [x] ∧ IsVl K H x v ∧ Q (.bl v.isTh) H
theorem ok_is_thing (T : Txt K mg a) : FnOk P w K mg base CX0 1 a.a_is_thing a.d_is_thing ["value"] (sp_is_thing K) := by
  refine T.f_is_thing.ok sc_is_thing (fun vs H Q E h => ?_) (fun cdv A outer s H vs Q E hr h => ?_)
  · obtain ⟨_, _, rfl, _⟩ := h
    rfl
  · obtain ⟨x, v, rfl, ⟨t, rfl, hv⟩, q⟩ := h
    refine ⟨_, (pss_one (ps_ret (pe_cmpR op_eq (pe_ix ix_tup (pv 0) pe_int (fun _ _ => rfl)) pe_str (nomark _)))), ?_⟩
    dsimp! []
    refine ⟨t, _, _, _, rfl, rfl, hv, v.hd, ?_⟩
    dsimp! []
    rw [v.is]
    exact q
def sp_names_in (K : PySem.W.Frag) : Sp := fun vs H Q _ => ∃ (l : Addr) (xs : List V) (vl : List Vl), vs = [.ref l] ∧ SqL K H l xs ∧ xs.length ≤ 1000 ∧ vl.length = xs.length ∧ (∀ (i : Nat) x v, xs[i]? = some x → vl[i]? = some v → IsVl K H x v) ∧
  ∀ r, H r = none → Q (.ref r) (upd H r (.lst (vl.filterMap Vl.nm)))
theorem ok_names_in (T : Txt K mg a) : FnOk P w K mg base CX0 3 a.a_names_in a.d_names_in ["some"] (sp_names_in K) := by
  refine T.f_names_in.ok sc_names_in (fun vs H Q E h => ?_) (fun cdv A outer s H vs Q E hr h => ?_)
  · obtain ⟨_, _, _, rfl, _⟩ := h
    rfl
  · obtain ⟨l, xs, vl, rfl, hl, hz, hlen, hv, q⟩ := h
    refine ⟨_, (pss_one (ps_ret (pe_lc rfl (lcok (x := "value") (ns := []) (fr := []) rfl (by decide +kernel) rfl (by decide +kernel) rfl (List.forall_mem_nil _) rfl rfl (List.forall_mem_nil _) (by decide +kernel)) (pi_list (pv 0)) (fun _ _ _ _ => (pe_ix (ix_tupC (K := K) rfl) (pv 0) pe_int (fun _ _ => rfl))) (fun _ _ _ _ => (.one (pt_val (pe_call (ok_is_thing T) (hr.mono (by decide)) rfl T.m_is_thing T.f_is_thing.kp T.b_is_thing .nil pass0 (pa_cons (pv 0) pa_nil)))))))), ?_⟩
    dsimp! []
    refine ⟨⟨_, hl⟩, fun D hD => lc_listG xs vl Vl.nm hz hlen (fun ys => (Same.put hD).seq hl) ?_ ?_ (q D hD)⟩
    · intro i x v ys R hx hb r
      rw [v.isnm] at r
      have := (hv i x v hx hb).same (Same.put (o := .lst ys) hD)
      dsimp! [lcSlots]
      exact ⟨_, v, rfl, this, _, rfl, r⟩
    · intro i x v y ys R hx hb hy r
      obtain ⟨t, rfl, ht⟩ := (hv i x v hx hb).same (Same.put (o := .lst ys) hD)
      cases v with
      | no => cases hy
      | num n => cases hy
      | th n =>
        cases hy
        dsimp! [lcSlots]
        exact ⟨t, _, _, _, rfl, rfl, ht, rfl, r⟩
inductive Tg where
  | plain (fs : List Vl) (w : Option Int) | weak (f : Vl) | pair (k v : Vl)
def Tg.fs : Tg → List Vl
  | .plain fs _ => fs
  | .weak f => [f]
  | .pair k v => [k, v]
def Tg.sort : Tg → Str
  | .plain _ _ => "plain"
  | .weak _ => "weak"
  | .pair _ _ => "pair"
def Tg.words : Tg → Option Int
  | .plain _ w => w
  | _ => none
def wV : Option Int → V
  | none => .non
  | some n => .int n
def VlL (K : PySem.W.Frag) (H : Hp) (xs : List V) (vl : List Vl) : Prop := vl.length = xs.length ∧ ∀ (i : Nat) x v, xs[i]? = some x → vl[i]? = some v → IsVl K H x v
theorem VlL.same {K : PySem.W.Frag} {H H' : Hp} {xs : List V} {vl : List Vl} (h : VlL K H xs vl) (k : Same H H') : VlL K H' xs vl := ⟨h.1, fun i x v a b => (h.2 i x v a b).same k⟩
theorem VlL.kp {K : PySem.W.Frag} {S : Addr → Prop} {H H' : Hp} {xs : List V} {vl : List Vl} (h : VlL K H xs vl) (k : Kp S H H') (mu : ∀ b, S b → Mu H b) : VlL K H' xs vl := ⟨h.1, fun i x v a b => (h.2 i x v a b).kp k mu⟩
theorem VlL.nil (K : PySem.W.Frag) (H : Hp) : VlL K H [] [] := ⟨rfl, fun i x v a _ => by simp at a⟩
theorem VlL.cons {K : PySem.W.Frag} {H : Hp} {x : V} {v : Vl} {xs : List V} {vl : List Vl} (h : IsVl K H x v) (t : VlL K H xs vl) : VlL K H (x :: xs) (v :: vl) := ⟨by simp [t.1], fun i y u a b => by
  cases i with
  | zero =>
    simp at a b
    subst a b
    exact h
  | succ i => exact t.2 i y u (by simpa using a) (by simpa using b)⟩
def flT (s : Str) (d : Addr) : List (Str × V) := putF "parts" (.ref d) (putF "called" (.str s) [])
def flP (d : Addr) (w : Option Int) : List (Str × V) := putF "last_words" (wV w) (flT "plain" d)
theorem n_cp : ¬ (("called" : Str) = "parts") := by decide +kernel
theorem n_cl : ¬ (("called" : Str) = "last_words") := by decide +kernel
theorem n_pl : ¬ (("parts" : Str) = "last_words") := by decide +kernel
def Tg.cls (a : Adr) : Tg → Addr
  | .plain _ _ => a.c_PlainThing
  | .weak _ => a.c_Thing
  | .pair _ _ => a.c_PairThing
def Tg.fl (d : Addr) : Tg → List (Str × V)
  | .plain _ w => flP d w
  | .weak _ => flT "weak" d
  | .pair _ _ => flT "pair" d
theorem Tg.called (t : Tg) (d : Addr) : (t.fl d).lookup ("called" : Str) = some (.str t.sort) := by
  cases t <;> simp only [Tg.fl, flP, flT, lookup_putF, if_neg n_cl, if_neg n_cp, if_true, Tg.sort]
theorem Tg.parts (t : Tg) (d : Addr) : (t.fl d).lookup ("parts" : Str) = some (.ref d) := by
  cases t <;> simp only [Tg.fl, flP, flT, lookup_putF, if_neg n_pl, if_true]
theorem Tg.no (t : Tg) (d : Addr) {n : Str} (h1 : ¬ n = "called" := by decide +kernel) (h2 : ¬ n = "parts" := by decide +kernel) (h3 : ¬ n = "last_words" := by decide +kernel) : (t.fl d).lookup n = none := by
  cases t <;> simp only [Tg.fl, flP, flT, lookup_putF, if_neg h1, if_neg h2, if_neg h3] <;> rfl
theorem flP_lw (d : Addr) (w : Option Int) : (flP d w).lookup ("last_words" : Str) = some (wV w) := by
  unfold flP
  rw [lookup_putF, if_pos rfl]
structure ThAt (a : Adr) (K : PySem.W.Frag) (H : Hp) (p d : Addr) (t : Tg) : Prop where
  ob : ∃ dx, H p = some (.ins (t.cls a) dx (t.fl d))
  li : ∃ xs, H d = some (.lst xs) ∧ VlL K H xs t.fs ∧ xs.length ≤ 1000
theorem ThAt.same {a : Adr} {K : PySem.W.Frag} {H H' : Hp} {p d : Addr} {t : Tg} (h : ThAt a K H p d t) (k : Same H H') : ThAt a K H' p d t := by
  obtain ⟨⟨dx, h1⟩, xs, h2, h3, h4⟩ := h
  exact ⟨⟨dx, k _ _ h1⟩, xs, k _ _ h2, h3.same k, h4⟩
theorem ThAt.kp {a : Adr} {K : PySem.W.Frag} {S : Addr → Prop} {H H' : Hp} {p d : Addr} {t : Tg} (h : ThAt a K H p d t) (k : Kp S H H') (mu : ∀ b, S b → Mu H b) (hd : ¬ S d) : ThAt a K H' p d t := by
  obtain ⟨⟨dx, h1⟩, xs, h2, h3, h4⟩ := h
  refine ⟨⟨dx, k _ _ (fun z => ?_) h1⟩, xs, k _ _ hd h2, h3.kp k mu, h4⟩
  rcases mu _ z with ⟨ys, m⟩ | ⟨ys, m⟩ <;> (rw [m] at h1; cases h1)
theorem Tg.na (T : Txt K mg a) (t : Tg) : Cls K (t.cls a) ∧ NoAttr K (t.cls a) "called" ∧ NoAttr K (t.cls a) "parts" := by
  cases t
  · exact ⟨T.cl_PlainThing, T.na_PlainThing_called, T.na_PlainThing_parts⟩
  · exact ⟨T.cl_Thing, T.na_Thing_called, T.na_Thing_parts⟩
  · exact ⟨T.cl_PairThing, T.na_PairThing_called, T.na_PairThing_parts⟩
theorem Tg.mem (t : Tg) (s : Sp) : (t.cls a, s) ∈ [(a.c_Thing, s), (a.c_PlainThing, s), (a.c_PairThing, s)] := by
  cases t
  · exact .tail _ (.head _)
  · exact .head _
  · exact .tail _ (.tail _ (.head _))
def sp_Thing_init (K : PySem.W.Frag) : Sp := fun vs H Q _ => ∃ p C dx s l xs, vs = [.ref p, .str s, .ref l] ∧ Cls K C ∧ NoAttr K C "called" ∧ NoAttr K C "parts" ∧ H p = some (.ins C dx []) ∧ SqL K H l xs ∧
  ∀ d H', Keep p H H' → H d = none → H' p = some (.ins C dx (flT s d)) → H' d = some (.lst xs) → Q .non H'
theorem ok_Thing_init (T : Txt K mg a) : FnOk P w K mg base CX0 1 a.a_Thing_init a.d_Thing_init ["self", "sort", "some"] (sp_Thing_init K) := by
  refine T.f_Thing_init.ok sc_Thing_init (fun vs H Q E h => ?_) (fun cdv A outer s H vs Q E hr h => ?_)
  · obtain ⟨_, _, _, _, _, _, rfl, _⟩ := h
    rfl
  · obtain ⟨p, C, dx, s, l, xs, rfl, hC, hN1, hN2, h1, hl, q⟩ := h
    refine ⟨_, (pss_cons (ps_fld (pv 0) (pv 1) rfl) (pss_one (ps_fld (pv 0) (pe_callTy call_list_of rfl T.n_list bt_list (pa_cons (pv 2) pa_nil)) rfl))), ?_⟩
    dsimp! [h1, HO.ins.injEq, hC, hN1, hN2]
    refine ⟨by decide, xs, .inl (SqL.ins hl h1), fun d hd => ?_⟩
    have npd : p ≠ d := ne_of_none upd_same hd
    refine ⟨C, dx, putF "called" (.str s) [], by rw [upd_ne npd]; exact upd_same, hC, hN2, Nat.lt_of_le_of_lt (length_putF _ _ _) (by decide), q d _ ?_ ?_ upd_same ?_⟩
    · intro b o hb e
      rw [upd_ne hb, upd_ne (ne_of_none (by rw [upd_ne hb]; exact e) hd), upd_ne hb]
      exact e
    · rw [upd_ne npd.symm] at hd
      exact hd
    · rw [upd_ne npd.symm]
      exact upd_same
def sp_Thing_sort_of (a : Adr) (K : PySem.W.Frag) : Sp := fun vs H Q _ => ∃ p d t, vs = [.ref p] ∧ ThAt a K H p d t ∧ Q (.str t.sort) H
theorem ok_Thing_sort_of (T : Txt K mg a) : FnOk P w K mg base CX0 1 a.a_Thing_sort_of a.d_Thing_sort_of ["self"] (sp_Thing_sort_of a K) := by
  refine T.f_Thing_sort_of.ok sc_Thing_sort_of (fun vs H Q E h => ?_) (fun cdv A outer s H vs Q E hr h => ?_)
  · obtain ⟨_, _, _, rfl, _⟩ := h
    rfl
  · obtain ⟨p, d, t, rfl, ⟨⟨dx, h1⟩, _⟩, q⟩ := h
    obtain ⟨hC, hN1, hN2⟩ := t.na T
    refine ⟨_, (pss_one (ps_ret (pe_fld (pv 0) rfl))), ?_⟩
    dsimp! [h1, HO.ins.injEq, hC, hN1, t.called]
    exact q
def sp_Thing_fields (a : Adr) (K : PySem.W.Frag) : Sp := fun vs H Q _ => ∃ p d t, vs = [.ref p] ∧ ThAt a K H p d t ∧ ∀ r xs, H r = none → VlL K H xs t.fs → xs.length ≤ 1000 → Q (.ref r) (upd H r (.lst xs))
theorem ok_Thing_fields (T : Txt K mg a) : FnOk P w K mg base CX0 1 a.a_Thing_fields a.d_Thing_fields ["self"] (sp_Thing_fields a K) := by
  refine T.f_Thing_fields.ok sc_Thing_fields (fun vs H Q E h => ?_) (fun cdv A outer s H vs Q E hr h => ?_)
  · obtain ⟨_, _, _, rfl, _⟩ := h
    rfl
  · obtain ⟨p, d, t, rfl, ⟨⟨dx, h1⟩, xs, h2, h3, h4⟩, q⟩ := h
    obtain ⟨hC, hN1, hN2⟩ := t.na T
    refine ⟨_, (pss_one (ps_ret (pe_callTy call_list_of rfl T.n_list bt_list (pa_cons (pe_fld (pv 0) rfl) pa_nil)))), ?_⟩
    dsimp! [h1, HO.ins.injEq, hC, hN2, t.parts]
    exact ⟨xs, .inl (SqL.of h2), fun l hl => q l xs hl h3 h4⟩
def sp_Thing_words : Sp := fun vs H Q _ => ∃ p, vs = [.ref p] ∧ Q .non H
theorem ok_Thing_words (T : Txt K mg a) : FnOk P w K mg base CX0 1 a.a_Thing_words a.d_Thing_words ["self"] sp_Thing_words := by
  refine T.f_Thing_words.ok sc_Thing_words (fun vs H Q E h => ?_) (fun cdv A outer s H vs Q E hr h => ?_)
  · obtain ⟨_, rfl, _⟩ := h
    rfl
  · obtain ⟨p, rfl, q⟩ := h
    refine ⟨_, (pss_one (ps_ret pe_non)), ?_⟩
    dsimp! []
    exact q
def sp_PlainThing_words (a : Adr) (K : PySem.W.Frag) : Sp := fun vs H Q _ => ∃ p d fs w, vs = [.ref p] ∧ ThAt a K H p d (.plain fs w) ∧ Q (wV w) H
theorem ok_PlainThing_words (T : Txt K mg a) : FnOk P w K mg base CX0 1 a.a_PlainThing_words a.d_PlainThing_words ["self"] (sp_PlainThing_words a K) := by
  refine T.f_PlainThing_words.ok sc_PlainThing_words (fun vs H Q E h => ?_) (fun cdv A outer s H vs Q E hr h => ?_)
  · obtain ⟨_, _, _, _, rfl, _⟩ := h
    rfl
  · obtain ⟨p, d, fs, w, rfl, ⟨⟨dx, h1⟩, _⟩, q⟩ := h
    have h2 : H p = some (.ins a.c_PlainThing dx (flP d w)) := h1
    refine ⟨_, (pss_one (ps_ret (pe_fld (pv 0) rfl))), ?_⟩
    dsimp! [h2, HO.ins.injEq, T.cl_PlainThing, T.na_PlainThing_last_words, flP_lw]
    exact q
theorem words_mem (t : Tg) {p d : Addr} {H : Hp} {Q : VK} {E : XK} (h : ThAt a K H p d t) (q : Q (wV t.words) H) : ∃ sp, (t.cls a, sp) ∈ [(a.c_Thing, sp_Thing_words), (a.c_PlainThing, sp_PlainThing_words a K), (a.c_PairThing, sp_Thing_words)] ∧ sp [.ref p] H Q E := by
  cases t with
  | plain fs w => exact ⟨_, .tail _ (.head _), p, d, fs, w, rfl, h, q⟩
  | weak f => exact ⟨_, .head _, p, rfl, q⟩
  | pair k v => exact ⟨_, .tail _ (.tail _ (.head _)), p, rfl, q⟩
def sp_PlainThing_init (a : Adr) (K : PySem.W.Frag) : Sp := fun vs H Q _ => ∃ p dx l xs w, vs = [.ref p, .ref l, wV w] ∧ H p = some (.ins a.c_PlainThing dx []) ∧ SqL K H l xs ∧
  ∀ d H', Keep p H H' → H d = none → H' p = some (.ins a.c_PlainThing dx (flP d w)) → H' d = some (.lst xs) → Q .non H'
theorem ok_PlainThing_init (T : Txt K mg a) : FnOk P w K mg base CX0 3 a.a_PlainThing_init a.d_PlainThing_init ["self", "some", "last_words"] (sp_PlainThing_init a K) := by
  refine T.f_PlainThing_init.ok sc_PlainThing_init (fun vs H Q E h => ?_) (fun cdv A outer s H vs Q E hr h => ?_)
  · obtain ⟨_, _, _, _, _, rfl, _⟩ := h
    rfl
  · obtain ⟨p, dx, l, xs, w, rfl, h1, hl, q⟩ := h
    refine ⟨_, (pss_cons (ps_expr (pe_clsm (pe_glob (v := .ref a.c_Thing) rfl T.mc_Thing rfl) T.cf_Thing_init (ok_Thing_init T) (hr.mono (by decide)) T.b_Thing_init .nil pass0 (pa_cons (pv 0) (pa_cons pe_str (pa_cons (pv 1) pa_nil))))) (pss_one (ps_fld (pv 0) (pv 2) rfl))), ?_⟩
    dsimp! []
    refine ⟨p, _, dx, _, l, xs, rfl, T.cl_PlainThing, T.na_PlainThing_called, T.na_PlainThing_parts, h1, hl, fun d H' k hd hp h2 => ?_⟩
    have npd : d ≠ p := ne_of h2 hp (by intro z; cases z)
    refine ⟨_, dx, _, hp, T.cl_PlainThing, T.na_PlainThing_last_words, ?_, q d _ (fun b o hb e => ?_) hd upd_same ?_⟩
    · refine Nat.lt_of_le_of_lt (length_putF _ _ _) (Nat.lt_of_le_of_lt (Nat.succ_le_succ (length_putF _ _ _)) (by decide))
    · rw [upd_ne hb]
      exact k b o hb e
    · rw [upd_ne npd]
      exact h2
def sp_PairThing_init (a : Adr) (K : PySem.W.Frag) : Sp := fun vs H Q _ => ∃ p dx x y, vs = [.ref p, x, y] ∧ H p = some (.ins a.c_PairThing dx []) ∧
  ∀ d H', Keep p H H' → H d = none → H' p = some (.ins a.c_PairThing dx (flT "pair" d)) → H' d = some (.lst [x, y]) → Q .non H'
theorem none_up {H : Hp} {b l : Addr} {o : HO} (h : upd H l o b = none) : H b = none := by
  by_cases z : b = l
  · rw [z, upd_same] at h
    cases h
  · rw [upd_ne z] at h
    exact h
theorem ok_PairThing_init (T : Txt K mg a) : FnOk P w K mg base CX0 2 a.a_PairThing_init a.d_PairThing_init ["self", "key", "value"] (sp_PairThing_init a K) := by
  refine T.f_PairThing_init.ok sc_PairThing_init (fun vs H Q E h => ?_) (fun cdv A outer s H vs Q E hr h => ?_)
  · obtain ⟨_, _, _, _, rfl, _⟩ := h
    rfl
  · obtain ⟨p, dx, x, y, rfl, h1, q⟩ := h
    refine ⟨_, (pss_one (ps_expr (pe_clsm (pe_glob (v := .ref a.c_Thing) rfl T.mc_Thing rfl) T.cf_Thing_init (ok_Thing_init T) (hr.mono (by decide)) T.b_Thing_init .nil pass0 (pa_cons (pv 0) (pa_cons pe_str (pa_cons (pe_lst (pa_cons (pv 1) (pa_cons (pv 2) pa_nil))) pa_nil)))))), ?_⟩
    dsimp! []
    refine ⟨by decide, fun l hl => ⟨p, _, dx, _, l, [x, y], rfl, T.cl_PairThing, T.na_PairThing_called, T.na_PairThing_parts, by rw [upd_ne (ne_of_none h1 hl)]; exact h1, SqL.of upd_same, fun d H' k hd hp h2 => ?_⟩⟩
    exact q d H' (fun b o hb e => k b o hb (Same.put hl b o e)) (none_up hd) hp h2
theorem same_new {H H' : Hp} {x dx : Addr} {o u : HO} (h1 : H x = none) (h2 : H dx = none) (k : Keep x (upd (upd H dx o) x u) H') : Same H H' := fun b c e => by
  have n := ne_of_none e h1
  exact k b c n (by rw [upd_ne n, upd_ne (ne_of_none e h2)]; exact e)
def sp_plain (a : Adr) (K : PySem.W.Frag) : Sp := fun vs H Q _ => ∃ l xs vl w, vs = [.ref l, wV w] ∧ SqL K H l xs ∧ VlL K H xs vl ∧ xs.length ≤ 1000 ∧
  ∀ p d H', Same H H' → H p = none → H d = none → ThAt a K H' p d (.plain vl w) → Q (.ref p) H'
theorem ok_plain (T : Txt K mg a) : FnOk P w K mg base CX0 5 a.a_plain a.d_plain ["fields", "words"] (sp_plain a K) := by
  refine T.f_plain.ok sc_plain (fun vs H Q E h => ?_) (fun cdv A outer s H vs Q E hr h => ?_)
  · obtain ⟨_, _, _, _, rfl, _⟩ := h
    rfl
  · obtain ⟨l, xs, vl, w, rfl, hl, hv, hz, q⟩ := h
    refine ⟨_, (pss_one (ps_ret (pe_make T.mk_PlainThing (ok_PlainThing_init T) (hr.mono (by decide)) rfl T.mc_PlainThing T.b_PlainThing_init .nil pass0 (pa_cons (pv 0) (pa_cons (pv 1) pa_nil))))), ?_⟩
    dsimp! []
    refine fun x dx hx hdx ne => ⟨x, dx, l, xs, w, rfl, upd_same, ?_, fun d H' k hd hp h2 => ?_⟩
    · exact ((Same.put hdx).trans (Same.put (by rw [upd_ne ne.symm]; exact hx))).seq hl
    · have sm := same_new hx hdx k
      exact ⟨rfl, q x d H' sm hx (none_up (none_up hd)) ⟨⟨dx, hp⟩, xs, h2, hv.same sm, hz⟩⟩
def sp_weak (a : Adr) (K : PySem.W.Frag) : Sp := fun vs H Q _ => ∃ x v, vs = [x] ∧ IsVl K H x v ∧ ∀ p d H', Same H H' → H p = none → H d = none → ThAt a K H' p d (.weak v) → Q (.ref p) H'
theorem ok_weak (T : Txt K mg a) : FnOk P w K mg base CX0 3 a.a_weak a.d_weak ["field"] (sp_weak a K) := by
  refine T.f_weak.ok sc_weak (fun vs H Q E h => ?_) (fun cdv A outer s H vs Q E hr h => ?_)
  · obtain ⟨_, _, rfl, _⟩ := h
    rfl
  · obtain ⟨y, v, rfl, hv, q⟩ := h
    refine ⟨_, (pss_one (ps_ret (pe_make T.mk_Thing (ok_Thing_init T) (hr.mono (by decide)) rfl T.mc_Thing T.b_Thing_init .nil pass0 (pa_cons pe_str (pa_cons (pe_lst (pa_cons (pv 0) pa_nil)) pa_nil))))), ?_⟩
    dsimp! []
    refine ⟨by decide, fun l hl => fun x dx hx hdx ne => ⟨x, _, dx, _, l, [y], rfl, T.cl_Thing, T.na_Thing_called, T.na_Thing_parts, upd_same, ?_, fun d H' k hd hp h2 => ?_⟩⟩
    · exact ((Same.put hdx).trans (Same.put (by rw [upd_ne ne.symm]; exact hx))).seq (SqL.of upd_same)
    · have sm := (Same.put hl).trans (same_new hx hdx k)
      exact ⟨rfl, q x d H' sm (none_up hx) (none_up (none_up (none_up hd))) ⟨⟨dx, hp⟩, [y], h2, .cons (hv.same sm) (.nil _ _), by simp⟩⟩
def sp_pair (a : Adr) (K : PySem.W.Frag) : Sp := fun vs H Q _ => ∃ x y u v, vs = [x, y] ∧ IsVl K H x u ∧ IsVl K H y v ∧ ∀ p d H', Same H H' → H p = none → H d = none → ThAt a K H' p d (.pair u v) → Q (.ref p) H'
theorem ok_pair (T : Txt K mg a) : FnOk P w K mg base CX0 4 a.a_pair a.d_pair ["key", "value"] (sp_pair a K) := by
  refine T.f_pair.ok sc_pair (fun vs H Q E h => ?_) (fun cdv A outer s H vs Q E hr h => ?_)
  · obtain ⟨_, _, _, _, rfl, _⟩ := h
    rfl
  · obtain ⟨y, z, u, v, rfl, hu, hv, q⟩ := h
    refine ⟨_, (pss_one (ps_ret (pe_make T.mk_PairThing (ok_PairThing_init T) (hr.mono (by decide)) rfl T.mc_PairThing T.b_PairThing_init .nil pass0 (pa_cons (pv 0) (pa_cons (pv 1) pa_nil))))), ?_⟩
    dsimp! []
    refine fun x dx hx hdx ne => ⟨x, dx, y, z, rfl, upd_same, fun d H' k hd hp h2 => ?_⟩
    have sm := same_new hx hdx k
    exact ⟨rfl, q x d H' sm hx (none_up (none_up hd)) ⟨⟨dx, hp⟩, [y, z], h2, .cons (hu.same sm) (.cons (hv.same sm) (.nil _ _)), by simp⟩⟩
def vD (v : Vl) : D := .tup (v.items.map fD)
theorem IsVl.isD {H : Hp} {x : V} {v : Vl} (h : IsVl K H x v) : IsD K H x (vD v) := by
  obtain ⟨t, rfl, ht⟩ := h
  refine .flatT ht fun x hx => ?_
  cases v with
  | no =>
    rw [List.mem_singleton.mp hx]
    rfl
  | num n =>
    simp only [Vl.items, List.mem_cons, List.not_mem_nil, or_false] at hx
    rcases hx with rfl | rfl <;> rfl
  | th n =>
    simp only [Vl.items, List.mem_cons, List.not_mem_nil, or_false] at hx
    rcases hx with rfl | rfl <;> rfl
theorem vD_dep (v : Vl) : (vD v).dep = 1 := by rw [vD, D.dep, deps_flat]
theorem vDs_dep : ∀ vl : List Vl, deps (vl.map vD) ≤ 1
  | [] => by rw [List.map_nil, deps]; exact Nat.zero_le _
  | v :: vl => by
    rw [List.map_cons, deps, vD_dep]
    have := vDs_dep vl
    omega
theorem VlL.isD {H : Hp} {l : Addr} {xs : List V} {vl : List Vl} (h : SqL K H l xs) (hv : VlL K H xs vl) : IsD K H (.ref l) (.lst (vl.map vD)) := by
  refine .lst h (by rw [List.length_map]; exact hv.1.symm) fun i x d hx hd => ?_
  rw [List.getElem?_map] at hd
  cases e : vl[i]? with
  | none => rw [e] at hd; cases hd
  | some v =>
    rw [e] at hd
    cases hd
    exact (hv.2 i x v hx e).isD
theorem wV_flat (w : Option Int) : flatV (wV w) = true := by cases w <;> rfl
theorem lst_dep (vl : List Vl) : (D.lst (vl.map vD)).dep ≤ 60 := by
  rw [D.dep]
  have := vDs_dep vl
  omega
theorem cut0 {ys : List V} {m : Nat} : cutV ys none (some ((m : Nat) : Int)) = ys.take m := by
  unfold cutV
  rw [HT.sIx_none, HT.sIx_nat, List.drop_zero, Nat.sub_zero]
  by_cases h : m ≤ ys.length
  · rw [Nat.min_eq_left h]
  · rw [Nat.min_eq_right (by omega), List.take_of_length_le (Nat.le_refl _), List.take_of_length_le (by omega)]
theorem cutT {ys : List V} {m : Nat} : cutV ys (some ((m : Nat) : Int)) none = ys.drop m := by
  unfold cutV
  rw [HT.sIx_none, HT.sIx_nat]
  by_cases h : m ≤ ys.length
  · rw [Nat.min_eq_left h, List.take_of_length_le (by rw [List.length_drop]; exact Nat.le_refl _)]
  · rw [Nat.min_eq_right (by omega), List.drop_length, List.drop_of_length_le (by omega)]
    simp
theorem VlL.set {H : Hp} {xs : List V} {vl : List Vl} {i : Nat} {x : V} {v : Vl} (h : VlL K H xs vl) (hx : IsVl K H x v) : VlL K H (xs.set i x) (vl.set i v) := ⟨by simp [h.1], fun j y u a b => by
  by_cases e : i = j
  · subst e
    have hl := (List.getElem?_eq_some_iff.mp a).1
    rw [List.length_set] at hl
    have hl2 := h.1
    rw [List.getElem?_set_self hl] at a
    rw [List.getElem?_set_self (by omega)] at b
    cases a
    cases b
    exact hx
  · rw [List.getElem?_set_ne e] at a b
    exact h.2 j y u a b⟩
def Vl.na : Vl → Option Int
  | .th n => some n
  | _ => none
def Tg.hold : Tg → List Int
  | .plain fs _ => fs.filterMap Vl.na
  | _ => []
theorem nm_na : ∀ fs : List Vl, fs.filterMap Vl.nm = (fs.filterMap Vl.na).map V.int
  | [] => rfl
  | v :: fs => by
    rw [List.filterMap_cons, List.filterMap_cons, nm_na fs]
    cases v <;> rfl
def sp_Thing_holds : Sp := fun vs H Q _ => ∃ p, vs = [.ref p] ∧ ∀ r, H r = none → Q (.ref r) (upd H r (.lst []))
theorem ok_Thing_holds (T : Txt K mg a) : FnOk P w K mg base CX0 1 a.a_Thing_holds a.d_Thing_holds ["self"] sp_Thing_holds := by
  refine T.f_Thing_holds.ok sc_Thing_holds (fun vs H Q E h => ?_) (fun cdv A outer s H vs Q E hr h => ?_)
  · obtain ⟨_, rfl, _⟩ := h
    rfl
  · obtain ⟨p, rfl, q⟩ := h
    refine ⟨_, (pss_one (ps_ret (pe_lst pa_nil))), ?_⟩
    dsimp! []
    exact q
def sp_PlainThing_holds (a : Adr) (K : PySem.W.Frag) : Sp := fun vs H Q _ => ∃ p d fs w, vs = [.ref p] ∧ ThAt a K H p d (.plain fs w) ∧ ∀ r, H r = none → Q (.ref r) (upd H r (.lst ((fs.filterMap Vl.na).map V.int)))
theorem ok_PlainThing_holds (T : Txt K mg a) : FnOk P w K mg base CX0 4 a.a_PlainThing_holds a.d_PlainThing_holds ["self"] (sp_PlainThing_holds a K) := by
  refine T.f_PlainThing_holds.ok sc_PlainThing_holds (fun vs H Q E h => ?_) (fun cdv A outer s H vs Q E hr h => ?_)
  · obtain ⟨_, _, _, _, rfl, _⟩ := h
    rfl
  · obtain ⟨p, d, fs, w, rfl, ⟨⟨dx, h1⟩, xs, h2, h3, h4⟩, q⟩ := h
    refine ⟨_, (pss_one (ps_ret (pe_call (ok_names_in T) (hr.mono (by decide)) rfl T.m_names_in T.f_names_in.kp T.b_names_in .nil pass0 (pa_cons (pe_fld (pv 0) rfl) pa_nil)))), ?_⟩
    have h1' : H p = some (.ins a.c_PlainThing dx (flP d w)) := h1
    have f2 : (flP d w).lookup ("parts" : Str) = some (.ref d) := (Tg.plain fs w).parts d
    dsimp! [h1', HO.ins.injEq, T.cl_PlainThing, T.na_PlainThing_parts, f2]
    refine ⟨d, xs, fs, rfl, SqL.of h2, h4, h3.1, h3.2, fun r hr => ?_⟩
    rw [nm_na]
    exact q r hr
theorem holds_mem (t : Tg) {p d : Addr} {H : Hp} {Q : VK} {E : XK} (h : ThAt a K H p d t) (q : ∀ r, H r = none → Q (.ref r) (upd H r (.lst (t.hold.map V.int)))) : ∃ sp, (t.cls a, sp) ∈ [(a.c_Thing, sp_Thing_holds), (a.c_PlainThing, sp_PlainThing_holds a K), (a.c_PairThing, sp_Thing_holds)] ∧ sp [.ref p] H Q E := by
  cases t with
  | plain fs w => exact ⟨_, .tail _ (.head _), p, d, fs, w, rfl, h, q⟩
  | weak f => exact ⟨_, .head _, p, rfl, q⟩
  | pair k v => exact ⟨_, .tail _ (.tail _ (.head _)), p, rfl, q⟩
def Tg.wD : Tg → D
  | .pair (.th n) v => .lst [.tup [.int n, vD v]]
  | _ => .lst []
def sp_Thing_waits : Sp := fun vs H Q _ => ∃ p, vs = [.ref p] ∧ ∀ r, H r = none → Q (.ref r) (upd H r (.lst []))
theorem ok_Thing_waits (T : Txt K mg a) : FnOk P w K mg base CX0 1 a.a_Thing_waits a.d_Thing_waits ["self"] sp_Thing_waits := by
  refine T.f_Thing_waits.ok sc_Thing_waits (fun vs H Q E h => ?_) (fun cdv A outer s H vs Q E hr h => ?_)
  · obtain ⟨_, rfl, _⟩ := h
    rfl
  · obtain ⟨p, rfl, q⟩ := h
    refine ⟨_, (pss_one (ps_ret (pe_lst pa_nil))), ?_⟩
    dsimp! []
    exact q
def sp_PairThing_waits (a : Adr) (K : PySem.W.Frag) : Sp := fun vs H Q _ => ∃ p d k v, vs = [.ref p] ∧ ThAt a K H p d (.pair k v) ∧ ∀ (l : Addr) (ws : List V) (H' : Hp), Same H H' → H l = none → H' l = some (.lst ws) → ws.length ≤ 1 → IsD K H' (.ref l) (Tg.wD (.pair k v)) → Q (.ref l) H'
theorem ok_PairThing_waits (T : Txt K mg a) : FnOk P w K mg base CX0 5 a.a_PairThing_waits a.d_PairThing_waits ["self"] (sp_PairThing_waits a K) := by
  refine T.f_PairThing_waits.ok sc_PairThing_waits (fun vs H Q E h => ?_) (fun cdv A outer s H vs Q E hr h => ?_)
  · obtain ⟨_, _, _, _, rfl, _⟩ := h
    rfl
  · obtain ⟨p, d, k, v, rfl, h, q⟩ := h
    obtain ⟨⟨dx, h1⟩, xs, h2, h3, h4⟩ := id h
    refine ⟨_, (pss_one (ps_ret (pe_lc rfl (lcok (x := "name") (ns := ["self"]) (fr := [0]) rfl (by decide +kernel) rfl (by decide +kernel) rfl (List.forall_mem_cons.mpr ⟨rfl, List.forall_mem_nil _⟩) rfl rfl (List.forall_mem_cons.mpr ⟨⟨rfl, rfl, .inl rfl⟩, List.forall_mem_nil _⟩) (by decide +kernel)) (pi_list (pe_call (ok_names_in T) (hr.mono (by decide)) rfl T.m_names_in T.f_names_in.kp T.b_names_in .nil pass0 (pa_cons (pe_slice sl_list (pe_fld (pv 0) rfl) po_none (po_some pe_int)) pa_nil))) (fun _ _ _ _ => (pe_tup (pa_cons (pv 0) (pa_cons (pe_ix (ix_listC (K := K) rfl) (pe_fldC (K := K) rfl (pv 1) rfl) pe_int (fun _ _ => rfl)) pa_nil)))) (fun _ _ _ _ => .nil)))), ?_⟩
    have h1' : H p = some (.ins a.c_PairThing dx (flT "pair" d)) := h1
    have f2 : (flT "pair" d).lookup ("parts" : Str) = some (.ref d) := (Tg.pair k v).parts d
    dsimp! [h1', HO.ins.injEq, T.cl_PairThing, T.na_PairThing_parts, f2]
    have hl2 : xs.length = 2 := h3.1.symm
    obtain ⟨kx, vx, rfl⟩ : ∃ kx vx, xs = [kx, vx] := by
      match xs, hl2 with
      | [x, y], _ => exact ⟨x, y, rfl⟩
    have hk := h3.2 0 kx k rfl rfl
    have hv := h3.2 1 vx v rfl rfl
    refine ⟨d, _, rfl, SqL.of h2, fun l1 hl1 => ?_⟩
    have ec : cutV [kx, vx] none (some 1) = [kx] := rfl
    rw [ec]
    have s1 := Same.put (o := .lst [kx]) hl1
    have hl11 : upd H l1 (.lst [kx]) l1 = some (.lst [kx]) := upd_same
    generalize upd H l1 (.lst [kx]) = H1 at s1 hl11
    refine ⟨l1, [kx], [k], rfl, SqL.of hl11, by simp, rfl, (VlL.cons (hk.same s1) (VlL.nil _ _)).2, fun r hr2 => ⟨r, rfl, ⟨_, SqL.of upd_same⟩, fun D hD => ?_⟩⟩
    have s2 := s1.trans (Same.put (o := .lst ([k].filterMap Vl.nm)) hr2)
    have hr22 : upd H1 r (.lst ([k].filterMap Vl.nm)) r = some (.lst ([k].filterMap Vl.nm)) := upd_same
    generalize upd H1 r (.lst ([k].filterMap Vl.nm)) = H2 at s2 hr22 hD
    have hD0 : H D = none := s2.free hD
    cases k with
    | th n =>
      refine lcl [V.int n] (fun i ys G => Same H2 G ∧ G D = some (.lst ys) ∧ (i = 0 ∧ ys = [] ∨ i = 1 ∧ ∃ t, ys = [.ref t] ∧ G t = some (.tup [.int n, vx]))) ⟨Same.put hD, upd_same, .inl ⟨rfl, rfl⟩⟩ ?_ ?_ ?_
      · rintro i ys G _ ⟨sG, _⟩
        exact SqL.of (sG _ _ hr22)
      · rintro i m x ys G hm hx ⟨sG, hDG, hst⟩
        have ei : i = 0 := by
          simp at hm
          omega
        subst ei
        cases hx
        rcases hst with ⟨_, rfl⟩ | ⟨z, _⟩
        · have h1G := (s2.trans sG) _ _ h1'
          have h2G := (s2.trans sG) _ _ h2
          dsimp! [lcSlots, Option.join_some, h1G, HO.ins.injEq, T.cl_PairThing, T.na_PairThing_parts, f2]
          refine ⟨d, _, _, vx, rfl, rfl, SqL.of h2G, rfl, by simp [sizeLine_eq], fun t ht => lcS.mk hm (by rw [upd_ne (ne_of_none hDG ht)]; exact hDG) (by simp) ⟨fun b u e => ?_, upd_same, .inr ⟨rfl, t, rfl, ?_⟩⟩⟩
          · rw [upd_ne (ne_of_none e hD), upd_ne (ne_of_none (sG b u e) ht)]
            exact sG b u e
          · rw [upd_ne (ne_of_none hDG ht).symm, upd_same]
        · cases z
      · rintro ys G ⟨sG, hDG, hst⟩
        rcases hst with ⟨z, _⟩ | ⟨_, t, rfl, ht⟩
        · cases z
        · refine q D [V.ref t] G (s2.trans sG) hD0 hDG (by simp) ?_
          refine .lst (SqL.of hDG) rfl fun i x d hx hd => ?_
          match i, hx, hd with
          | 0, hx, hd =>
            cases hx
            cases hd
            refine .tup (SqT.of ht) rfl fun j y e hy he => ?_
            match j, hy, he with
            | 0, hy, he =>
              cases hy
              cases he
              exact .int _
            | 1, hy, he =>
              cases hy
              cases he
              exact (hv.same (s2.trans sG)).isD
    | no =>
      refine lcl [] (fun i ys G => Same H2 G ∧ G D = some (.lst ys) ∧ ys = []) ⟨Same.put hD, upd_same, rfl⟩ ?_ ?_ ?_
      · rintro i ys G _ ⟨sG, _⟩
        exact SqL.of (sG _ _ hr22)
      · rintro i m x ys G hm hx _
        simp at hx
      · rintro ys G ⟨sG, hDG, rfl⟩
        exact q D [] G (s2.trans sG) hD0 hDG (by simp) (.flatL (SqL.of hDG) fun x hx => (nomatch hx))
    | num z =>
      refine lcl [] (fun i ys G => Same H2 G ∧ G D = some (.lst ys) ∧ ys = []) ⟨Same.put hD, upd_same, rfl⟩ ?_ ?_ ?_
      · rintro i ys G _ ⟨sG, _⟩
        exact SqL.of (sG _ _ hr22)
      · rintro i m x ys G hm hx _
        simp at hx
      · rintro ys G ⟨sG, hDG, rfl⟩
        exact q D [] G (s2.trans sG) hD0 hDG (by simp) (.flatL (SqL.of hDG) fun x hx => (nomatch hx))
inductive Sm : D → Prop where
  | non : Sm .non
  | bl (b : Bool) : Sm (.bl b)
  | int (i : Int) : Sm (.int i)
  | str (x : Str) : Sm (.str x)
  | lst {ds : List D} (h : ds.length ≤ 1000) (hs : ∀ d ∈ ds, Sm d) : Sm (.lst ds)
  | tup {ds : List D} (h : ds.length ≤ 1000) (hs : ∀ d ∈ ds, Sm d) : Sm (.tup ds)
def sp_alike (K : PySem.W.Frag) : Nat → Sp
  | 0 => fun _ _ _ _ => False
  | n + 1 => fun vs H Q _ => ∃ x y, ∃ d : D, vs = [x, y] ∧ IsD K H x d ∧ IsD K H y d ∧ d.dep ≤ n ∧ n ≤ 20 ∧ Sm d ∧ Q (.bl true) H
theorem deps_at : ∀ {ds : List D} {i : Nat} {d : D}, ds[i]? = some d → d.dep ≤ deps ds
  | [], i, d, h => by simp at h
  | e :: ds, 0, d, h => by
    cases h
    rw [deps]
    omega
  | e :: ds, i + 1, d, h => by
    have := deps_at (ds := ds) (i := i) (d := d) (by simpa using h)
    rw [deps]
    omega
theorem ok_alike (T : Txt K mg a) : ∀ n, FnOk P w K mg base CX0 n a.a_law_alike a.d_law_alike ["_law_found", "_law_due"] (sp_alike K n)
  | 0 => FnOk.no
  | n + 1 => by
    have ih := ok_alike T n
    refine T.f_law_alike.ok sc_law_alike (fun vs H Q E h => ?_) (fun cdv A outer s H vs Q E hr h => ?_)
    · obtain ⟨_, _, _, rfl, _⟩ := h
      rfl
    · obtain ⟨x, y, d, rfl, hx, hy, hd, hn, hsm, q⟩ := h
      refine ⟨_, (pss_cons (ps_if (PW.pt (pw_or (pt_val (pe_callB call_isinstS rfl T.n_isinstance bt_isinstance (pa_cons (pv 1) (pa_cons (pe_bltn (v := .ty "bool") rfl T.n_bool bt_bool rfl) pa_nil)))) (pw_or (pt_cmpR op_isN (pv 1) pe_non (nomark _)) (pw_or1 (pt_val (pe_callB call_isinstS rfl T.n_isinstance bt_isinstance (pa_cons (pv 1) (pa_cons (pe_bltn (v := .ty "str") rfl T.n_str bt_str rfl) pa_nil)))))))) (pss_one (ps_ret (pe_and (pe_cmpR (op_eqD hr.units) (pv 0) (pv 1) (nomark _)) (pe_one (pe_cmpR op_eq (pe_callB call_isinstS rfl T.n_isinstance bt_isinstance (pa_cons (pv 0) (pa_cons (pe_bltn (v := .ty "str") rfl T.n_str bt_str rfl) pa_nil))) (pe_callB call_isinstS rfl T.n_isinstance bt_isinstance (pa_cons (pv 1) (pa_cons (pe_bltn (v := .ty "str") rfl T.n_str bt_str rfl) pa_nil))) (nomark _)))))) pss_nil) (pss_cons (ps_if (pt_val (pe_callB call_isinstS rfl T.n_isinstance bt_isinstance (pa_cons (pv 1) (pa_cons (pe_bltn (v := .ty "int") rfl T.n_int bt_int rfl) pa_nil)))) (pss_one (ps_ret (pe_and (pe_callB call_isinstS rfl T.n_isinstance bt_isinstance (pa_cons (pv 0) (pa_cons (pe_bltn (v := .ty "int") rfl T.n_int bt_int rfl) pa_nil))) (pe_and (pe_not (pe_callB call_isinstS rfl T.n_isinstance bt_isinstance (pa_cons (pv 0) (pa_cons (pe_bltn (v := .ty "bool") rfl T.n_bool bt_bool rfl) pa_nil)))) (pe_one (pe_cmpR (op_eqD hr.units) (pv 0) (pv 1) (nomark _))))))) pss_nil) (pss_cons (ps_if (PW.pt (pw_or (pt_cmpR op_ne (pe_callB call_isinstS rfl T.n_isinstance bt_isinstance (pa_cons (pv 1) (pa_cons (pe_bltn (v := .ty "tuple") rfl T.n_tuple bt_tuple rfl) pa_nil))) (pe_callB call_isinstS rfl T.n_isinstance bt_isinstance (pa_cons (pv 0) (pa_cons (pe_bltn (v := .ty "tuple") rfl T.n_tuple bt_tuple rfl) pa_nil))) (nomark _)) (pw_or1 (pt_cmpR op_ne (pe_callB call_isinstS rfl T.n_isinstance bt_isinstance (pa_cons (pv 1) (pa_cons (pe_bltn (v := .ty "list") rfl T.n_list bt_list rfl) pa_nil))) (pe_callB call_isinstS rfl T.n_isinstance bt_isinstance (pa_cons (pv 0) (pa_cons (pe_bltn (v := .ty "list") rfl T.n_list bt_list rfl) pa_nil))) (nomark _))))) (pss_one (ps_ret pe_bl)) pss_nil) (pss_cons (ps_if (pt_val (pe_callB call_isinstS rfl T.n_isinstance bt_isinstance (pa_cons (pv 1) (pa_cons (pe_bltn (v := .ty "dict") rfl T.n_dict bt_dict rfl) pa_nil)))) (pss_cons (ps_if (PW.pt (pw_or (pt_not (pt_val (pe_callB call_isinstS rfl T.n_isinstance bt_isinstance (pa_cons (pv 0) (pa_cons (pe_bltn (v := .ty "dict") rfl T.n_dict bt_dict rfl) pa_nil))))) (pw_or1 (pt_cmpR op_ne (pe_callB call_len_seq rfl T.n_len bt_len (pa_cons (pv 0) pa_nil)) (pe_callB call_len_seq rfl T.n_len bt_len (pa_cons (pv 1) pa_nil)) (nomark _))))) (pss_one (ps_ret pe_bl)) pss_nil) (pss_cons (ps_forW PassesOwn.never rfl (pi_list (pv 1)) (pg_name (i := 2) sc_law_alike.nd rfl (Or.inl rfl)) pss_bodyT) pss_bodyT)) pss_nil) pss_bodyT)))), ?_⟩
      have tx := hx.ty
      have ty := hy.ty
      dsimp! []
      have k1 := kitD K d "bool" (.inl rfl)
      have k2 := kitD K d "str" (.inr (.inl rfl))
      have k3 := kitD K d "int" (.inr (.inr (.inl rfl)))
      have k4 := kitD K d "tuple" (.inr (.inr (.inr (.inl rfl))))
      have k5 := kitD K d "list" (.inr (.inr (.inr (.inr (.inl rfl)))))
      have k6 := kitD K d "dict" (.inr (.inr (.inr (.inr (.inr rfl)))))
      have eqs : rEqD K false x y H fun x_3 H1 => ∃ c, x_3 = V.bl c ∧ if c = true then ∃ x_4, TyS K H1 x x_4 ∧ ∃ x, PySem.W.kitOne K x_4 (Value.type "str") = some x ∧ ∃ x_5, TyS K H1 y x_5 ∧ ∃ x_6, PySem.W.kitOne K x_5 (Value.type "str") = some x_6 ∧ Q (V.bl (decide (x = x_6))) H1 else Q (V.bl false) H1 := by
        refine ⟨d, d, hx, hy, by omega, ?_⟩
        rw [if_neg Bool.false_ne_true, deq_refl]
        refine ⟨true, rfl, iteT ⟨_, tx, _, k2, _, ty, _, k2, ?_⟩⟩
        rw [decide_eq_true rfl]
        exact q
      have nn : ∀ t, tyD d = t → t ≠ "NoneType" → y ≠ V.non := fun t e h z => by
        subst z
        cases hy
        exact h e.symm
      refine ⟨_, ty, _, k1, ?_⟩
      have rest : ∀ (ax ay : Addr) (xs ys : List V) (ds : List D), x = .ref ax → y = .ref ay → (SqL K H ax xs ∨ SqT K H ax xs) → (SqL K H ay ys ∨ SqT K H ay ys) → xs.length = ds.length → ys.length = ds.length → (∀ (i : Nat) x d, xs[i]? = some x → ds[i]? = some d → IsD K H x d) → (∀ (i : Nat) x d, ys[i]? = some x → ds[i]? = some d → IsD K H x d) → deps ds + 1 ≤ n → ds.length ≤ 1000 → (∀ d ∈ ds, Sm d) → bodyT (cxOf CX0 P w K mg base ["_law_found", "_law_due", "_law_key", "_law_k"] "_law_alike" (defScope s_law_alike) a.a_law_alike cdv A outer s H E).nox ((defBody s_law_alike).drop 4) { nx := fun _ H' => Q V.non H', rt := Q } [some x, some y, none, none] H := by
        intro ax ay xs ys ds ex ey hxs hys l1 l2 i1 i2 hdp hsz hsm
        subst ex ey
        refine bodyT.of (pss_cons (ps_if (pt_cmpR op_ne (pe_callB call_len_seq rfl T.n_len bt_len (pa_cons (pv 0) pa_nil)) (pe_callB call_len_seq rfl T.n_len bt_len (pa_cons (pv 1) pa_nil)) (nomark _)) (pss_one (ps_ret pe_bl)) pss_nil) (pss_cons (ps_forW PassesOwn.never rfl (pi_range1 rfl T.n_range (pa_cons (pe_callB call_len_seq rfl T.n_len bt_len (pa_cons (pv 1) pa_nil)) pa_nil)) (pg_name (i := 3) sc_law_alike.nd rfl (Or.inl rfl)) pss_bodyT) pss_bodyT)) ?_
        dsimp! []
        refine ⟨xs, hxs, ys, hys, ?_⟩
        rw [decide_eq_true (show ((xs.length : Nat) : Int) = (ys.length : Nat) by rw [l1, l2])]
        refine iteF ⟨ys, hys, by omega, by omega, fw_range (fun i σ H' => H' = H ∧ ∃ o3 : Option V, σ = [some (.ref ax), some (.ref ay), none, o3]) ⟨rfl, none, rfl⟩ ?_ ?_⟩
        · rintro i σ H' hi ⟨rfl, o3, rfl⟩
          have hid : i < ds.length := by omega
          have gx : xs[i]? = some xs[i] := List.getElem?_eq_getElem (by omega)
          have gy : ys[i]? = some ys[i] := List.getElem?_eq_getElem (by omega)
          have gd : ds[i]? = some ds[i] := List.getElem?_eq_getElem hid
          have hdi := deps_at gd
          refine gN ?_
          refine bodyT.of (pss_one (ps_if (pt_not (pt_val (pe_call ih (hr.mono (Nat.le_refl _)) rfl T.m_law_alike T.f_law_alike.kp T.b_law_alike .nil pass0 (pa_cons (pe_ix ix_any (pv 0) (pv 3) (fun _ _ => rfl)) (pa_cons (pe_ix ix_any (pv 1) (pv 3) (fun _ _ => rfl)) pa_nil))))) (pss_one (ps_ret pe_bl)) pss_nil)) ?_
          dsimp! [Int.zero_add]
          obtain ⟨n', rfl⟩ : ∃ n', n = n' + 1 := ⟨n - 1, by omega⟩
          have fin : sp_alike K (n' + 1) [xs[i], ys[i]] H' (fun x H1 => ∃ c, x = V.bl c ∧ if (!c) = true then Q (V.bl false) H1 else H1 = H' ∧ ∃ o3, some (V.int (i : Int)) = o3) E0 := ⟨_, _, ds[i], rfl, i1 i _ _ gx gd, i2 i _ _ gy gd, by omega, by omega, hsm _ (List.getElem_mem hid), true, rfl, iteF ⟨rfl, _, rfl⟩⟩
          have ix : ∀ (ad : Addr) (zs : List V) (z : V) (R : VK), (SqL K H' ad zs ∨ SqT K H' ad zs) → zs[i]? = some z → R z H' → rIxA K (.ref ad) (.int (i : Int)) H' R := fun ad zs z R hz gz r => by
            rcases hz with hz | hz
            · exact .inl ⟨ad, zs, _, z, rfl, rfl, hz, atI_nat gz, r⟩
            · exact .inr ⟨ad, zs, _, z, rfl, rfl, hz, atI_nat gz, r⟩
          exact ix _ _ _ _ hxs gx (ix _ _ _ _ hys gy fin)
        · rintro σ H' ⟨rfl, o3, rfl⟩
          refine bodyT.of (pss_one (ps_ret pe_bl)) ?_
          dsimp! []
          exact q
      cases d with
      | bl b => exact iteT eqs
      | non =>
        cases hy
        exact iteF (iteT eqs)
      | str z =>
        rw [decide_eq_false (nn "str" rfl (by decide))]
        exact iteF (iteF ⟨_, ty, _, k2, iteT eqs⟩)
      | int z =>
        rw [decide_eq_false (nn "int" rfl (by decide))]
        refine iteF (iteF ⟨_, ty, _, k2, iteF ⟨_, ty, _, k3, iteT ⟨_, tx, _, k3, iteT ⟨_, tx, _, k1, iteT ⟨_, _, hx, hy, by omega, ?_⟩⟩⟩⟩⟩)
        rw [if_neg Bool.false_ne_true, deq_refl]
        exact q
      | lst ds =>
        rw [decide_eq_false (nn "list" rfl (by decide))]
        refine iteF (iteF ⟨_, ty, _, k2, iteF ⟨_, ty, _, k3, iteF ⟨_, ty, _, k4, _, tx, _, k4, ?_⟩⟩⟩)
        rw [decide_eq_true rfl]
        refine iteF ⟨_, ty, _, k5, _, tx, _, k5, ?_⟩
        rw [decide_eq_true rfl]
        refine iteF ⟨_, ty, _, k6, iteF ?_⟩
        rw [D.dep] at hd
        cases hsm with
        | lst hm1 hm2 =>
        cases hx with
        | lst h1 l1 i1 =>
          cases hy with
          | lst h2 l2 i2 => exact rest _ _ _ _ ds rfl rfl (.inl h1) (.inl h2) l1 l2 i1 i2 hd hm1 hm2
      | tup ds =>
        rw [decide_eq_false (nn "tuple" rfl (by decide))]
        refine iteF (iteF ⟨_, ty, _, k2, iteF ⟨_, ty, _, k3, iteF ⟨_, ty, _, k4, _, tx, _, k4, ?_⟩⟩⟩)
        rw [decide_eq_true rfl]
        refine iteF ⟨_, ty, _, k5, _, tx, _, k5, ?_⟩
        rw [decide_eq_true rfl]
        refine iteF ⟨_, ty, _, k6, iteF ?_⟩
        rw [D.dep] at hd
        cases hsm with
        | tup hm1 hm2 =>
        cases hx with
        | tup h1 l1 i1 =>
          cases hy with
          | tup h2 l2 i2 => exact rest _ _ _ _ ds rfl rfl (.inr h1) (.inr h2) l1 l2 i1 i2 hd hm1 hm2
def sp_law_alike (K : PySem.W.Frag) : Sp := sp_alike K 6
theorem ok_law_alike (T : Txt K mg a) : FnOk P w K mg base CX0 6 a.a_law_alike a.d_law_alike ["_law_found", "_law_due"] (sp_law_alike K) := ok_alike T 6
def sp_PlainThing_with_words (a : Adr) (K : PySem.W.Frag) : Sp := fun vs H Q _ => ∃ p d fs w w', vs = [.ref p, wV w'] ∧ ThAt a K H p d (.plain fs w) ∧ ∀ p' d' H', Same H H' → H p' = none → H d' = none → ThAt a K H' p' d' (.plain fs w') → Q (.ref p') H'
theorem ok_PlainThing_with_words (T : Txt K mg a) : FnOk P w K mg base CX0 5 a.a_PlainThing_with_words a.d_PlainThing_with_words ["self", "words"] (sp_PlainThing_with_words a K) := by
  refine T.f_PlainThing_with_words.ok sc_PlainThing_with_words (fun vs H Q E h => ?_) (fun cdv A outer s H vs Q E hr h => ?_)
  · obtain ⟨_, _, _, _, _, rfl, _⟩ := h
    rfl
  · obtain ⟨p, d, fs, w, w', rfl, h, q⟩ := h
    obtain ⟨⟨dx, h1⟩, xs, h2, h3, h4⟩ := id h
    refine ⟨_, (pss_one (ps_ret (pe_make T.mk_PlainThing (ok_PlainThing_init T) (hr.mono (by decide)) rfl T.mc_PlainThing T.b_PlainThing_init .nil pass0 (pa_cons (pe_fld (pv 0) rfl) (pa_cons (pv 1) pa_nil))))), ?_⟩
    have h1' : H p = some (.ins a.c_PlainThing dx (flP d w)) := h1
    have f2 : (flP d w).lookup ("parts" : Str) = some (.ref d) := (Tg.plain fs w).parts d
    dsimp! [h1', HO.ins.injEq, T.cl_PlainThing, T.na_PlainThing_parts, f2]
    refine fun x dx' hx hdx ne => ⟨x, dx', d, xs, w', rfl, upd_same, ((Same.put hdx).trans (Same.put (by rw [upd_ne ne.symm]; exact hx))).seq (SqL.of h2), fun d2 H' k hd hp hd2 => ?_⟩
    have sm := same_new hx hdx k
    exact ⟨rfl, q x d2 H' sm hx (none_up (none_up hd)) ⟨⟨dx', hp⟩, xs, hd2, h3.same sm, h4⟩⟩
def sp_PlainThing_with_field (a : Adr) (K : PySem.W.Frag) : Sp := fun vs H Q _ => ∃ p d fs w, ∃ at_ : Nat, ∃ x v, vs = [.ref p, .int (at_ : Nat), x] ∧ ThAt a K H p d (.plain fs w) ∧ at_ < fs.length ∧ fs.length ≤ 100 ∧ IsVl K H x v ∧ ∀ p' d' H', Same H H' → H p' = none → H d' = none → ThAt a K H' p' d' (.plain (fs.set at_ v) w) → Q (.ref p') H'
theorem ok_PlainThing_with_field (T : Txt K mg a) : FnOk P w K mg base CX0 5 a.a_PlainThing_with_field a.d_PlainThing_with_field ["self", "at", "value"] (sp_PlainThing_with_field a K) := by
  refine T.f_PlainThing_with_field.ok sc_PlainThing_with_field (fun vs H Q E h => ?_) (fun cdv A outer s H vs Q E hr h => ?_)
  · obtain ⟨_, _, _, _, _, _, _, rfl, _⟩ := h
    rfl
  · obtain ⟨p, d, fs, w, at_, x, v, rfl, h, hat, hfl, hx, q⟩ := h
    obtain ⟨⟨dx, h1⟩, xs, h2, h3, h4⟩ := id h
    refine ⟨_, (pss_one (ps_ret (pe_make T.mk_PlainThing (ok_PlainThing_init T) (hr.mono (by decide)) rfl T.mc_PlainThing T.b_PlainThing_init .nil pass0 (pa_cons (pe_op op_catS (pe_op op_catS (pe_slice sl_list (pe_fld (pv 0) rfl) po_none (po_some (pv 1))) (pe_lst (pa_cons (pv 2) pa_nil))) (pe_slice sl_list (pe_fld (pv 0) rfl) (po_some (pe_op op_add (pv 1) pe_int)) po_none)) (pa_cons (pe_fld (pv 0) rfl) pa_nil))))), ?_⟩
    have h1' : H p = some (.ins a.c_PlainThing dx (flP d w)) := h1
    have f2 : (flP d w).lookup ("parts" : Str) = some (.ref d) := (Tg.plain fs w).parts d
    dsimp! [h1', HO.ins.injEq, T.cl_PlainThing, T.na_PlainThing_parts, f2]
    have hxl : xs.length = fs.length := h3.1.symm
    have f3 := flP_lw d w
    refine ⟨d, _, rfl, SqL.of h2, fun p1 hp1 => ⟨by simp [sizeLine_eq], fun p2 hp2 => ?_⟩⟩
    rw [cut0] at hp2 ⊢
    have t1 := Same.put (o := .lst (xs.take at_)) hp1
    have t2 := Same.put (o := .lst [x]) hp2
    have hA : upd (upd H p1 (.lst (xs.take at_))) p2 (.lst [x]) p1 = some (.lst (xs.take at_)) := t2 _ _ upd_same
    have hB : upd (upd H p1 (.lst (xs.take at_))) p2 (.lst [x]) p2 = some (.lst [x]) := upd_same
    have t12 := t1.trans t2
    generalize upd (upd H p1 (.lst (xs.take at_))) p2 (.lst [x]) = G2 at t12 hA hB
    refine ⟨p1, p2, _, _, rfl, rfl, SqL.of hA, SqL.of hB, Nat.le_of_lt (small1000 (by simp only [List.length_take, List.length_cons, List.length_nil]; omega)), fun p3 hp3 => ?_⟩
    have t3 := Same.put (o := .lst (xs.take at_ ++ [x])) hp3
    have hC : upd G2 p3 (.lst (xs.take at_ ++ [x])) p3 = some (.lst (xs.take at_ ++ [x])) := upd_same
    have t13 := t12.trans t3
    generalize upd G2 p3 (.lst (xs.take at_ ++ [x])) = G3 at t13 hC
    refine ⟨_, _, _, t13 _ _ h1', T.cl_PlainThing, T.na_PlainThing_parts, _, f2, d, _, rfl, SqL.of (t13 _ _ h2), fun p4 hp4 => ?_⟩
    rw [show ((at_ : Int) + 1) = ((at_ + 1 : Nat) : Int) from rfl, cutT]
    have t4 := Same.put (o := .lst (xs.drop (at_ + 1))) hp4
    refine ⟨p3, p4, _, _, rfl, rfl, SqL.of (t4 _ _ hC), SqL.of upd_same, Nat.le_of_lt (small1000 (by simp only [List.length_append, List.length_take, List.length_drop, List.length_cons, List.length_nil]; omega)), fun p5 hp5 => ?_⟩
    have eS : (xs.take at_ ++ [x]) ++ xs.drop (at_ + 1) = xs.set at_ x := by
      rw [List.set_eq_take_append_cons_drop, if_pos (by omega), List.append_assoc]
      rfl
    rw [eS]
    have t5 := Same.put (o := .lst (xs.set at_ x)) hp5
    have t15 := t13.trans (t4.trans t5)
    have hE : upd (upd G3 p4 (.lst (xs.drop (at_ + 1)))) p5 (.lst (xs.set at_ x)) p5 = some (.lst (xs.set at_ x)) := upd_same
    generalize upd (upd G3 p4 (.lst (xs.drop (at_ + 1)))) p5 (.lst (xs.set at_ x)) = G5 at t15 hE
    refine ⟨_, _, _, t15 _ _ h1', T.cl_PlainThing, T.na_PlainThing_last_words, _, f3, fun y dx' hy hdx ne => ⟨y, dx', p5, xs.set at_ x, w, rfl, upd_same, ((Same.put hdx).trans (Same.put (by rw [upd_ne ne.symm]; exact hy))).seq (SqL.of hE), fun d2 H' k hd hp hd2 => ?_⟩⟩
    have sm := same_new hy hdx k
    have sT := t15.trans sm
    exact ⟨rfl, q y d2 H' sT (t15.free hy) (t15.free (none_up (none_up hd))) ⟨⟨dx', hp⟩, _, hd2, (h3.set hx).same sT, by rw [List.length_set]; exact h4⟩⟩
theorem e60 : (10 : Int) ^ Int.toNat 60 = 1000000000000000000000000000000000000000000000000000000000000 := by decide +kernel
def sp_law_value_by (K : PySem.W.Frag) : Sp := fun vs H Q _ => ∃ n, vs = [.int n] ∧ ∀ x v H', Same H H' → IsVl K H' x v → Q x H'
theorem ok_law_value_by (T : Txt K mg a) : FnOk P w K mg base CX0 1 a.a_law_value_by a.d_law_value_by ["_law_number"] (sp_law_value_by K) := by
  refine T.f_law_value_by.ok sc_law_value_by (fun vs H Q E h => ?_) (fun cdv A outer s H vs Q E hr h => ?_)
  · obtain ⟨_, rfl, _⟩ := h
    rfl
  · obtain ⟨n, rfl, q⟩ := h
    refine ⟨_, (pss_cons (ps_if (pt_cmpR op_eq (pe_op op_mod (pv 0) pe_int) pe_int (nomark _)) (pss_one (ps_ret (pe_tup (pa_cons pe_str pa_nil)))) pss_nil) (pss_one (ps_ret (pe_tup (pa_cons (pe_ix ix_list (pe_lst (pa_cons pe_str (pa_cons pe_str pa_nil))) (pe_op op_sub (pe_op op_mod (pv 0) pe_int) pe_int) (fun _ _ => rfl)) (pa_cons (pe_ix ix_list (pe_lst (pa_cons (pe_op op_mod (pe_op op_fdivL (pv 0) pe_int) pe_int) (pa_cons (pe_op op_mod (pe_op op_mul (pv 0) pe_int) (pe_op op_pow pe_int pe_int)) pa_nil))) (pe_op op_mod (pe_op op_fdivL (pv 0) pe_int) pe_int) (fun _ _ => rfl)) pa_nil)))))), ?_⟩
    dsimp! [e60]
    refine ⟨by decide, ite2 (fun _ => ⟨by simp [sizeLine_eq], fun t ht => q _ .no _ (Same.put ht) ⟨t, rfl, SqT.of upd_same⟩⟩) fun h0 => ?_⟩
    have hn3 : n % 3 = 1 ∨ n % 3 = 2 := by
      rw [Bool.not_eq_true, decide_eq_false_iff_not] at h0
      omega
    refine ⟨by simp [sizeLine_eq], fun p hp => ⟨by decide, ?_⟩⟩
    have s1 := Same.put (o := .lst [V.str "number", V.str "thing"]) hp
    have hp1 : upd H p (.lst [V.str "number", V.str "thing"]) p = some (.lst [V.str "number", V.str "thing"]) := upd_same
    generalize upd H p (.lst [V.str "number", V.str "thing"]) = H1 at s1 hp1
    obtain ⟨z, hz⟩ : ∃ z : Int, atI [V.int (n / 3 % 9), V.int (n * 982451653 % 1000000000000000000000000000000000000000000000000000000000000)] (n / 27 % 2) = some (V.int z) := by
      rcases (by omega : n / 27 % 2 = 0 ∨ n / 27 % 2 = 1) with e | e <;> rw [e]
      · exact ⟨_, rfl⟩
      · exact ⟨_, rfl⟩
    obtain ⟨v, w, hw, hv⟩ : ∃ (v : Vl) (w : Str), atI [V.str "number", V.str "thing"] (n % 3 - 1) = some (V.str w) ∧ v.items = [V.str w, V.int z] := by
      rcases hn3 with e | e <;> rw [e]
      · exact ⟨.num z, "number", rfl, rfl⟩
      · exact ⟨.th z, "thing", rfl, rfl⟩
    refine ⟨p, _, _, _, rfl, rfl, SqL.of hp1, hw, .small (by decide) (by decide), by decide, .inr ⟨by decide, by decide⟩, ⟨by decide, by decide, by decide⟩, by decide, by simp [sizeLine_eq], fun p2 hp2 => ⟨.small (by decide) (by decide), by decide, p2, _, _, _, rfl, rfl, SqL.of upd_same, hz, by simp [sizeLine_eq], fun t ht => ?_⟩⟩
    refine q _ v _ (s1.trans ((Same.put hp2).trans (Same.put ht))) ⟨t, rfl, ?_⟩
    rw [hv]
    exact SqT.of upd_same
theorem VlL.snoc {H : Hp} {xs : List V} {vl : List Vl} {x : V} {v : Vl} (h : VlL K H xs vl) (hx : IsVl K H x v) : VlL K H (xs ++ [x]) (vl ++ [v]) := ⟨by simp [h.1], fun i y u a b => by
  have hl := h.1
  by_cases hi : i < xs.length
  · rw [List.getElem?_append_left hi] at a
    rw [List.getElem?_append_left (by omega)] at b
    exact h.2 i y u a b
  · have e : i = xs.length := by
      have := (List.getElem?_eq_some_iff.mp a).1
      simp at this
      omega
    subst e
    rw [List.getElem?_append_right (Nat.le_refl _), Nat.sub_self] at a
    rw [← hl, List.getElem?_append_right (Nat.le_refl _), Nat.sub_self] at b
    cases a
    cases b
    exact hx⟩
theorem hold_len (t : Tg) : t.hold.length ≤ t.fs.length := by
  cases t with
  | plain fs w => exact List.length_filterMap_le _ _
  | weak f => exact Nat.zero_le _
  | pair k v => exact Nat.zero_le _
theorem n_wp : ¬ (("weak" : Str) = "plain") := by decide +kernel
theorem n_pp : ¬ (("pair" : Str) = "plain") := by decide +kernel
theorem n_plpa : ¬ (("plain" : Str) = "pair") := by decide +kernel
theorem n_wpa : ¬ (("weak" : Str) = "pair") := by decide +kernel
def tD (t : Tg) : D := .tup [.str t.sort, .lst (t.fs.map vD), fD (wV t.words), .lst ((t.hold.map V.int).map fD), t.wD]
theorem wD_dep (t : Tg) : t.wD.dep ≤ 3 := by
  cases t with
  | plain fs w => simp [Tg.wD, D.dep, deps]
  | weak f => simp [Tg.wD, D.dep, deps]
  | pair k v =>
    cases k with
    | th n =>
      have := vD_dep v
      simp only [Tg.wD, D.dep, deps]
      omega
    | no => simp [Tg.wD, D.dep, deps]
    | num n => simp [Tg.wD, D.dep, deps]
theorem tD_dep (t : Tg) : (tD t).dep ≤ 5 := by
  have h1 := vDs_dep t.fs
  have h2 := wD_dep t
  have h3 := deps_flat (t.hold.map V.int)
  have e : (fD (wV t.words)).dep = 0 := by cases t.words <;> rfl
  unfold tD
  simp only [D.dep, deps, e, h3]
  omega
theorem Sm.flat (x : V) : Sm (fD x) := by
  cases x <;> first | exact .non | exact .bl _ | exact .int _ | exact .str _
theorem Sm.vl (v : Vl) : Sm (vD v) := by
  refine .tup ?_ fun d hd => ?_
  · rw [List.length_map]
    cases v <;> simp [Vl.items]
  · obtain ⟨x, _, rfl⟩ := List.mem_map.mp hd
    exact .flat x
theorem tD_sm {t : Tg} (h : t.fs.length ≤ 100) : Sm (tD t) := by
  refine .tup (by simp) fun d hd => ?_
  simp only [List.mem_cons, List.not_mem_nil, or_false] at hd
  rcases hd with rfl | rfl | rfl | rfl | rfl
  · exact .str _
  · refine .lst (by rw [List.length_map]; omega) fun d hd => ?_
    obtain ⟨v, _, rfl⟩ := List.mem_map.mp hd
    exact .vl v
  · exact .flat _
  · have := hold_len t
    refine .lst (by rw [List.length_map, List.length_map]; omega) fun d hd => ?_
    obtain ⟨v, _, rfl⟩ := List.mem_map.mp hd
    exact .flat v
  · cases t with
    | plain fs w => exact .lst (by simp) fun d hd => (nomatch hd)
    | weak f => exact .lst (by simp) fun d hd => (nomatch hd)
    | pair k v =>
      cases k with
      | no => exact .lst (by simp) fun d hd => (nomatch hd)
      | num n => exact .lst (by simp) fun d hd => (nomatch hd)
      | th n =>
        refine .lst (by simp) fun d hd => ?_
        rw [List.mem_singleton.mp hd]
        refine .tup (by simp) fun d hd => ?_
        simp only [List.mem_cons, List.not_mem_nil, or_false] at hd
        rcases hd with rfl | rfl
        · exact .int _
        · exact .vl v
theorem isD_same {K : PySem.W.Frag} {H H' : Hp} {x : V} {d : D} (h : IsD K H x d) (k : Same H H') : IsD K H' x d := by
  induction h with
  | non => exact .non
  | bl b => exact .bl b
  | int i => exact .int i
  | str x => exact .str x
  | lst h hl hi ih => exact .lst (k.seq h) hl ih
  | tup h hl hi ih => exact .tup (k.seqT h) hl ih
theorem tD_is {H : Hp} {pf r r2 l : Addr} {t : Tg} {xs : List V} (h : H pf = some (.tup [.str t.sort, .ref r, wV t.words, .ref r2, .ref l])) (h1 : SqL K H r xs) (h2 : VlL K H xs t.fs) (h3 : SqL K H r2 (t.hold.map V.int)) (h4 : IsD K H (.ref l) t.wD) : IsD K H (.ref pf) (tD t) := by
  refine .tup (SqT.of h) rfl fun i x d hx hd => ?_
  match i, hx, hd with
  | 0, hx, hd =>
    cases hx
    cases hd
    exact .str _
  | 1, hx, hd =>
    cases hx
    cases hd
    exact VlL.isD h1 h2
  | 2, hx, hd =>
    cases hx
    cases hd
    exact .flat (wV_flat _)
  | 3, hx, hd =>
    cases hx
    cases hd
    refine .flatL h3 fun x hx => ?_
    obtain ⟨z, _, rfl⟩ := List.mem_map.mp hx
    rfl
  | 4, hx, hd =>
    cases hx
    cases hd
    exact h4
theorem waits_mem (t : Tg) {p d : Addr} {H : Hp} {Q : VK} {E : XK} (h : ThAt a K H p d t) (q : ∀ (l : Addr) (ws : List V) (H' : Hp), Same H H' → H l = none → H' l = some (.lst ws) → ws.length ≤ 1 → IsD K H' (.ref l) t.wD → Q (.ref l) H') : ∃ sp, (t.cls a, sp) ∈ [(a.c_Thing, sp_Thing_waits), (a.c_PlainThing, sp_Thing_waits), (a.c_PairThing, sp_PairThing_waits a K)] ∧ sp [.ref p] H Q E := by
  cases t with
  | plain fs w => exact ⟨_, .tail _ (.head _), p, rfl, fun r hr => q r [] _ (Same.put hr) hr upd_same (by simp) (.flatL (SqL.of upd_same) fun x hx => (nomatch hx))⟩
  | weak f => exact ⟨_, .head _, p, rfl, fun r hr => q r [] _ (Same.put hr) hr upd_same (by simp) (.flatL (SqL.of upd_same) fun x hx => (nomatch hx))⟩
  | pair k v => exact ⟨_, .tail _ (.tail _ (.head _)), p, d, k, v, rfl, h, q⟩
def sp_law_right (a : Adr) (K : PySem.W.Frag) : Sp := fun vs H Q _ => ∃ p d fl fx, ∃ t : Tg, vs = [.ref p, .str t.sort, .ref fl, wV t.words] ∧ ThAt a K H p d t ∧ SqL K H fl fx ∧ VlL K H fx t.fs ∧ fx.length ≤ 100 ∧ ∀ H', Same H H' → Q (.bl true) H'
theorem ok_law_right (T : Txt K mg a) : FnOk P w K mg base CX0 8 a.a_law_right a.d_law_right ["_law_thing", "_law_sort", "_law_fields", "_law_words"] (sp_law_right a K) := by
  refine T.f_law_right.ok sc_law_right (fun vs H Q E h => ?_) (fun cdv A outer s H vs Q E hr h => ?_)
  · obtain ⟨_, _, _, _, _, rfl, _⟩ := h
    rfl
  · obtain ⟨p, d, fl, fx, t, rfl, h, hfl, hvl, hfx, q⟩ := h
    refine ⟨_, (pss_cons (ps_set (i := 4) sc_law_right.nd rfl (Or.inl rfl) (pe_lst pa_nil)) (pss_cons (ps_set (i := 5) sc_law_right.nd rfl (Or.inl rfl) (pe_lst pa_nil)) (pss_cons ps_stT pss_bodyT))), ?_⟩
    dsimp! []
    refine fun l1 hl1 l2 hl2 => ?_
    have s2 := (Same.put (o := .lst []) hl1).trans (Same.put (o := .lst []) hl2)
    have n12 : l1 ≠ l2 := ne_of_none upd_same hl2
    have h12 : upd (upd H l1 (.lst [])) l2 (.lst []) l1 = some (.lst []) := by rw [upd_ne n12, upd_same]
    have h22 : upd (upd H l1 (.lst [])) l2 (.lst []) l2 = some (.lst []) := upd_same
    generalize upd (upd H l1 (.lst [])) l2 (.lst []) = H2 at s2 h12 h22
    have hvl2 := hvl.same s2
    refine joinW (fun σ' H' => ∃ lh, σ' = [some (.ref p), some (.str t.sort), some (.ref fl), some (wV t.words), some (.ref lh), some (.ref l2), none] ∧ Same H2 H' ∧ H' lh = some (.lst (t.hold.map V.int))) (stT.of (ps_if (pt_cmpR op_eq (pv 1) pe_str (nomark _)) (pss_one (ps_lc (j := 4) rfl sc_law_right.nd rfl rfl (lcok (x := "_law_value") (ns := []) (fr := []) rfl (by decide +kernel) rfl (by decide +kernel) rfl (List.forall_mem_nil _) rfl rfl (List.forall_mem_nil _) (by decide +kernel)) (pi_list (pv 2)) (fun _ _ _ _ => (pe_ix (ix_tupC (K := K) rfl) (pv 0) pe_int (fun _ _ => rfl))) (fun _ _ _ _ => (.one (pt_cmpR op_eq (pe_ix (ix_tupC (K := K) rfl) (pv 0) pe_int (fun _ _ => rfl)) pe_str (nomark _)))))) pss_nil) ?_) ?_
    · dsimp! []
      cases t with
      | plain fs w =>
        dsimp! [Tg.sort]
        refine ⟨⟨_, s2.seq hfl⟩, fun D hD => lc_listG fx fs Vl.nm (by omega) hvl.1 (fun ys => (Same.put hD).seq (s2.seq hfl)) ?_ ?_ ⟨Same.put hD, ?_⟩⟩
        · intro i x v ys R hx hb r
          rw [v.isnm] at r
          have hv := (hvl2.2 i x v hx hb).same (Same.put (o := .lst ys) hD)
          obtain ⟨ty, rfl, hty⟩ := hv
          dsimp! [lcSlots, Option.join_some]
          refine ⟨ty, _, _, _, rfl, rfl, hty, v.hd, rfl, ?_⟩
          have e := v.is
          cases v <;> (rw [← e] at r; exact r)
        · intro i x v y ys R hx hb hy r
          have hv := (hvl2.2 i x v hx hb).same (Same.put (o := .lst ys) hD)
          obtain ⟨ty, rfl, hty⟩ := hv
          dsimp! [lcSlots, Option.join_some]
          cases v with
          | th n =>
            cases hy
            exact ⟨ty, _, _, _, rfl, rfl, hty, rfl, r⟩
          | no => cases hy
          | num n => cases hy
        · rw [nm_na, upd_same]
          rfl
      | weak f =>
        dsimp! [Tg.sort, n_wp]
        exact ⟨.refl _, h12⟩
      | pair k v =>
        dsimp! [Tg.sort, n_pp]
        exact ⟨.refl _, h12⟩
    · rintro σ' H' ⟨lh, rfl, s3, hlh⟩
      refine bodyT.of (pss_cons ps_stT pss_bodyT) ?_
      dsimp! []
      refine joinW (fun σ' H'' => ∃ lw, σ' = [some (.ref p), some (.str t.sort), some (.ref fl), some (wV t.words), some (.ref lh), some (.ref lw), none] ∧ Same H' H'' ∧ IsD K H'' (.ref lw) t.wD) (stT.of (ps_if (PW.pt (pw_and (pt_cmpR op_eq (pv 1) pe_str (nomark _)) (pw_and1 (pt_cmpR op_eq (pe_ix ix_tup (pe_ix ix_list (pv 2) pe_int (fun _ _ => rfl)) pe_int (fun _ _ => rfl)) pe_str (nomark _))))) (pss_one (ps_set (i := 5) sc_law_right.nd rfl (Or.inl rfl) (pe_lst (pa_cons (pe_tup (pa_cons (pe_ix ix_tup (pe_ix ix_list (pv 2) pe_int (fun _ _ => rfl)) pe_int (fun _ _ => rfl)) (pa_cons (pe_ix ix_list (pv 2) pe_int (fun _ _ => rfl)) pa_nil))) pa_nil)))) pss_nil) ?_) ?_
      · have hno : t.wD = .lst [] → Same H' H' ∧ IsD K H' (.ref l2) t.wD := fun e => by
          rw [e]
          exact ⟨.refl _, .flatL (SqL.of (s3 _ _ h22)) fun x hx => (nomatch hx)⟩
        dsimp! []
        have s03 := s2.trans s3
        cases t with
        | plain fs w =>
          dsimp! [Tg.sort, n_plpa]
          exact hno rfl
        | weak f =>
          dsimp! [Tg.sort, n_wpa]
          exact hno rfl
        | pair k v =>
          dsimp! [Tg.sort]
          have hl2 : fx.length = 2 := hvl.1.symm
          obtain ⟨kx, vx, rfl⟩ : ∃ kx vx, fx = [kx, vx] := by
            match fx, hl2 with
            | [x, y], _ => exact ⟨x, y, rfl⟩
          have hk := (hvl.2 0 kx k rfl rfl).same s03
          have hv := (hvl.2 1 vx v rfl rfl).same s03
          obtain ⟨tk, rfl, htk⟩ := id hk
          have hfl' := s03.seq hfl
          refine ⟨fl, _, _, _, rfl, rfl, hfl', rfl, tk, _, _, _, rfl, rfl, htk, k.hd, rfl, ?_⟩
          cases k with
          | no => exact iteF (hno rfl)
          | num n => exact iteF (hno rfl)
          | th n =>
            refine iteT ⟨fl, _, _, _, rfl, rfl, hfl', rfl, tk, _, _, V.int n, rfl, rfl, htk, rfl, fl, _, _, vx, rfl, rfl, hfl', rfl, by simp [sizeLine_eq], fun t1 ht1 => ⟨by simp [sizeLine_eq], fun l3 hl3 => ?_⟩⟩
            have s5 := (Same.put (o := .tup [V.int n, vx]) ht1).trans (Same.put (o := .lst [V.ref t1]) hl3)
            have ht15 : upd (upd H' t1 (.tup [V.int n, vx])) l3 (.lst [V.ref t1]) t1 = some (.tup [V.int n, vx]) := (Same.put (o := .lst [V.ref t1]) hl3) _ _ upd_same
            refine ⟨s5, .lst (SqL.of upd_same) rfl fun i x d hx hd => ?_⟩
            match i, hx, hd with
            | 0, hx, hd =>
              cases hx
              cases hd
              refine .tup (SqT.of ht15) rfl fun j y e hy he => ?_
              match j, hy, he with
              | 0, hy, he =>
                cases hy
                cases he
                exact .int _
              | 1, hy, he =>
                cases hy
                cases he
                exact (hv.same s5).isD
      · rintro σ' H'' ⟨lw, rfl, s4, hlw⟩
        refine bodyT.of (pss_cons (ps_set (i := 6) sc_law_right.nd rfl (Or.inl rfl) (pe_tup (pa_cons (pv 1) (pa_cons (pv 2) (pa_cons (pv 3) (pa_cons (pv 4) (pa_cons (pv 5) pa_nil))))))) (pss_one (ps_ret (pe_call (ok_law_alike T) (hr.mono (by decide)) rfl T.m_law_alike T.f_law_alike.kp T.b_law_alike .nil pass0 (pa_cons (pe_tup (pa_cons (pe_methV0 (L := [(a.c_Thing, sp_Thing_sort_of a K), (a.c_PlainThing, sp_Thing_sort_of a K), (a.c_PairThing, sp_Thing_sort_of a K)]) (pv 0) (List.forall_mem_cons.mpr ⟨⟨_, _, _, _, T.cl_Thing, T.me_Thing_sort_of, ok_Thing_sort_of T, hr.mono (by decide), T.b_Thing_sort_of⟩, List.forall_mem_cons.mpr ⟨⟨_, _, _, _, T.cl_PlainThing, T.me_PlainThing_sort_of, ok_Thing_sort_of T, hr.mono (by decide), T.b_Thing_sort_of⟩, List.forall_mem_cons.mpr ⟨⟨_, _, _, _, T.cl_PairThing, T.me_PairThing_sort_of, ok_Thing_sort_of T, hr.mono (by decide), T.b_Thing_sort_of⟩, List.forall_mem_nil _⟩⟩⟩) .nil pass0) (pa_cons (pe_methV0 (L := [(a.c_Thing, sp_Thing_fields a K), (a.c_PlainThing, sp_Thing_fields a K), (a.c_PairThing, sp_Thing_fields a K)]) (pv 0) (List.forall_mem_cons.mpr ⟨⟨_, _, _, _, T.cl_Thing, T.me_Thing_fields, ok_Thing_fields T, hr.mono (by decide), T.b_Thing_fields⟩, List.forall_mem_cons.mpr ⟨⟨_, _, _, _, T.cl_PlainThing, T.me_PlainThing_fields, ok_Thing_fields T, hr.mono (by decide), T.b_Thing_fields⟩, List.forall_mem_cons.mpr ⟨⟨_, _, _, _, T.cl_PairThing, T.me_PairThing_fields, ok_Thing_fields T, hr.mono (by decide), T.b_Thing_fields⟩, List.forall_mem_nil _⟩⟩⟩) .nil pass0) (pa_cons (pe_methV0 (L := [(a.c_Thing, sp_Thing_words), (a.c_PlainThing, sp_PlainThing_words a K), (a.c_PairThing, sp_Thing_words)]) (pv 0) (List.forall_mem_cons.mpr ⟨⟨_, _, _, _, T.cl_Thing, T.me_Thing_words, ok_Thing_words T, hr.mono (by decide), T.b_Thing_words⟩, List.forall_mem_cons.mpr ⟨⟨_, _, _, _, T.cl_PlainThing, T.me_PlainThing_words, ok_PlainThing_words T, hr.mono (by decide), T.b_PlainThing_words⟩, List.forall_mem_cons.mpr ⟨⟨_, _, _, _, T.cl_PairThing, T.me_PairThing_words, ok_Thing_words T, hr.mono (by decide), T.b_Thing_words⟩, List.forall_mem_nil _⟩⟩⟩) .nil pass0) (pa_cons (pe_methV0 (L := [(a.c_Thing, sp_Thing_holds), (a.c_PlainThing, sp_PlainThing_holds a K), (a.c_PairThing, sp_Thing_holds)]) (pv 0) (List.forall_mem_cons.mpr ⟨⟨_, _, _, _, T.cl_Thing, T.me_Thing_holds, ok_Thing_holds T, hr.mono (by decide), T.b_Thing_holds⟩, List.forall_mem_cons.mpr ⟨⟨_, _, _, _, T.cl_PlainThing, T.me_PlainThing_holds, ok_PlainThing_holds T, hr.mono (by decide), T.b_PlainThing_holds⟩, List.forall_mem_cons.mpr ⟨⟨_, _, _, _, T.cl_PairThing, T.me_PairThing_holds, ok_Thing_holds T, hr.mono (by decide), T.b_Thing_holds⟩, List.forall_mem_nil _⟩⟩⟩) .nil pass0) (pa_cons (pe_methV0 (L := [(a.c_Thing, sp_Thing_waits), (a.c_PlainThing, sp_Thing_waits), (a.c_PairThing, sp_PairThing_waits a K)]) (pv 0) (List.forall_mem_cons.mpr ⟨⟨_, _, _, _, T.cl_Thing, T.me_Thing_waits, ok_Thing_waits T, hr.mono (by decide), T.b_Thing_waits⟩, List.forall_mem_cons.mpr ⟨⟨_, _, _, _, T.cl_PlainThing, T.me_PlainThing_waits, ok_Thing_waits T, hr.mono (by decide), T.b_Thing_waits⟩, List.forall_mem_cons.mpr ⟨⟨_, _, _, _, T.cl_PairThing, T.me_PairThing_waits, ok_PairThing_waits T, hr.mono (by decide), T.b_PairThing_waits⟩, List.forall_mem_nil _⟩⟩⟩) .nil pass0) pa_nil)))))) (pa_cons (pv 6) pa_nil)))))) ?_
        dsimp! []
        have s04 := s2.trans (s3.trans s4)
        have hlh4 := s4 _ _ hlh
        refine ⟨by simp [sizeLine_eq], fun pd hpd => ?_⟩
        have s5 := Same.put (o := .tup [V.str t.sort, V.ref fl, wV t.words, V.ref lh, V.ref lw]) hpd
        have hpd5 : upd H'' pd (.tup [V.str t.sort, V.ref fl, wV t.words, V.ref lh, V.ref lw]) pd = some (.tup [V.str t.sort, V.ref fl, wV t.words, V.ref lh, V.ref lw]) := upd_same
        generalize upd H'' pd (.tup [V.str t.sort, V.ref fl, wV t.words, V.ref lh, V.ref lw]) = H5 at s5 hpd5
        have h5 := h.same (s04.trans s5)
        obtain ⟨dx5, h51⟩ := h5.ob
        refine ⟨_, _, _, h51, t.no d, _, t.mem _, p, d, t, rfl, h5, _, _, _, h51, t.no d, _, t.mem _, p, d, t, rfl, h5, fun r xs hr2 hv hz => ?_⟩
        have s6 := Same.put (o := .lst xs) hr2
        have hr6 : upd H5 r (.lst xs) r = some (.lst xs) := upd_same
        have hv6 := hv.same s6
        generalize upd H5 r (.lst xs) = H6 at s6 hr6 hv6
        have h6 := h5.same s6
        obtain ⟨dx6, h61⟩ := h6.ob
        refine ⟨_, _, _, h61, t.no d, words_mem t h6 ⟨_, _, _, h61, t.no d, holds_mem t h6 fun r2 hr22 => ?_⟩⟩
        have s7 := Same.put (o := .lst (t.hold.map V.int)) hr22
        have hr7 : upd H6 r2 (.lst (t.hold.map V.int)) r2 = some (.lst (t.hold.map V.int)) := upd_same
        generalize upd H6 r2 (.lst (t.hold.map V.int)) = H7 at s7 hr7
        have h7 := h6.same s7
        obtain ⟨dx7, h71⟩ := h7.ob
        refine ⟨_, _, _, h71, t.no d, waits_mem t h7 fun l ws H8 s8 hl8 hl88 _ hwD => ?_⟩
        refine ⟨by simp [sizeLine_eq], fun pf hpf => ?_⟩
        have s9 := Same.put (o := .tup [V.str t.sort, V.ref r, wV t.words, V.ref r2, V.ref l]) hpf
        have s79 := s8.trans s9
        have s59 := s6.trans (s7.trans s79)
        have hdue := tD_is (t := t) (s59 _ _ hpd5) ((s04.trans (s5.trans s59)).seq hfl) (hvl.same (s04.trans (s5.trans s59))) (SqL.of ((s5.trans s59) _ _ hlh4)) (isD_same hlw (s5.trans s59))
        have hfnd := tD_is (t := t) (H := upd H8 pf (.tup [V.str t.sort, V.ref r, wV t.words, V.ref r2, V.ref l])) upd_same (SqL.of ((s7.trans s79) _ _ hr6)) (hv6.same (s7.trans s79)) (SqL.of (s79 _ _ hr7)) (isD_same hwD s9)
        exact ⟨_, _, tD t, rfl, hfnd, hdue, tD_dep t, by decide, tD_sm (by rw [hvl.1]; exact hfx), q _ (s04.trans (s5.trans s59))⟩
theorem th_ty (T : Txt K mg a) {H : Hp} {p d : Addr} {t : Tg} (h : ThAt a K H p d t) : TyOf K H (.ref p) (.ref (t.cls a)) ∧ PySem.W.kitOne K (.ref (t.cls a)) (.ref a.c_Thing) = some true := by
  obtain ⟨dx, h1⟩ := h.ob
  cases t with
  | plain fs w => exact ⟨T.ty_PlainThing.ty T.cl_PlainThing h1, T.ki_PlainThing_Thing⟩
  | weak f => exact ⟨T.ty_Thing.ty T.cl_Thing h1, T.ki_Thing_Thing⟩
  | pair k v => exact ⟨T.ty_PairThing.ty T.cl_PairThing h1, T.ki_PairThing_Thing⟩
def sp_law_holds (a : Adr) (K : PySem.W.Frag) : Sp := fun vs H Q _ => ∃ c, vs = [.int c] ∧ ∀ H', Same H H' → Q (.bl true) H'
theorem ok_law_holds (T : Txt K mg a) : FnOk P w K mg base CX0 10 a.a_law_holds a.d_law_holds ["_law_cell"] (sp_law_holds a K) := by
  refine T.f_law_holds.ok sc_law_holds (fun vs H Q E h => ?_) (fun cdv A outer s H vs Q E hr h => ?_)
  · obtain ⟨_, rfl, _⟩ := h
    rfl
  · obtain ⟨c, rfl, q⟩ := h
    refine ⟨_, (pss_cons (ps_set (i := 1) sc_law_holds.nd rfl (Or.inr rfl) (pe_callB call_abs rfl T.n_abs bt_abs (pa_cons (pv 0) pa_nil))) (pss_cons (ps_lc (j := 2) rfl sc_law_holds.nd rfl rfl (lcok (x := "_law_k") (ns := ["_law_number"]) (fr := [1]) rfl (by decide +kernel) rfl (by decide +kernel) rfl (List.forall_mem_cons.mpr ⟨rfl, List.forall_mem_nil _⟩) rfl rfl (List.forall_mem_cons.mpr ⟨⟨rfl, rfl, .inl rfl⟩, List.forall_mem_nil _⟩) (by decide +kernel)) (pi_range1 rfl T.n_range (pa_cons (pe_op op_mod (pv 1) pe_int) pa_nil)) (fun _ _ _ _ => (pe_call (ok_law_value_by T) (hr.mono (by decide)) rfl T.m_law_value_by T.f_law_value_by.kp T.b_law_value_by .nil pass0 (pa_cons (pe_op op_add (pe_op op_fdivL (pv 1) (pe_op op_add (pv 0) pe_int)) (pv 0)) pa_nil))) (fun _ _ _ _ => .nil)) pss_bodyT)), ?_⟩
    dsimp! []
    obtain ⟨n, en, hn0⟩ : ∃ n : Int, (if c < 0 then -c else c) = n ∧ 0 ≤ n := ⟨_, rfl, by split <;> omega⟩
    rw [en]
    refine ⟨by decide, by omega, by omega, fun fl hfl => ?_⟩
    refine lcr (fun i ys H2 => Same H H2 ∧ H2 fl = some (.lst ys) ∧ ys.length = i ∧ ∃ vl, VlL K H2 ys vl) ⟨Same.put hfl, upd_same, rfl, [], VlL.nil _ _⟩ ?_ ?_
    · rintro i m ys H2 hm hi ⟨s2, hf2, hyl, vl, hvl⟩
      have hi9 : i < 9 := by omega
      dsimp! [lcSlots, Option.join_some, Int.zero_add]
      refine ⟨.small (by omega) (by omega), _, rfl, fun x v H3 s3 hx => ?_⟩
      have hf3 := s3 _ _ hf2
      refine lcS.mk hm hf3 (by omega) ⟨fun b u e => ?_, upd_same, by rw [List.length_append, List.length_singleton, hyl], vl ++ [v], ?_⟩
      · rw [upd_ne (ne_of_none e hfl)]
        exact s3 b u (s2 b u e)
      · have kD : Kp (· = fl) H3 (upd H3 fl (.lst (ys ++ [x]))) := (Kp.refl _ _).set rfl
        exact ((hvl.same s3).snoc hx).kp kD fun b e => .inl ⟨ys, by rw [e]; exact hf3⟩
    · rintro ys H2 ⟨s2, hf2, hyl, vl, hvl⟩
      have hy9 : ys.length ≤ 9 := by omega
      have hvy := hvl.1
      refine bodyT.of (pss_cons (ps_set (i := 3) sc_law_holds.nd rfl (Or.inl rfl) (pe_ix ix_list (pe_lst (pa_cons pe_non (pa_cons (pe_op op_mod (pe_op op_fdivL (pv 1) pe_int) (pe_op op_pow pe_int pe_int)) pa_nil))) (pe_op op_mod (pe_op op_fdivL (pv 1) pe_int) pe_int) (fun _ _ => rfl))) (pss_cons (ps_set (i := 4) sc_law_holds.nd rfl (Or.inl rfl) (pe_callTy call_list_of rfl T.n_list bt_list (pa_cons (pv 2) pa_nil))) pss_bodyT)) ?_
      dsimp! [e60]
      refine ⟨.small (by decide) (by decide), ⟨by decide, by decide, by decide⟩, by decide, by simp [sizeLine_eq], fun lw hlw => ⟨.small (by decide) (by decide), by decide, ?_⟩⟩
      have s3 := s2.trans (Same.put (o := .lst [V.non, V.int (n / 9 % 1000000000000000000000000000000000000000000000000000000000000)]) hlw)
      have hlw3 : upd H2 lw (.lst [V.non, V.int (n / 9 % 1000000000000000000000000000000000000000000000000000000000000)]) lw = some (.lst [V.non, V.int (n / 9 % 1000000000000000000000000000000000000000000000000000000000000)]) := upd_same
      have hf3 := (Same.put (o := .lst [V.non, V.int (n / 9 % 1000000000000000000000000000000000000000000000000000000000000)]) hlw) _ _ hf2
      have hv3 := hvl.same (Same.put (o := .lst [V.non, V.int (n / 9 % 1000000000000000000000000000000000000000000000000000000000000)]) hlw)
      obtain ⟨w, hw⟩ : ∃ w, atI [V.non, V.int (n / 9 % 1000000000000000000000000000000000000000000000000000000000000)] (n / 5 % 2) = some (wV w) := by
        rcases (by omega : n / 5 % 2 = 0 ∨ n / 5 % 2 = 1) with e | e <;> rw [e]
        · exact ⟨none, rfl⟩
        · exact ⟨some _, rfl⟩
      generalize upd H2 lw (.lst [V.non, V.int (n / 9 % 1000000000000000000000000000000000000000000000000000000000000)]) = H3 at s3 hlw3 hf3 hv3
      refine ⟨lw, _, _, _, rfl, rfl, SqL.of hlw3, hw, ys, .inl (SqL.of hf3), fun lh hlh => ?_⟩
      have s4 := Same.put (o := .lst ys) hlh
      have hlh4 : upd H3 lh (.lst ys) lh = some (.lst ys) := upd_same
      have hf4 := s4 _ _ hf3
      have hv4 := hv3.same s4
      have nfh : fl ≠ lh := ne_of_none hf3 hlh
      have s04 := s3.trans s4
      generalize upd H3 lh (.lst ys) = H4 at s4 hlh4 hf4 hv4 s04
      refine bodyT.of (pss_cons (ps_set (i := 5) sc_law_holds.nd rfl (Or.inl rfl) (pe_call (ok_plain T) (hr.mono (by decide)) rfl T.m_plain T.f_plain.kp T.b_plain .nil pass0 (pa_cons (pv 4) (pa_cons (pv 3) pa_nil)))) pss_bodyT) ?_
      dsimp! []
      refine ⟨lh, ys, vl, w, rfl, SqL.of hlh4, hv4, by omega, fun pt dt H5 s5 hpt hdt hT5 => ?_⟩
      have hlh5 := s5 _ _ hlh4
      have hf5 := s5 _ _ hf4
      have hv5 := hv4.same s5
      have ndh : dt ≠ lh := (ne_of_none hlh4 hdt).symm
      refine bodyT.of (pss_cons (ps_expr (pe_bm PySem.F.plainAttrs_list PySem.F.slot_list_append PySem.F.type_list_append mt_append (pv 4) (pa_cons pe_str pa_nil))) (pss_cons (ps_expr (pe_bm PySem.F.plainAttrs_list PySem.F.slot_list_append PySem.F.type_list_append mt_append (pe_meth0 (pv 5) T.cl_PlainThing T.me_PlainThing_fields (ok_Thing_fields T) (hr.mono (by decide)) T.b_Thing_fields .nil pass0) (pa_cons pe_str pa_nil))) (pss_cons (ps_expr (pe_bm PySem.F.plainAttrs_list PySem.F.slot_list_append PySem.F.type_list_append mt_append (pe_meth0 (pv 5) T.cl_PlainThing T.me_PlainThing_holds (ok_PlainThing_holds T) (hr.mono (by decide)) T.b_PlainThing_holds .nil pass0) (pa_cons pe_str pa_nil))) pss_bodyT))) ?_
      dsimp! []
      refine ⟨.inl ⟨rfl, _, SqL.of hlh5⟩, lh, _, _, rfl, rfl, hlh5, small1000 (by omega), ?_⟩
      have k6 : Kp (· = lh) H5 (upd H5 lh (.lst (ys ++ [V.str "more"]))) := (Kp.refl _ _).set rfl
      have mu5 : ∀ b, b = lh → Mu H5 b := fun b e => .inl ⟨ys, by rw [e]; exact hlh5⟩
      have hlh0 : H lh = none := s3.free hlh
      have s06 : Same H (upd H5 lh (.lst (ys ++ [V.str "more"]))) := fun b u e => k6 b u (ne_of_none e hlh0) (s5 b u (s04 b u e))
      have hT6 := hT5.kp k6 mu5 ndh
      have hf6 := k6 _ _ nfh hf5
      have hv6 := hv5.kp k6 mu5
      generalize upd H5 lh (.lst (ys ++ [V.str "more"])) = H6 at k6 s06 hT6 hf6 hv6
      obtain ⟨dx6, h61⟩ := hT6.ob
      have h61' : H6 pt = some (.ins a.c_PlainThing dx6 (flP dt w)) := h61
      have more : ∀ (G : Hp) (r : Addr) (o o' : HO), G r = none → Same G (upd (upd G r o) r o') := fun G r o o' hr b u e => by
        rw [upd_ne (ne_of_none e hr), upd_ne (ne_of_none e hr)]
        exact e
      refine ⟨_, _, h61', (Tg.plain vl w).no dt, pt, dt, _, rfl, hT6, fun r xs hr2 hv hz => ⟨.inl ⟨rfl, _, SqL.of upd_same⟩, r, _, _, rfl, rfl, upd_same, Nat.lt_of_le_of_lt hz (by rw [sizeLine_eq]; decide), ?_⟩⟩
      have s7 := more H6 r (.lst xs) (.lst (xs ++ [V.str "more"])) hr2
      generalize upd (upd H6 r (.lst xs)) r (.lst (xs ++ [V.str "more"])) = H7 at s7
      have hT7 := hT6.same s7
      have h71' := s7 _ _ h61'
      have hnl := List.length_filterMap_le Vl.na vl
      refine ⟨_, _, h71', (Tg.plain vl w).no dt, pt, dt, vl, w, rfl, hT7, fun r2 hr22 => ⟨.inl ⟨rfl, _, SqL.of upd_same⟩, r2, _, _, rfl, rfl, upd_same, small1000 (by rw [List.length_map]; omega), ?_⟩⟩
      have s8 := s7.trans (more H7 r2 (.lst ((vl.filterMap Vl.na).map V.int)) (.lst ((vl.filterMap Vl.na).map V.int ++ [V.str "more"])) hr22)
      generalize upd (upd H7 r2 (.lst ((vl.filterMap Vl.na).map V.int))) r2 (.lst ((vl.filterMap Vl.na).map V.int ++ [V.str "more"])) = H8 at s8
      have s08 := s06.trans s8
      have hT8 := hT6.same s8
      have hf8 := s8 _ _ hf6
      have hv8 := hv6.same s8
      clear s8 s7 hT7 h71' h61' h61 hT6 hf6 hv6 s06 k6 mu5 hT5 hf5 hv5 hlh5 hr22 hr2 hv hz
      have right : ∀ (G : Hp) (Qp : VK), Same H8 G → (∀ G', Same G G' → Qp (.bl true) G') → sp_law_right a K [.ref pt, .str "plain", .ref fl, wV w] G Qp E0 := fun G Qp sG hq => ⟨pt, dt, fl, ys, .plain vl w, rfl, hT8.same sG, SqL.of (sG _ _ hf8), hv8.same sG, by omega, hq⟩
      refine bodyT.of (pss_cons (ps_if (PW.pt (pw_or (pt_not (pt_val (pe_callB call_isinstC rfl T.n_isinstance bt_isinstance (pa_cons (pv 5) (pa_cons (pe_glob (v := .ref a.c_Thing) rfl T.mc_Thing rfl) pa_nil))))) (pw_or1 (pt_not (pt_val (pe_call (ok_law_right T) (hr.mono (by decide)) rfl T.m_law_right T.f_law_right.kp T.b_law_right .nil pass0 (pa_cons (pv 5) (pa_cons pe_str (pa_cons (pv 2) (pa_cons (pv 3) pa_nil)))))))))) (pss_one (ps_ret pe_bl)) pss_nil) pss_bodyT) ?_
      dsimp! []
      obtain ⟨ty8, ki8⟩ := th_ty T hT8
      refine ⟨_, ty8, true, ki8, iteF (right _ _ (.refl _) fun H9 s9 => ⟨true, rfl, iteF ?_⟩)⟩
      refine bodyT.of (pss_cons ps_stT pss_bodyT) ?_
      dsimp! []
      refine joinW (fun σ' H' => ∃ o6 o7 : Option V, σ' = [some (.int c), some (.int n), some (.ref fl), some (wV w), some (.ref lh), some (.ref pt), o6, o7, none, none, none, none] ∧ Same H8 H') (stT.of (ps_if (pt_cmpR (op_neD hr.units) (pv 2) (pe_lst pa_nil) (nomark _)) (pss_cons (ps_set (i := 6) sc_law_holds.nd rfl (Or.inl rfl) (pe_op op_mod (pe_op op_fdivL (pv 1) pe_int) (pe_callB call_len_seq rfl T.n_len bt_len (pa_cons (pv 2) pa_nil)))) (pss_cons (ps_set (i := 7) sc_law_holds.nd rfl (Or.inl rfl) (pe_meth (pv 5) T.cl_PlainThing T.me_PlainThing_with_field (ok_PlainThing_with_field T) (hr.mono (by decide)) T.b_PlainThing_with_field .nil pass0 (pa_cons (pv 6) (pa_cons (pe_tup (pa_cons pe_str (pa_cons pe_int pa_nil))) pa_nil)))) (pss_one (ps_if (pt_not (pt_val (pe_call (ok_law_right T) (hr.mono (by decide)) rfl T.m_law_right T.f_law_right.kp T.b_law_right .nil pass0 (pa_cons (pv 7) (pa_cons pe_str (pa_cons (pe_op op_catS (pe_op op_catS (pe_slice sl_list (pv 2) po_none (po_some (pv 6))) (pe_lst (pa_cons (pe_tup (pa_cons pe_str (pa_cons pe_int pa_nil))) pa_nil))) (pe_slice sl_list (pv 2) (po_some (pe_op op_add (pv 6) pe_int)) po_none)) (pa_cons (pv 3) pa_nil))))))) (pss_one (ps_ret pe_bl)) pss_nil)))) pss_nil) ?_) ?_
      · dsimp! []
        refine fun p hp => ?_
        have s10 := s9.trans (Same.put (o := .lst []) hp)
        refine ⟨_, _, VlL.isD (SqL.of (s10 _ _ hf8)) (hv8.same s10), .flatL (SqL.of upd_same) (fun x hx => (nomatch hx)), lst_dep _, ?_⟩
        have ed : deq (D.lst (vl.map vD)) (D.lst (([] : List V).map fD)) = vl.isEmpty := by
          cases vl <;> simp [deq, deqs]
        rw [if_pos rfl, ed]
        generalize upd H9 p (.lst []) = H10 at s10
        cases hvE : vl.isEmpty with
        | true => exact ⟨false, rfl, iteF s10⟩
        | false =>
          have hpos : 0 < vl.length := by
            cases vl with
            | nil => cases hvE
            | cons => simp
          refine ⟨true, rfl, iteT ?_⟩
          have m0 := Int.emod_nonneg (n / 7) (show ((ys.length : Nat) : Int) ≠ 0 by omega)
          have m1 := Int.emod_lt_of_pos (n / 7) (show (0 : Int) < ((ys.length : Nat) : Int) by omega)
          obtain ⟨at_, ea, hat⟩ : ∃ at_ : Nat, n / 7 % ((ys.length : Nat) : Int) = (at_ : Int) ∧ at_ < ys.length := ⟨(n / 7 % ((ys.length : Nat) : Int)).toNat, by omega, by omega⟩
          refine ⟨.small (by decide) (by decide), ys, .inl (SqL.of (s10 _ _ hf8)), by omega, ?_⟩
          rw [ea]
          have hT10 := hT8.same s10
          obtain ⟨dx10, h10⟩ := hT10.ob
          refine ⟨_, _, h10, (Tg.plain vl w).no dt, by simp [sizeLine_eq], fun tt htt => ?_⟩
          have s11 := Same.put (o := .tup [V.str "thing", V.int 7]) htt
          refine ⟨pt, dt, vl, w, at_, .ref tt, .th 7, rfl, hT10.same s11, by omega, by omega, ⟨tt, rfl, SqT.of upd_same⟩, fun p' d' H12 s12 hp' hd' hT12 => ?_⟩
          have s012 := s10.trans (s11.trans s12)
          have hf12 := s012 _ _ hf8
          have hv12 := hv8.same s012
          refine ⟨fl, _, rfl, SqL.of hf12, fun p1 hp1 => ⟨by simp [sizeLine_eq], fun t2 ht2 => ⟨by simp [sizeLine_eq], fun p2 hp2 => ?_⟩⟩⟩
          rw [cut0] at ht2 hp2 ⊢
          have t1 := Same.put (o := .lst (ys.take at_)) hp1
          have t2' := Same.put (o := .tup [V.str "thing", V.int 7]) ht2
          have t3 := Same.put (o := .lst [V.ref t2]) hp2
          have hA := (t2'.trans t3) _ _ (upd_same (H := H12) (a := p1) (o := .lst (ys.take at_)))
          have hTT := t3 _ _ (upd_same (H := upd H12 p1 (.lst (ys.take at_))) (a := t2) (o := .tup [V.str "thing", V.int 7]))
          have hB : upd (upd (upd H12 p1 (.lst (ys.take at_))) t2 (.tup [V.str "thing", V.int 7])) p2 (.lst [V.ref t2]) p2 = some (.lst [V.ref t2]) := upd_same
          have t13 := t1.trans (t2'.trans t3)
          generalize upd (upd (upd H12 p1 (.lst (ys.take at_))) t2 (.tup [V.str "thing", V.int 7])) p2 (.lst [V.ref t2]) = G2 at t13 hA hB hTT
          refine ⟨p1, p2, _, _, rfl, rfl, SqL.of hA, SqL.of hB, Nat.le_of_lt (small1000 (by simp only [List.length_take, List.length_cons, List.length_nil]; omega)), fun p3 hp3 => ?_⟩
          have u3 := Same.put (o := .lst (ys.take at_ ++ [V.ref t2])) hp3
          have hC : upd G2 p3 (.lst (ys.take at_ ++ [V.ref t2])) p3 = some (.lst (ys.take at_ ++ [V.ref t2])) := upd_same
          have u13 := t13.trans u3
          have hTT3 := u3 _ _ hTT
          generalize upd G2 p3 (.lst (ys.take at_ ++ [V.ref t2])) = G3 at u3 u13 hC hTT3
          refine ⟨fl, _, rfl, SqL.of (u13 _ _ hf12), fun p4 hp4 => ?_⟩
          rw [show ((at_ : Int) + 1) = ((at_ + 1 : Nat) : Int) from rfl, cutT]
          have u4 := Same.put (o := .lst (ys.drop (at_ + 1))) hp4
          refine ⟨p3, p4, _, _, rfl, rfl, SqL.of (u4 _ _ hC), SqL.of upd_same, Nat.le_of_lt (small1000 (by simp only [List.length_append, List.length_take, List.length_drop, List.length_cons, List.length_nil]; omega)), fun p5 hp5 => ?_⟩
          have eS : (ys.take at_ ++ [V.ref t2]) ++ ys.drop (at_ + 1) = ys.set at_ (V.ref t2) := by
            rw [List.set_eq_take_append_cons_drop, if_pos hat, List.append_assoc]
            rfl
          rw [eS]
          have u5 := Same.put (o := .lst (ys.set at_ (V.ref t2))) hp5
          have u15 := u13.trans (u4.trans u5)
          have hE : upd (upd G3 p4 (.lst (ys.drop (at_ + 1)))) p5 (.lst (ys.set at_ (V.ref t2))) p5 = some (.lst (ys.set at_ (V.ref t2))) := upd_same
          have hTT5 := (u4.trans u5) _ _ hTT3
          generalize upd (upd G3 p4 (.lst (ys.drop (at_ + 1)))) p5 (.lst (ys.set at_ (V.ref t2))) = G5 at u15 hE hTT5
          refine ⟨p', d', p5, _, .plain (vl.set at_ (.th 7)) w, rfl, hT12.same u15, SqL.of hE, (hv12.same u15).set ⟨t2, rfl, SqT.of hTT5⟩, by rw [List.length_set]; omega, fun G6 s6 => ⟨true, rfl, iteF ?_⟩⟩
          exact s012.trans (u15.trans s6)
      · rintro σ' H' ⟨o6, o7, rfl, s10⟩
        refine bodyT.of (pss_cons (ps_if (pt_not (pt_val (pe_call (ok_law_right T) (hr.mono (by decide)) rfl T.m_law_right T.f_law_right.kp T.b_law_right .nil pass0 (pa_cons (by exact (pe_meth (pv 5) T.cl_PlainThing T.me_PlainThing_with_words (ok_PlainThing_with_words T) (hr.mono (by decide)) T.b_PlainThing_with_words .nil pass0 (pa_cons pe_int pa_nil))) (pa_cons pe_str (pa_cons (pv 2) (pa_cons pe_int pa_nil))))))) (pss_one (ps_ret pe_bl)) pss_nil) pss_bodyT) ?_
        dsimp! []
        have ww : ∀ (G : Hp) (w' : Option Int) (x : V) (Qp : VK), x = wV w' → Same H8 G → (∀ G', Same H8 G' → Qp (.bl true) G') → ∃ y y_1, G pt = some (HO.ins a.c_PlainThing y y_1) ∧ List.lookup ("with_words" : Str) y_1 = none ∧ sp_PlainThing_with_words a K [V.ref pt, x] G (fun z H1 => sp_law_right a K [z, V.str "plain", V.ref fl, x] H1 Qp E0) E0 := fun G w' x Qp ex sG hq => by
          subst ex
          have hTG := hT8.same sG
          obtain ⟨dxG, hG⟩ := hTG.ob
          refine ⟨_, _, hG, (Tg.plain vl w).no dt, pt, dt, vl, w, w', rfl, hTG, fun p' d' G2 s2 hp' hd' hT2 => ?_⟩
          exact ⟨p', d', fl, ys, .plain vl w', rfl, hT2, SqL.of ((sG.trans s2) _ _ hf8), hv8.same (sG.trans s2), by omega, fun G3 s3 => hq G3 ((sG.trans s2).trans s3)⟩
        refine ww H' (some 5) _ _ rfl s10 fun H11 s11 => ⟨true, rfl, iteF ?_⟩
        refine bodyT.of (pss_cons (ps_if (pt_not (pt_val (pe_call (ok_law_right T) (hr.mono (by decide)) rfl T.m_law_right T.f_law_right.kp T.b_law_right .nil pass0 (pa_cons (by exact (pe_meth (pv 5) T.cl_PlainThing T.me_PlainThing_with_words (ok_PlainThing_with_words T) (hr.mono (by decide)) T.b_PlainThing_with_words .nil pass0 (pa_cons pe_non pa_nil))) (pa_cons pe_str (pa_cons (pv 2) (pa_cons pe_non pa_nil))))))) (pss_one (ps_ret pe_bl)) pss_nil) pss_bodyT) ?_
        dsimp! []
        refine ww H11 none _ _ rfl s11 fun H12 s12 => ⟨true, rfl, iteF ?_⟩
        refine bodyT.of (pss_cons (ps_set (i := 8) sc_law_holds.nd rfl (Or.inl rfl) (pe_ix ix_list (pe_lst (pa_cons (pe_tup (pa_cons pe_str (pa_cons (pe_op op_mod (pv 1) pe_int) pa_nil))) (pa_cons (pe_tup (pa_cons pe_str pa_nil)) pa_nil))) (pe_op op_mod (pe_op op_fdivL (pv 1) pe_int) pe_int) (fun _ _ => rfl))) (pss_cons (ps_set (i := 9) sc_law_holds.nd rfl (Or.inl rfl) (pe_call (ok_law_value_by T) (hr.mono (by decide)) rfl T.m_law_value_by T.f_law_value_by.kp T.b_law_value_by .nil pass0 (pa_cons (pe_op op_fdivL (pv 1) pe_int) pa_nil))) pss_bodyT)) ?_
        dsimp! []
        refine ⟨by decide, by simp [sizeLine_eq], fun t1 ht1 => ⟨by simp [sizeLine_eq], fun t2 ht2 => ⟨by simp [sizeLine_eq], fun l3 hl3 => ⟨.small (by decide) (by decide), by decide, ?_⟩⟩⟩⟩
        have u1 := Same.put (o := .tup [V.str "thing", V.int (n % 50)]) ht1
        have u2 := Same.put (o := .tup [V.str "nothing"]) ht2
        have u3 := Same.put (o := .lst [V.ref t1, V.ref t2]) hl3
        have i1 := (u2.trans u3) _ _ (upd_same (H := H12) (a := t1) (o := .tup [V.str "thing", V.int (n % 50)]))
        have i2 := u3 _ _ (upd_same (H := upd H12 t1 (.tup [V.str "thing", V.int (n % 50)])) (a := t2) (o := .tup [V.str "nothing"]))
        have i3 : upd (upd (upd H12 t1 (.tup [V.str "thing", V.int (n % 50)])) t2 (.tup [V.str "nothing"])) l3 (.lst [V.ref t1, V.ref t2]) l3 = some (.lst [V.ref t1, V.ref t2]) := upd_same
        have s13 := s12.trans (u1.trans (u2.trans u3))
        generalize upd (upd (upd H12 t1 (.tup [V.str "thing", V.int (n % 50)])) t2 (.tup [V.str "nothing"])) l3 (.lst [V.ref t1, V.ref t2]) = H13 at s13 i1 i2 i3
        obtain ⟨kx, kv, hak, hk13⟩ : ∃ kx kv, atI [V.ref t1, V.ref t2] (n / 11 % 2) = some kx ∧ IsVl K H13 kx kv := by
          rcases (by omega : n / 11 % 2 = 0 ∨ n / 11 % 2 = 1) with e | e <;> rw [e]
          · exact ⟨_, .th (n % 50), rfl, ⟨t1, rfl, SqT.of i1⟩⟩
          · exact ⟨_, .no, rfl, ⟨t2, rfl, SqT.of i2⟩⟩
        refine ⟨l3, _, _, _, rfl, rfl, SqL.of i3, hak, .small (by decide) (by decide), _, rfl, fun vx vv H14 s14 hv14 => ?_⟩
        clear i1 i2 i3 u1 u2 u3 ht1 ht2 hl3 ww right
        have hk14 := hk13.same s14
        refine bodyT.of (pss_cons (ps_set (i := 10) sc_law_holds.nd rfl (Or.inl rfl) (pe_call (ok_weak T) (hr.mono (by decide)) rfl T.m_weak T.f_weak.kp T.b_weak .nil pass0 (pa_cons (pv 8) pa_nil))) (pss_cons (ps_set (i := 11) sc_law_holds.nd rfl (Or.inl rfl) (pe_call (ok_pair T) (hr.mono (by decide)) rfl T.m_pair T.f_pair.kp T.b_pair .nil pass0 (pa_cons (pv 8) (pa_cons (pv 9) pa_nil)))) pss_bodyT)) ?_
        dsimp! []
        refine ⟨kx, kv, rfl, hk14, fun p2 d2 H15 s15 hp2 hd2 hT2 => ⟨kx, vx, kv, vv, rfl, hk14.same s15, hv14.same s15, fun p3 d3 H16 s16 hp3 hd3 hT3 => ?_⟩⟩
        have s016 := ((s13.trans s14).trans s15).trans s16
        have hk16 := (hk14.same s15).same s16
        have hv16 := (hv14.same s15).same s16
        have hT2' := hT2.same s16
        obtain ⟨dx16, h16⟩ := hT3.ob
        refine bodyT.of (pss_cons (ps_expr (pe_bm PySem.F.plainAttrs_list PySem.F.slot_list_append PySem.F.type_list_append mt_append (pe_meth0 (pv 11) T.cl_PairThing T.me_PairThing_waits (ok_PairThing_waits T) (hr.mono (by decide)) T.b_PairThing_waits .nil pass0) (pa_cons pe_str pa_nil))) pss_bodyT) ?_
        dsimp! []
        refine ⟨_, _, h16, (Tg.pair kv vv).no d3, p3, d3, kv, vv, rfl, hT3, fun l ws H17 s17 hl hl17 hwl _ => ⟨.inl ⟨rfl, _, SqL.of hl17⟩, l, _, _, rfl, rfl, hl17, small1000 (by omega), ?_⟩⟩
        have s18 : Same H16 (upd H17 l (.lst (ws ++ [V.str "more"]))) := fun b u e => by
          rw [upd_ne (ne_of_none e hl)]
          exact s17 b u e
        generalize upd H17 l (.lst (ws ++ [V.str "more"])) = H18 at s18
        have s818 := s016.trans s18
        have hT2'' := hT2'.same s18
        have hT3'' := hT3.same s18
        have hk18 := hk16.same s18
        have hv18 := hv16.same s18
        obtain ⟨ty2, ki2⟩ := th_ty T hT2''
        obtain ⟨ty3, ki3⟩ := th_ty T hT3''
        refine bodyT.of (pss_cons (ps_if (PW.pt (pw_or (pt_not (pt_val (pe_callB call_isinstC rfl T.n_isinstance bt_isinstance (pa_cons (pv 10) (pa_cons (pe_glob (v := .ref a.c_Thing) rfl T.mc_Thing rfl) pa_nil))))) (pw_or (pt_not (pt_val (pe_callB call_isinstC rfl T.n_isinstance bt_isinstance (pa_cons (pv 11) (pa_cons (pe_glob (v := .ref a.c_Thing) rfl T.mc_Thing rfl) pa_nil))))) (pw_or1 (pt_not (pt_val (pe_call (ok_law_right T) (hr.mono (by decide)) rfl T.m_law_right T.f_law_right.kp T.b_law_right .nil pass0 (pa_cons (pv 5) (pa_cons pe_str (pa_cons (pv 2) (pa_cons (pv 3) pa_nil))))))))))) (pss_one (ps_ret pe_bl)) pss_nil) pss_bodyT) ?_
        dsimp! []
        refine ⟨_, ty2, true, ki2, iteF ⟨_, ty3, true, ki3, iteF ⟨pt, dt, fl, ys, .plain vl w, rfl, hT8.same s818, SqL.of (s818 _ _ hf8), hv8.same s818, by omega, fun H19 s19 => ⟨true, rfl, iteF ?_⟩⟩⟩⟩
        refine bodyT.of (pss_one (ps_ret (pe_and (pe_call (ok_law_right T) (hr.mono (by decide)) rfl T.m_law_right T.f_law_right.kp T.b_law_right .nil pass0 (pa_cons (pv 10) (pa_cons pe_str (pa_cons (pe_lst (pa_cons (pv 8) pa_nil)) (pa_cons pe_non pa_nil))))) (pe_one (pe_call (ok_law_right T) (hr.mono (by decide)) rfl T.m_law_right T.f_law_right.kp T.b_law_right .nil pass0 (pa_cons (pv 11) (pa_cons pe_str (pa_cons (pe_lst (pa_cons (pv 8) (pa_cons (pv 9) pa_nil))) (pa_cons pe_non pa_nil))))))))) ?_
        dsimp! []
        refine ⟨by simp [sizeLine_eq], fun q1 hq1 => ?_⟩
        have s20 := Same.put (o := .lst [kx]) hq1
        refine ⟨p2, d2, q1, [kx], .weak kv, rfl, (hT2''.same s19).same s20, SqL.of upd_same, VlL.cons ((hk18.same s19).same s20) (VlL.nil _ _), by simp, fun H21 s21 => ⟨true, rfl, iteT ⟨by simp [sizeLine_eq], fun q2 hq2 => ?_⟩⟩⟩
        have s22 := Same.put (o := .lst [kx, vx]) hq2
        have s1922 := s19.trans (s20.trans (s21.trans s22))
        refine ⟨p3, d3, q2, [kx, vx], .pair kv vv, rfl, hT3''.same s1922, SqL.of upd_same, VlL.cons (hk18.same s1922) (VlL.cons (hv18.same s1922) (VlL.nil _ _)), by simp, fun H23 s23 => ?_⟩
        exact q H23 (((s08.trans s818).trans s1922).trans s23)
def sp_law (K : PySem.W.Frag) : Sp := fun vs H Q _ => ∃ (a : Addr) (ns : List Int), vs = [.ref a] ∧ SqL K H a (ns.map V.int) ∧ ns.length ≤ 63 ∧ ∀ H', Q (.bl true) H'
theorem ok_law (T : Txt K mg a) : FnOk P w K mg base CX0 11 a.a_law a.d_law ["_law_script"] (sp_law K) := by
  refine T.f_law.ok sc_law (fun vs H Q E h => ?_) (fun cdv A outer s H vs Q E hr h => ?_)
  · obtain ⟨_, _, rfl, _⟩ := h
    rfl
  · obtain ⟨sc, ns, rfl, hS, hl, q⟩ := h
    refine ⟨_, (pss_cons (ps_forW PassesOwn.never rfl (pi_list (pe_op op_catS (pe_lst (pa_cons pe_int pa_nil)) (pv 0))) (pg_name (i := 1) sc_law.nd rfl (Or.inl rfl)) pss_bodyT) pss_bodyT), ?_⟩
    dsimp! []
    refine ⟨by simp [sizeLine_eq], fun l1 hl1 => ?_⟩
    have s1 := Same.put (o := .lst [V.int 0]) hl1
    refine ⟨l1, sc, _, _, rfl, rfl, SqL.of upd_same, s1.seq hS, Nat.le_of_lt (small1000 (by simp only [List.length_cons, List.length_nil, List.length_map]; omega)), fun l2 hl2 => ?_⟩
    have e1 : [V.int 0] ++ ns.map V.int = ((0 : Int) :: ns).map V.int := rfl
    rw [e1]
    have hl22 : upd (upd H l1 (.lst [V.int 0])) l2 (.lst (((0 : Int) :: ns).map V.int)) l2 = some (.lst (((0 : Int) :: ns).map V.int)) := upd_same
    generalize upd (upd H l1 (.lst [V.int 0])) l2 (.lst (((0 : Int) :: ns).map V.int)) = H2 at hl22
    refine ⟨l2, rfl, ⟨_, SqL.of hl22⟩, fw_list (((0 : Int) :: ns).map V.int) (fun i σ H3 => ∃ o1 : Option V, σ = [some (.ref sc), o1] ∧ Same H2 H3) ⟨none, rfl, .refl _⟩ ?_ ?_ ?_⟩
    · rintro i σ H3 _ ⟨o1, rfl, s3⟩
      exact SqL.of (s3 _ _ hl22)
    · rintro i x σ H3 hi ⟨o1, rfl, s3⟩
      obtain ⟨z, _, rfl⟩ := List.mem_map.mp (List.mem_of_getElem? hi)
      refine gN ?_
      refine bodyT.of (pss_one (ps_if (pt_not (pt_val (pe_call (ok_law_holds T) (hr.mono (by decide)) rfl T.m_law_holds T.f_law_holds.kp T.b_law_holds .nil pass0 (pa_cons (pv 1) pa_nil)))) (pss_one (ps_ret pe_bl)) pss_nil)) ?_
      dsimp! []
      exact ⟨z, rfl, fun H4 s4 => ⟨true, rfl, iteF (s3.trans s4)⟩⟩
    · rintro σ H3 ⟨o1, rfl, s3⟩
      refine bodyT.of (pss_one (ps_ret pe_bl)) ?_
      dsimp! []
      exact q _
end
theorem all_mk {l : PySem.W.OpenLaw} {w : World} {K : PySem.W.Frag} {h : Heap} {mg : Str → Option Value} {fa : Addr} (X : K.In h) (G : h.Ns mainGlobals mg) (hfa : mg "law" = some (.ref fa))
    {f_is_thing f_names_in f_Thing_init f_Thing_sort_of f_Thing_fields f_Thing_holds f_Thing_waits f_Thing_words f_PlainThing_init f_PlainThing_holds f_PlainThing_words f_PlainThing_with_field f_PlainThing_with_words f_PairThing_init f_PairThing_waits f_plain f_weak f_pair f_law_alike f_law_value_by f_law_right f_law_holds f_law C_Thing C_PlainThing C_PairThing : Addr}
    {od_is_thing an_is_thing od_names_in an_names_in od_Thing_init an_Thing_init od_Thing_sort_of an_Thing_sort_of od_Thing_fields an_Thing_fields od_Thing_holds an_Thing_holds od_Thing_waits an_Thing_waits od_Thing_words an_Thing_words od_PlainThing_init an_PlainThing_init od_PlainThing_holds an_PlainThing_holds od_PlainThing_words an_PlainThing_words od_PlainThing_with_field an_PlainThing_with_field od_PlainThing_with_words an_PlainThing_with_words od_PairThing_init an_PairThing_init od_PairThing_waits an_PairThing_waits od_plain an_plain od_weak an_weak od_pair an_pair od_law_alike an_law_alike od_law_value_by an_law_value_by od_law_right an_law_right od_law_holds an_law_holds od_law an_law : Option Addr}
    {sl_is_thing sl_names_in sl_Thing_init sl_Thing_sort_of sl_Thing_fields sl_Thing_holds sl_Thing_waits sl_Thing_words sl_PlainThing_init sl_PlainThing_holds sl_PlainThing_words sl_PlainThing_with_field sl_PlainThing_with_words sl_PairThing_init sl_PairThing_waits sl_plain sl_weak sl_pair sl_law_alike sl_law_value_by sl_law_right sl_law_holds sl_law : Array (Option Value)}
    {oc_is_thing kV_is_thing dc_is_thing pm_is_thing cd_is_thing ct_is_thing oc_names_in kV_names_in dc_names_in pm_names_in cd_names_in ct_names_in oc_Thing_init kV_Thing_init dc_Thing_init pm_Thing_init cd_Thing_init ct_Thing_init oc_Thing_sort_of kV_Thing_sort_of dc_Thing_sort_of pm_Thing_sort_of cd_Thing_sort_of ct_Thing_sort_of oc_Thing_fields kV_Thing_fields dc_Thing_fields pm_Thing_fields cd_Thing_fields ct_Thing_fields oc_Thing_holds kV_Thing_holds dc_Thing_holds pm_Thing_holds cd_Thing_holds ct_Thing_holds oc_Thing_waits kV_Thing_waits dc_Thing_waits pm_Thing_waits cd_Thing_waits ct_Thing_waits oc_Thing_words kV_Thing_words dc_Thing_words pm_Thing_words cd_Thing_words ct_Thing_words oc_PlainThing_init kV_PlainThing_init dc_PlainThing_init pm_PlainThing_init cd_PlainThing_init ct_PlainThing_init oc_PlainThing_holds kV_PlainThing_holds dc_PlainThing_holds pm_PlainThing_holds cd_PlainThing_holds ct_PlainThing_holds oc_PlainThing_words kV_PlainThing_words dc_PlainThing_words pm_PlainThing_words cd_PlainThing_words ct_PlainThing_words oc_PlainThing_with_field kV_PlainThing_with_field dc_PlainThing_with_field pm_PlainThing_with_field cd_PlainThing_with_field ct_PlainThing_with_field oc_PlainThing_with_words kV_PlainThing_with_words dc_PlainThing_with_words pm_PlainThing_with_words cd_PlainThing_with_words ct_PlainThing_with_words oc_PairThing_init kV_PairThing_init dc_PairThing_init pm_PairThing_init cd_PairThing_init ct_PairThing_init oc_PairThing_waits kV_PairThing_waits dc_PairThing_waits pm_PairThing_waits cd_PairThing_waits ct_PairThing_waits oc_plain kV_plain dc_plain pm_plain cd_plain ct_plain oc_weak kV_weak dc_weak pm_weak cd_weak ct_weak oc_pair kV_pair dc_pair pm_pair cd_pair ct_pair oc_law_alike kV_law_alike dc_law_alike pm_law_alike cd_law_alike ct_law_alike oc_law_value_by kV_law_value_by dc_law_value_by pm_law_value_by cd_law_value_by ct_law_value_by oc_law_right kV_law_right dc_law_right pm_law_right cd_law_right ct_law_right oc_law_holds kV_law_holds dc_law_holds pm_law_holds cd_law_holds ct_law_holds oc_law kV_law dc_law pm_law cd_law ct_law : Value}
    (cc_Thing : PySem.W.nsIn K mainGlobals "Thing" = some (some (.ref C_Thing)))
    (cc_PlainThing : PySem.W.nsIn K mainGlobals "PlainThing" = some (some (.ref C_PlainThing)))
    (cc_PairThing : PySem.W.nsIn K mainGlobals "PairThing" = some (some (.ref C_PairThing)))
    (a_is_thing : PySem.W.nsIn K mainGlobals "is_thing" = some (some (.ref f_is_thing)))
    (l_is_thing : K.lookup f_is_thing = some ⟨oc_is_thing, od_is_thing, .func (PySem.W.fnOf "is_thing" "is_thing" (defArgs s_is_thing) (defBody s_is_thing) (defScope s_is_thing) .none kV_is_thing dc_is_thing pm_is_thing an_is_thing cd_is_thing ct_is_thing), sl_is_thing⟩)
    (co_is_thing : PySem.W.codeIn K cd_is_thing "is_thing" = true)
    (k_is_thing : PySem.W.keepIn K (.ref f_is_thing) = true)
    (a_names_in : PySem.W.nsIn K mainGlobals "names_in" = some (some (.ref f_names_in)))
    (l_names_in : K.lookup f_names_in = some ⟨oc_names_in, od_names_in, .func (PySem.W.fnOf "names_in" "names_in" (defArgs s_names_in) (defBody s_names_in) (defScope s_names_in) .none kV_names_in dc_names_in pm_names_in an_names_in cd_names_in ct_names_in), sl_names_in⟩)
    (co_names_in : PySem.W.codeIn K cd_names_in "names_in" = true)
    (k_names_in : PySem.W.keepIn K (.ref f_names_in) = true)
    (a_Thing_init : PySem.W.findIn K (.ref C_Thing) "__init__" = some (some (.ref f_Thing_init)))
    (i_Thing_init : PySem.W.isFn K (.ref f_Thing_init) = true)
    (l_Thing_init : K.lookup f_Thing_init = some ⟨oc_Thing_init, od_Thing_init, .func (PySem.W.fnOf "__init__" "Thing.__init__" (defArgs s_Thing_init) (defBody s_Thing_init) (defScope s_Thing_init) .none kV_Thing_init dc_Thing_init pm_Thing_init an_Thing_init cd_Thing_init ct_Thing_init), sl_Thing_init⟩)
    (co_Thing_init : PySem.W.codeIn K cd_Thing_init "Thing.__init__" = true)
    (k_Thing_init : PySem.W.keepIn K (.ref f_Thing_init) = true)
    (a_Thing_sort_of : PySem.W.findIn K (.ref C_Thing) "sort_of" = some (some (.ref f_Thing_sort_of)))
    (i_Thing_sort_of : PySem.W.isFn K (.ref f_Thing_sort_of) = true)
    (l_Thing_sort_of : K.lookup f_Thing_sort_of = some ⟨oc_Thing_sort_of, od_Thing_sort_of, .func (PySem.W.fnOf "sort_of" "Thing.sort_of" (defArgs s_Thing_sort_of) (defBody s_Thing_sort_of) (defScope s_Thing_sort_of) .none kV_Thing_sort_of dc_Thing_sort_of pm_Thing_sort_of an_Thing_sort_of cd_Thing_sort_of ct_Thing_sort_of), sl_Thing_sort_of⟩)
    (co_Thing_sort_of : PySem.W.codeIn K cd_Thing_sort_of "Thing.sort_of" = true)
    (k_Thing_sort_of : PySem.W.keepIn K (.ref f_Thing_sort_of) = true)
    (a_Thing_fields : PySem.W.findIn K (.ref C_Thing) "fields" = some (some (.ref f_Thing_fields)))
    (i_Thing_fields : PySem.W.isFn K (.ref f_Thing_fields) = true)
    (l_Thing_fields : K.lookup f_Thing_fields = some ⟨oc_Thing_fields, od_Thing_fields, .func (PySem.W.fnOf "fields" "Thing.fields" (defArgs s_Thing_fields) (defBody s_Thing_fields) (defScope s_Thing_fields) .none kV_Thing_fields dc_Thing_fields pm_Thing_fields an_Thing_fields cd_Thing_fields ct_Thing_fields), sl_Thing_fields⟩)
    (co_Thing_fields : PySem.W.codeIn K cd_Thing_fields "Thing.fields" = true)
    (k_Thing_fields : PySem.W.keepIn K (.ref f_Thing_fields) = true)
    (a_Thing_holds : PySem.W.findIn K (.ref C_Thing) "holds" = some (some (.ref f_Thing_holds)))
    (i_Thing_holds : PySem.W.isFn K (.ref f_Thing_holds) = true)
    (l_Thing_holds : K.lookup f_Thing_holds = some ⟨oc_Thing_holds, od_Thing_holds, .func (PySem.W.fnOf "holds" "Thing.holds" (defArgs s_Thing_holds) (defBody s_Thing_holds) (defScope s_Thing_holds) .none kV_Thing_holds dc_Thing_holds pm_Thing_holds an_Thing_holds cd_Thing_holds ct_Thing_holds), sl_Thing_holds⟩)
    (co_Thing_holds : PySem.W.codeIn K cd_Thing_holds "Thing.holds" = true)
    (k_Thing_holds : PySem.W.keepIn K (.ref f_Thing_holds) = true)
    (a_Thing_waits : PySem.W.findIn K (.ref C_Thing) "waits" = some (some (.ref f_Thing_waits)))
    (i_Thing_waits : PySem.W.isFn K (.ref f_Thing_waits) = true)
    (l_Thing_waits : K.lookup f_Thing_waits = some ⟨oc_Thing_waits, od_Thing_waits, .func (PySem.W.fnOf "waits" "Thing.waits" (defArgs s_Thing_waits) (defBody s_Thing_waits) (defScope s_Thing_waits) .none kV_Thing_waits dc_Thing_waits pm_Thing_waits an_Thing_waits cd_Thing_waits ct_Thing_waits), sl_Thing_waits⟩)
    (co_Thing_waits : PySem.W.codeIn K cd_Thing_waits "Thing.waits" = true)
    (k_Thing_waits : PySem.W.keepIn K (.ref f_Thing_waits) = true)
    (a_Thing_words : PySem.W.findIn K (.ref C_Thing) "words" = some (some (.ref f_Thing_words)))
    (i_Thing_words : PySem.W.isFn K (.ref f_Thing_words) = true)
    (l_Thing_words : K.lookup f_Thing_words = some ⟨oc_Thing_words, od_Thing_words, .func (PySem.W.fnOf "words" "Thing.words" (defArgs s_Thing_words) (defBody s_Thing_words) (defScope s_Thing_words) .none kV_Thing_words dc_Thing_words pm_Thing_words an_Thing_words cd_Thing_words ct_Thing_words), sl_Thing_words⟩)
    (co_Thing_words : PySem.W.codeIn K cd_Thing_words "Thing.words" = true)
    (k_Thing_words : PySem.W.keepIn K (.ref f_Thing_words) = true)
    (a_PlainThing_init : PySem.W.findIn K (.ref C_PlainThing) "__init__" = some (some (.ref f_PlainThing_init)))
    (i_PlainThing_init : PySem.W.isFn K (.ref f_PlainThing_init) = true)
    (l_PlainThing_init : K.lookup f_PlainThing_init = some ⟨oc_PlainThing_init, od_PlainThing_init, .func (PySem.W.fnOf "__init__" "PlainThing.__init__" (defArgs s_PlainThing_init) (defBody s_PlainThing_init) (defScope s_PlainThing_init) .none kV_PlainThing_init dc_PlainThing_init pm_PlainThing_init an_PlainThing_init cd_PlainThing_init ct_PlainThing_init), sl_PlainThing_init⟩)
    (co_PlainThing_init : PySem.W.codeIn K cd_PlainThing_init "PlainThing.__init__" = true)
    (k_PlainThing_init : PySem.W.keepIn K (.ref f_PlainThing_init) = true)
    (a_PlainThing_holds : PySem.W.findIn K (.ref C_PlainThing) "holds" = some (some (.ref f_PlainThing_holds)))
    (i_PlainThing_holds : PySem.W.isFn K (.ref f_PlainThing_holds) = true)
    (l_PlainThing_holds : K.lookup f_PlainThing_holds = some ⟨oc_PlainThing_holds, od_PlainThing_holds, .func (PySem.W.fnOf "holds" "PlainThing.holds" (defArgs s_PlainThing_holds) (defBody s_PlainThing_holds) (defScope s_PlainThing_holds) .none kV_PlainThing_holds dc_PlainThing_holds pm_PlainThing_holds an_PlainThing_holds cd_PlainThing_holds ct_PlainThing_holds), sl_PlainThing_holds⟩)
    (co_PlainThing_holds : PySem.W.codeIn K cd_PlainThing_holds "PlainThing.holds" = true)
    (k_PlainThing_holds : PySem.W.keepIn K (.ref f_PlainThing_holds) = true)
    (a_PlainThing_words : PySem.W.findIn K (.ref C_PlainThing) "words" = some (some (.ref f_PlainThing_words)))
    (i_PlainThing_words : PySem.W.isFn K (.ref f_PlainThing_words) = true)
    (l_PlainThing_words : K.lookup f_PlainThing_words = some ⟨oc_PlainThing_words, od_PlainThing_words, .func (PySem.W.fnOf "words" "PlainThing.words" (defArgs s_PlainThing_words) (defBody s_PlainThing_words) (defScope s_PlainThing_words) .none kV_PlainThing_words dc_PlainThing_words pm_PlainThing_words an_PlainThing_words cd_PlainThing_words ct_PlainThing_words), sl_PlainThing_words⟩)
    (co_PlainThing_words : PySem.W.codeIn K cd_PlainThing_words "PlainThing.words" = true)
    (k_PlainThing_words : PySem.W.keepIn K (.ref f_PlainThing_words) = true)
    (a_PlainThing_with_field : PySem.W.findIn K (.ref C_PlainThing) "with_field" = some (some (.ref f_PlainThing_with_field)))
    (i_PlainThing_with_field : PySem.W.isFn K (.ref f_PlainThing_with_field) = true)
    (l_PlainThing_with_field : K.lookup f_PlainThing_with_field = some ⟨oc_PlainThing_with_field, od_PlainThing_with_field, .func (PySem.W.fnOf "with_field" "PlainThing.with_field" (defArgs s_PlainThing_with_field) (defBody s_PlainThing_with_field) (defScope s_PlainThing_with_field) .none kV_PlainThing_with_field dc_PlainThing_with_field pm_PlainThing_with_field an_PlainThing_with_field cd_PlainThing_with_field ct_PlainThing_with_field), sl_PlainThing_with_field⟩)
    (co_PlainThing_with_field : PySem.W.codeIn K cd_PlainThing_with_field "PlainThing.with_field" = true)
    (k_PlainThing_with_field : PySem.W.keepIn K (.ref f_PlainThing_with_field) = true)
    (a_PlainThing_with_words : PySem.W.findIn K (.ref C_PlainThing) "with_words" = some (some (.ref f_PlainThing_with_words)))
    (i_PlainThing_with_words : PySem.W.isFn K (.ref f_PlainThing_with_words) = true)
    (l_PlainThing_with_words : K.lookup f_PlainThing_with_words = some ⟨oc_PlainThing_with_words, od_PlainThing_with_words, .func (PySem.W.fnOf "with_words" "PlainThing.with_words" (defArgs s_PlainThing_with_words) (defBody s_PlainThing_with_words) (defScope s_PlainThing_with_words) .none kV_PlainThing_with_words dc_PlainThing_with_words pm_PlainThing_with_words an_PlainThing_with_words cd_PlainThing_with_words ct_PlainThing_with_words), sl_PlainThing_with_words⟩)
    (co_PlainThing_with_words : PySem.W.codeIn K cd_PlainThing_with_words "PlainThing.with_words" = true)
    (k_PlainThing_with_words : PySem.W.keepIn K (.ref f_PlainThing_with_words) = true)
    (a_PairThing_init : PySem.W.findIn K (.ref C_PairThing) "__init__" = some (some (.ref f_PairThing_init)))
    (i_PairThing_init : PySem.W.isFn K (.ref f_PairThing_init) = true)
    (l_PairThing_init : K.lookup f_PairThing_init = some ⟨oc_PairThing_init, od_PairThing_init, .func (PySem.W.fnOf "__init__" "PairThing.__init__" (defArgs s_PairThing_init) (defBody s_PairThing_init) (defScope s_PairThing_init) .none kV_PairThing_init dc_PairThing_init pm_PairThing_init an_PairThing_init cd_PairThing_init ct_PairThing_init), sl_PairThing_init⟩)
    (co_PairThing_init : PySem.W.codeIn K cd_PairThing_init "PairThing.__init__" = true)
    (k_PairThing_init : PySem.W.keepIn K (.ref f_PairThing_init) = true)
    (a_PairThing_waits : PySem.W.findIn K (.ref C_PairThing) "waits" = some (some (.ref f_PairThing_waits)))
    (i_PairThing_waits : PySem.W.isFn K (.ref f_PairThing_waits) = true)
    (l_PairThing_waits : K.lookup f_PairThing_waits = some ⟨oc_PairThing_waits, od_PairThing_waits, .func (PySem.W.fnOf "waits" "PairThing.waits" (defArgs s_PairThing_waits) (defBody s_PairThing_waits) (defScope s_PairThing_waits) .none kV_PairThing_waits dc_PairThing_waits pm_PairThing_waits an_PairThing_waits cd_PairThing_waits ct_PairThing_waits), sl_PairThing_waits⟩)
    (co_PairThing_waits : PySem.W.codeIn K cd_PairThing_waits "PairThing.waits" = true)
    (k_PairThing_waits : PySem.W.keepIn K (.ref f_PairThing_waits) = true)
    (a_plain : PySem.W.nsIn K mainGlobals "plain" = some (some (.ref f_plain)))
    (l_plain : K.lookup f_plain = some ⟨oc_plain, od_plain, .func (PySem.W.fnOf "plain" "plain" (defArgs s_plain) (defBody s_plain) (defScope s_plain) .none kV_plain dc_plain pm_plain an_plain cd_plain ct_plain), sl_plain⟩)
    (co_plain : PySem.W.codeIn K cd_plain "plain" = true)
    (k_plain : PySem.W.keepIn K (.ref f_plain) = true)
    (a_weak : PySem.W.nsIn K mainGlobals "weak" = some (some (.ref f_weak)))
    (l_weak : K.lookup f_weak = some ⟨oc_weak, od_weak, .func (PySem.W.fnOf "weak" "weak" (defArgs s_weak) (defBody s_weak) (defScope s_weak) .none kV_weak dc_weak pm_weak an_weak cd_weak ct_weak), sl_weak⟩)
    (co_weak : PySem.W.codeIn K cd_weak "weak" = true)
    (k_weak : PySem.W.keepIn K (.ref f_weak) = true)
    (a_pair : PySem.W.nsIn K mainGlobals "pair" = some (some (.ref f_pair)))
    (l_pair : K.lookup f_pair = some ⟨oc_pair, od_pair, .func (PySem.W.fnOf "pair" "pair" (defArgs s_pair) (defBody s_pair) (defScope s_pair) .none kV_pair dc_pair pm_pair an_pair cd_pair ct_pair), sl_pair⟩)
    (co_pair : PySem.W.codeIn K cd_pair "pair" = true)
    (k_pair : PySem.W.keepIn K (.ref f_pair) = true)
    (a_law_alike : PySem.W.nsIn K mainGlobals "_law_alike" = some (some (.ref f_law_alike)))
    (l_law_alike : K.lookup f_law_alike = some ⟨oc_law_alike, od_law_alike, .func (PySem.W.fnOf "_law_alike" "_law_alike" (defArgs s_law_alike) (defBody s_law_alike) (defScope s_law_alike) .none kV_law_alike dc_law_alike pm_law_alike an_law_alike cd_law_alike ct_law_alike), sl_law_alike⟩)
    (co_law_alike : PySem.W.codeIn K cd_law_alike "_law_alike" = true)
    (k_law_alike : PySem.W.keepIn K (.ref f_law_alike) = true)
    (a_law_value_by : PySem.W.nsIn K mainGlobals "_law_value_by" = some (some (.ref f_law_value_by)))
    (l_law_value_by : K.lookup f_law_value_by = some ⟨oc_law_value_by, od_law_value_by, .func (PySem.W.fnOf "_law_value_by" "_law_value_by" (defArgs s_law_value_by) (defBody s_law_value_by) (defScope s_law_value_by) .none kV_law_value_by dc_law_value_by pm_law_value_by an_law_value_by cd_law_value_by ct_law_value_by), sl_law_value_by⟩)
    (co_law_value_by : PySem.W.codeIn K cd_law_value_by "_law_value_by" = true)
    (k_law_value_by : PySem.W.keepIn K (.ref f_law_value_by) = true)
    (a_law_right : PySem.W.nsIn K mainGlobals "_law_right" = some (some (.ref f_law_right)))
    (l_law_right : K.lookup f_law_right = some ⟨oc_law_right, od_law_right, .func (PySem.W.fnOf "_law_right" "_law_right" (defArgs s_law_right) (defBody s_law_right) (defScope s_law_right) .none kV_law_right dc_law_right pm_law_right an_law_right cd_law_right ct_law_right), sl_law_right⟩)
    (co_law_right : PySem.W.codeIn K cd_law_right "_law_right" = true)
    (k_law_right : PySem.W.keepIn K (.ref f_law_right) = true)
    (a_law_holds : PySem.W.nsIn K mainGlobals "_law_holds" = some (some (.ref f_law_holds)))
    (l_law_holds : K.lookup f_law_holds = some ⟨oc_law_holds, od_law_holds, .func (PySem.W.fnOf "_law_holds" "_law_holds" (defArgs s_law_holds) (defBody s_law_holds) (defScope s_law_holds) .none kV_law_holds dc_law_holds pm_law_holds an_law_holds cd_law_holds ct_law_holds), sl_law_holds⟩)
    (co_law_holds : PySem.W.codeIn K cd_law_holds "_law_holds" = true)
    (k_law_holds : PySem.W.keepIn K (.ref f_law_holds) = true)
    (a_law : PySem.W.nsIn K mainGlobals "law" = some (some (.ref f_law)))
    (l_law : K.lookup f_law = some ⟨oc_law, od_law, .func (PySem.W.fnOf "law" "law" (defArgs s_law) (defBody s_law) (defScope s_law) .none kV_law dc_law pm_law an_law cd_law ct_law), sl_law⟩)
    (co_law : PySem.W.codeIn K cd_law "law" = true)
    (k_law : PySem.W.keepIn K (.ref f_law) = true)
    (pg_Thing : PySem.W.plainGet K C_Thing Str.empty = true)
    (hd_Thing : PySem.W.hasDictIn K C_Thing = true)
    (po_Thing : PySem.W.plainOver K C_Thing = true)
    (sa_Thing : PySem.W.findIn K (.ref C_Thing) "__setattr__" = some (some (.builtin "object.__setattr__")))
    (mi_Thing : PySem.W.makesIn K C_Thing = true)
    (kc_Thing : PySem.W.keepIn K (.ref C_Thing) = true)
    (na_Thing_called : PySem.W.findIn K (.ref C_Thing) "called" = some none)
    (na_Thing_parts : PySem.W.findIn K (.ref C_Thing) "parts" = some none)
    (pg_PlainThing : PySem.W.plainGet K C_PlainThing Str.empty = true)
    (hd_PlainThing : PySem.W.hasDictIn K C_PlainThing = true)
    (po_PlainThing : PySem.W.plainOver K C_PlainThing = true)
    (sa_PlainThing : PySem.W.findIn K (.ref C_PlainThing) "__setattr__" = some (some (.builtin "object.__setattr__")))
    (mi_PlainThing : PySem.W.makesIn K C_PlainThing = true)
    (kc_PlainThing : PySem.W.keepIn K (.ref C_PlainThing) = true)
    (na_PlainThing_called : PySem.W.findIn K (.ref C_PlainThing) "called" = some none)
    (na_PlainThing_parts : PySem.W.findIn K (.ref C_PlainThing) "parts" = some none)
    (na_PlainThing_last_words : PySem.W.findIn K (.ref C_PlainThing) "last_words" = some none)
    (pg_PairThing : PySem.W.plainGet K C_PairThing Str.empty = true)
    (hd_PairThing : PySem.W.hasDictIn K C_PairThing = true)
    (po_PairThing : PySem.W.plainOver K C_PairThing = true)
    (sa_PairThing : PySem.W.findIn K (.ref C_PairThing) "__setattr__" = some (some (.builtin "object.__setattr__")))
    (mi_PairThing : PySem.W.makesIn K C_PairThing = true)
    (kc_PairThing : PySem.W.keepIn K (.ref C_PairThing) = true)
    (na_PairThing_called : PySem.W.findIn K (.ref C_PairThing) "called" = some none)
    (na_PairThing_parts : PySem.W.findIn K (.ref C_PairThing) "parts" = some none)
    (h_PlainThing_sort_of : PySem.W.findIn K (.ref C_PlainThing) "sort_of" = some (some (.ref f_Thing_sort_of)))
    (h_PlainThing_fields : PySem.W.findIn K (.ref C_PlainThing) "fields" = some (some (.ref f_Thing_fields)))
    (h_PlainThing_waits : PySem.W.findIn K (.ref C_PlainThing) "waits" = some (some (.ref f_Thing_waits)))
    (h_PairThing_sort_of : PySem.W.findIn K (.ref C_PairThing) "sort_of" = some (some (.ref f_Thing_sort_of)))
    (h_PairThing_fields : PySem.W.findIn K (.ref C_PairThing) "fields" = some (some (.ref f_Thing_fields)))
    (h_PairThing_holds : PySem.W.findIn K (.ref C_PairThing) "holds" = some (some (.ref f_Thing_holds)))
    (h_PairThing_words : PySem.W.findIn K (.ref C_PairThing) "words" = some (some (.ref f_Thing_words)))
    (cf1_Thing_init : PySem.W.specialIn K (.ref C_Thing) "__getattribute__" = some (some (.builtin "type.__getattribute__")))
    (cf2_Thing_init : PySem.W.readsIn K C_Thing (.type "type") = true)
    (cf3_Thing_init : PySem.W.findCls K (.ref C_Thing) (.type "type") "__init__" = some (.val (.ref f_Thing_init)))
    (tyg : PySem.W.specialIn K (.builtin "object.__class__") "__get__" = some (some (.builtin "getset_descriptor.__get__")))
    (tyt : PySem.W.takesIn K (.builtin "object.__class__") = some true)
    (tya_Thing : PySem.W.findIn K (.ref C_Thing) "__class__" = some (some (.builtin "object.__class__")))
    (tym_Thing : PySem.W.mroIn K C_Thing (.type "object") = some true)
    (tya_PlainThing : PySem.W.findIn K (.ref C_PlainThing) "__class__" = some (some (.builtin "object.__class__")))
    (tym_PlainThing : PySem.W.mroIn K C_PlainThing (.type "object") = some true)
    (tya_PairThing : PySem.W.findIn K (.ref C_PairThing) "__class__" = some (some (.builtin "object.__class__")))
    (tym_PairThing : PySem.W.mroIn K C_PairThing (.type "object") = some true)
    (ki_Thing_Thing : PySem.W.kitOne K (.ref C_Thing) (.ref C_Thing) = some true)
    (ki_PlainThing_Thing : PySem.W.kitOne K (.ref C_PlainThing) (.ref C_Thing) = some true)
    (ki_PairThing_Thing : PySem.W.kitOne K (.ref C_PairThing) (.ref C_Thing) = some true)
    (n_abs : PySem.W.nsIn K mainGlobals "abs" = some none)
    (n_bool : PySem.W.nsIn K mainGlobals "bool" = some none)
    (n_dict : PySem.W.nsIn K mainGlobals "dict" = some none)
    (n_int : PySem.W.nsIn K mainGlobals "int" = some none)
    (n_isinstance : PySem.W.nsIn K mainGlobals "isinstance" = some none)
    (n_len : PySem.W.nsIn K mainGlobals "len" = some none)
    (n_list : PySem.W.nsIn K mainGlobals "list" = some none)
    (n_range : PySem.W.nsIn K mainGlobals "range" = some none)
    (n_str : PySem.W.nsIn K mainGlobals "str" = some none)
    (n_tuple : PySem.W.nsIn K mainGlobals "tuple" = some none)
    : ∃ fd : FuncData, (∀ (s : Shared) (v : Value), BindsTo s fd ⟨[v], []⟩ [("_law_script", v)]) ∧ ∀ base : Heap, K.In base → base.Ns mainGlobals mg → FnOk l.prog w K mg base CX0 11 fa fd ["_law_script"] (sp_law K) := by
  have e : f_law = fa := by
    have e := hfa.symm.trans (PySem.W.mg_of X G a_law)
    cases e
    rfl
  subst e
  have F_is_thing := fun_mk (st := s_is_thing) l_is_thing co_is_thing k_is_thing
  have F_names_in := fun_mk (st := s_names_in) l_names_in co_names_in k_names_in
  have F_Thing_init := fun_mk (st := s_Thing_init) l_Thing_init co_Thing_init k_Thing_init
  have F_Thing_sort_of := fun_mk (st := s_Thing_sort_of) l_Thing_sort_of co_Thing_sort_of k_Thing_sort_of
  have F_Thing_fields := fun_mk (st := s_Thing_fields) l_Thing_fields co_Thing_fields k_Thing_fields
  have F_Thing_holds := fun_mk (st := s_Thing_holds) l_Thing_holds co_Thing_holds k_Thing_holds
  have F_Thing_waits := fun_mk (st := s_Thing_waits) l_Thing_waits co_Thing_waits k_Thing_waits
  have F_Thing_words := fun_mk (st := s_Thing_words) l_Thing_words co_Thing_words k_Thing_words
  have F_PlainThing_init := fun_mk (st := s_PlainThing_init) l_PlainThing_init co_PlainThing_init k_PlainThing_init
  have F_PlainThing_holds := fun_mk (st := s_PlainThing_holds) l_PlainThing_holds co_PlainThing_holds k_PlainThing_holds
  have F_PlainThing_words := fun_mk (st := s_PlainThing_words) l_PlainThing_words co_PlainThing_words k_PlainThing_words
  have F_PlainThing_with_field := fun_mk (st := s_PlainThing_with_field) l_PlainThing_with_field co_PlainThing_with_field k_PlainThing_with_field
  have F_PlainThing_with_words := fun_mk (st := s_PlainThing_with_words) l_PlainThing_with_words co_PlainThing_with_words k_PlainThing_with_words
  have F_PairThing_init := fun_mk (st := s_PairThing_init) l_PairThing_init co_PairThing_init k_PairThing_init
  have F_PairThing_waits := fun_mk (st := s_PairThing_waits) l_PairThing_waits co_PairThing_waits k_PairThing_waits
  have F_plain := fun_mk (st := s_plain) l_plain co_plain k_plain
  have F_weak := fun_mk (st := s_weak) l_weak co_weak k_weak
  have F_pair := fun_mk (st := s_pair) l_pair co_pair k_pair
  have F_law_alike := fun_mk (st := s_law_alike) l_law_alike co_law_alike k_law_alike
  have F_law_value_by := fun_mk (st := s_law_value_by) l_law_value_by co_law_value_by k_law_value_by
  have F_law_right := fun_mk (st := s_law_right) l_law_right co_law_right k_law_right
  have F_law_holds := fun_mk (st := s_law_holds) l_law_holds co_law_holds k_law_holds
  have F_law := fun_mk (st := s_law) l_law co_law k_law
  have B_is_thing := F_is_thing.binds (ps := ["value"]) fun _ _ _ _ _ _ us hl => match us, hl with | [_], _ => rfl
  have B_names_in := F_names_in.binds (ps := ["some"]) fun _ _ _ _ _ _ us hl => match us, hl with | [_], _ => rfl
  have B_Thing_init := F_Thing_init.binds (ps := ["self", "sort", "some"]) fun _ _ _ _ _ _ us hl => match us, hl with | [_, _, _], _ => rfl
  have B_Thing_sort_of := F_Thing_sort_of.binds (ps := ["self"]) fun _ _ _ _ _ _ us hl => match us, hl with | [_], _ => rfl
  have B_Thing_fields := F_Thing_fields.binds (ps := ["self"]) fun _ _ _ _ _ _ us hl => match us, hl with | [_], _ => rfl
  have B_Thing_holds := F_Thing_holds.binds (ps := ["self"]) fun _ _ _ _ _ _ us hl => match us, hl with | [_], _ => rfl
  have B_Thing_waits := F_Thing_waits.binds (ps := ["self"]) fun _ _ _ _ _ _ us hl => match us, hl with | [_], _ => rfl
  have B_Thing_words := F_Thing_words.binds (ps := ["self"]) fun _ _ _ _ _ _ us hl => match us, hl with | [_], _ => rfl
  have B_PlainThing_init := F_PlainThing_init.binds (ps := ["self", "some", "last_words"]) fun _ _ _ _ _ _ us hl => match us, hl with | [_, _, _], _ => rfl
  have B_PlainThing_holds := F_PlainThing_holds.binds (ps := ["self"]) fun _ _ _ _ _ _ us hl => match us, hl with | [_], _ => rfl
  have B_PlainThing_words := F_PlainThing_words.binds (ps := ["self"]) fun _ _ _ _ _ _ us hl => match us, hl with | [_], _ => rfl
  have B_PlainThing_with_field := F_PlainThing_with_field.binds (ps := ["self", "at", "value"]) fun _ _ _ _ _ _ us hl => match us, hl with | [_, _, _], _ => rfl
  have B_PlainThing_with_words := F_PlainThing_with_words.binds (ps := ["self", "words"]) fun _ _ _ _ _ _ us hl => match us, hl with | [_, _], _ => rfl
  have B_PairThing_init := F_PairThing_init.binds (ps := ["self", "key", "value"]) fun _ _ _ _ _ _ us hl => match us, hl with | [_, _, _], _ => rfl
  have B_PairThing_waits := F_PairThing_waits.binds (ps := ["self"]) fun _ _ _ _ _ _ us hl => match us, hl with | [_], _ => rfl
  have B_plain := F_plain.binds (ps := ["fields", "words"]) fun _ _ _ _ _ _ us hl => match us, hl with | [_, _], _ => rfl
  have B_weak := F_weak.binds (ps := ["field"]) fun _ _ _ _ _ _ us hl => match us, hl with | [_], _ => rfl
  have B_pair := F_pair.binds (ps := ["key", "value"]) fun _ _ _ _ _ _ us hl => match us, hl with | [_, _], _ => rfl
  have B_law_alike := F_law_alike.binds (ps := ["_law_found", "_law_due"]) fun _ _ _ _ _ _ us hl => match us, hl with | [_, _], _ => rfl
  have B_law_value_by := F_law_value_by.binds (ps := ["_law_number"]) fun _ _ _ _ _ _ us hl => match us, hl with | [_], _ => rfl
  have B_law_right := F_law_right.binds (ps := ["_law_thing", "_law_sort", "_law_fields", "_law_words"]) fun _ _ _ _ _ _ us hl => match us, hl with | [_, _, _, _], _ => rfl
  have B_law_holds := F_law_holds.binds (ps := ["_law_cell"]) fun _ _ _ _ _ _ us hl => match us, hl with | [_], _ => rfl
  have T : Txt K mg ⟨f_is_thing, PySem.W.fnOf "is_thing" "is_thing" (defArgs s_is_thing) (defBody s_is_thing) (defScope s_is_thing) .none kV_is_thing dc_is_thing pm_is_thing an_is_thing cd_is_thing ct_is_thing, f_names_in, PySem.W.fnOf "names_in" "names_in" (defArgs s_names_in) (defBody s_names_in) (defScope s_names_in) .none kV_names_in dc_names_in pm_names_in an_names_in cd_names_in ct_names_in, f_Thing_init, PySem.W.fnOf "__init__" "Thing.__init__" (defArgs s_Thing_init) (defBody s_Thing_init) (defScope s_Thing_init) .none kV_Thing_init dc_Thing_init pm_Thing_init an_Thing_init cd_Thing_init ct_Thing_init, f_Thing_sort_of, PySem.W.fnOf "sort_of" "Thing.sort_of" (defArgs s_Thing_sort_of) (defBody s_Thing_sort_of) (defScope s_Thing_sort_of) .none kV_Thing_sort_of dc_Thing_sort_of pm_Thing_sort_of an_Thing_sort_of cd_Thing_sort_of ct_Thing_sort_of, f_Thing_fields, PySem.W.fnOf "fields" "Thing.fields" (defArgs s_Thing_fields) (defBody s_Thing_fields) (defScope s_Thing_fields) .none kV_Thing_fields dc_Thing_fields pm_Thing_fields an_Thing_fields cd_Thing_fields ct_Thing_fields, f_Thing_holds, PySem.W.fnOf "holds" "Thing.holds" (defArgs s_Thing_holds) (defBody s_Thing_holds) (defScope s_Thing_holds) .none kV_Thing_holds dc_Thing_holds pm_Thing_holds an_Thing_holds cd_Thing_holds ct_Thing_holds, f_Thing_waits, PySem.W.fnOf "waits" "Thing.waits" (defArgs s_Thing_waits) (defBody s_Thing_waits) (defScope s_Thing_waits) .none kV_Thing_waits dc_Thing_waits pm_Thing_waits an_Thing_waits cd_Thing_waits ct_Thing_waits, f_Thing_words, PySem.W.fnOf "words" "Thing.words" (defArgs s_Thing_words) (defBody s_Thing_words) (defScope s_Thing_words) .none kV_Thing_words dc_Thing_words pm_Thing_words an_Thing_words cd_Thing_words ct_Thing_words, f_PlainThing_init, PySem.W.fnOf "__init__" "PlainThing.__init__" (defArgs s_PlainThing_init) (defBody s_PlainThing_init) (defScope s_PlainThing_init) .none kV_PlainThing_init dc_PlainThing_init pm_PlainThing_init an_PlainThing_init cd_PlainThing_init ct_PlainThing_init, f_PlainThing_holds, PySem.W.fnOf "holds" "PlainThing.holds" (defArgs s_PlainThing_holds) (defBody s_PlainThing_holds) (defScope s_PlainThing_holds) .none kV_PlainThing_holds dc_PlainThing_holds pm_PlainThing_holds an_PlainThing_holds cd_PlainThing_holds ct_PlainThing_holds, f_PlainThing_words, PySem.W.fnOf "words" "PlainThing.words" (defArgs s_PlainThing_words) (defBody s_PlainThing_words) (defScope s_PlainThing_words) .none kV_PlainThing_words dc_PlainThing_words pm_PlainThing_words an_PlainThing_words cd_PlainThing_words ct_PlainThing_words, f_PlainThing_with_field, PySem.W.fnOf "with_field" "PlainThing.with_field" (defArgs s_PlainThing_with_field) (defBody s_PlainThing_with_field) (defScope s_PlainThing_with_field) .none kV_PlainThing_with_field dc_PlainThing_with_field pm_PlainThing_with_field an_PlainThing_with_field cd_PlainThing_with_field ct_PlainThing_with_field, f_PlainThing_with_words, PySem.W.fnOf "with_words" "PlainThing.with_words" (defArgs s_PlainThing_with_words) (defBody s_PlainThing_with_words) (defScope s_PlainThing_with_words) .none kV_PlainThing_with_words dc_PlainThing_with_words pm_PlainThing_with_words an_PlainThing_with_words cd_PlainThing_with_words ct_PlainThing_with_words, f_PairThing_init, PySem.W.fnOf "__init__" "PairThing.__init__" (defArgs s_PairThing_init) (defBody s_PairThing_init) (defScope s_PairThing_init) .none kV_PairThing_init dc_PairThing_init pm_PairThing_init an_PairThing_init cd_PairThing_init ct_PairThing_init, f_PairThing_waits, PySem.W.fnOf "waits" "PairThing.waits" (defArgs s_PairThing_waits) (defBody s_PairThing_waits) (defScope s_PairThing_waits) .none kV_PairThing_waits dc_PairThing_waits pm_PairThing_waits an_PairThing_waits cd_PairThing_waits ct_PairThing_waits, f_plain, PySem.W.fnOf "plain" "plain" (defArgs s_plain) (defBody s_plain) (defScope s_plain) .none kV_plain dc_plain pm_plain an_plain cd_plain ct_plain, f_weak, PySem.W.fnOf "weak" "weak" (defArgs s_weak) (defBody s_weak) (defScope s_weak) .none kV_weak dc_weak pm_weak an_weak cd_weak ct_weak, f_pair, PySem.W.fnOf "pair" "pair" (defArgs s_pair) (defBody s_pair) (defScope s_pair) .none kV_pair dc_pair pm_pair an_pair cd_pair ct_pair, f_law_alike, PySem.W.fnOf "_law_alike" "_law_alike" (defArgs s_law_alike) (defBody s_law_alike) (defScope s_law_alike) .none kV_law_alike dc_law_alike pm_law_alike an_law_alike cd_law_alike ct_law_alike, f_law_value_by, PySem.W.fnOf "_law_value_by" "_law_value_by" (defArgs s_law_value_by) (defBody s_law_value_by) (defScope s_law_value_by) .none kV_law_value_by dc_law_value_by pm_law_value_by an_law_value_by cd_law_value_by ct_law_value_by, f_law_right, PySem.W.fnOf "_law_right" "_law_right" (defArgs s_law_right) (defBody s_law_right) (defScope s_law_right) .none kV_law_right dc_law_right pm_law_right an_law_right cd_law_right ct_law_right, f_law_holds, PySem.W.fnOf "_law_holds" "_law_holds" (defArgs s_law_holds) (defBody s_law_holds) (defScope s_law_holds) .none kV_law_holds dc_law_holds pm_law_holds an_law_holds cd_law_holds ct_law_holds, f_law, PySem.W.fnOf "law" "law" (defArgs s_law) (defBody s_law) (defScope s_law) .none kV_law dc_law pm_law an_law cd_law ct_law, C_Thing, C_PlainThing, C_PairThing⟩ := by
    exact {
      f_is_thing := F_is_thing,
      b_is_thing := B_is_thing,
      m_is_thing := PySem.W.mg_of X G a_is_thing,
      f_names_in := F_names_in,
      b_names_in := B_names_in,
      m_names_in := PySem.W.mg_of X G a_names_in,
      f_Thing_init := F_Thing_init,
      b_Thing_init := B_Thing_init,
      mk_Thing := ⟨mi_Thing, a_Thing_init, i_Thing_init, kc_Thing⟩,
      f_Thing_sort_of := F_Thing_sort_of,
      b_Thing_sort_of := B_Thing_sort_of,
      me_Thing_sort_of := ⟨a_Thing_sort_of, i_Thing_sort_of, k_Thing_sort_of⟩,
      f_Thing_fields := F_Thing_fields,
      b_Thing_fields := B_Thing_fields,
      me_Thing_fields := ⟨a_Thing_fields, i_Thing_fields, k_Thing_fields⟩,
      f_Thing_holds := F_Thing_holds,
      b_Thing_holds := B_Thing_holds,
      me_Thing_holds := ⟨a_Thing_holds, i_Thing_holds, k_Thing_holds⟩,
      f_Thing_waits := F_Thing_waits,
      b_Thing_waits := B_Thing_waits,
      me_Thing_waits := ⟨a_Thing_waits, i_Thing_waits, k_Thing_waits⟩,
      f_Thing_words := F_Thing_words,
      b_Thing_words := B_Thing_words,
      me_Thing_words := ⟨a_Thing_words, i_Thing_words, k_Thing_words⟩,
      f_PlainThing_init := F_PlainThing_init,
      b_PlainThing_init := B_PlainThing_init,
      mk_PlainThing := ⟨mi_PlainThing, a_PlainThing_init, i_PlainThing_init, kc_PlainThing⟩,
      f_PlainThing_holds := F_PlainThing_holds,
      b_PlainThing_holds := B_PlainThing_holds,
      me_PlainThing_holds := ⟨a_PlainThing_holds, i_PlainThing_holds, k_PlainThing_holds⟩,
      f_PlainThing_words := F_PlainThing_words,
      b_PlainThing_words := B_PlainThing_words,
      me_PlainThing_words := ⟨a_PlainThing_words, i_PlainThing_words, k_PlainThing_words⟩,
      f_PlainThing_with_field := F_PlainThing_with_field,
      b_PlainThing_with_field := B_PlainThing_with_field,
      me_PlainThing_with_field := ⟨a_PlainThing_with_field, i_PlainThing_with_field, k_PlainThing_with_field⟩,
      f_PlainThing_with_words := F_PlainThing_with_words,
      b_PlainThing_with_words := B_PlainThing_with_words,
      me_PlainThing_with_words := ⟨a_PlainThing_with_words, i_PlainThing_with_words, k_PlainThing_with_words⟩,
      f_PairThing_init := F_PairThing_init,
      b_PairThing_init := B_PairThing_init,
      mk_PairThing := ⟨mi_PairThing, a_PairThing_init, i_PairThing_init, kc_PairThing⟩,
      f_PairThing_waits := F_PairThing_waits,
      b_PairThing_waits := B_PairThing_waits,
      me_PairThing_waits := ⟨a_PairThing_waits, i_PairThing_waits, k_PairThing_waits⟩,
      f_plain := F_plain,
      b_plain := B_plain,
      m_plain := PySem.W.mg_of X G a_plain,
      f_weak := F_weak,
      b_weak := B_weak,
      m_weak := PySem.W.mg_of X G a_weak,
      f_pair := F_pair,
      b_pair := B_pair,
      m_pair := PySem.W.mg_of X G a_pair,
      f_law_alike := F_law_alike,
      b_law_alike := B_law_alike,
      m_law_alike := PySem.W.mg_of X G a_law_alike,
      f_law_value_by := F_law_value_by,
      b_law_value_by := B_law_value_by,
      m_law_value_by := PySem.W.mg_of X G a_law_value_by,
      f_law_right := F_law_right,
      b_law_right := B_law_right,
      m_law_right := PySem.W.mg_of X G a_law_right,
      f_law_holds := F_law_holds,
      b_law_holds := B_law_holds,
      m_law_holds := PySem.W.mg_of X G a_law_holds,
      f_law := F_law,
      m_law := PySem.W.mg_of X G a_law,
      me_PlainThing_sort_of := ⟨h_PlainThing_sort_of, i_Thing_sort_of, k_Thing_sort_of⟩,
      me_PlainThing_fields := ⟨h_PlainThing_fields, i_Thing_fields, k_Thing_fields⟩,
      me_PlainThing_waits := ⟨h_PlainThing_waits, i_Thing_waits, k_Thing_waits⟩,
      me_PairThing_sort_of := ⟨h_PairThing_sort_of, i_Thing_sort_of, k_Thing_sort_of⟩,
      me_PairThing_fields := ⟨h_PairThing_fields, i_Thing_fields, k_Thing_fields⟩,
      me_PairThing_holds := ⟨h_PairThing_holds, i_Thing_holds, k_Thing_holds⟩,
      me_PairThing_words := ⟨h_PairThing_words, i_Thing_words, k_Thing_words⟩,
      cf_Thing_init := ⟨cf1_Thing_init, cf2_Thing_init, cf3_Thing_init, k_Thing_init⟩,
      ty_Thing := ⟨tya_Thing, tyg, tyt, tym_Thing⟩,
      ty_PlainThing := ⟨tya_PlainThing, tyg, tyt, tym_PlainThing⟩,
      ty_PairThing := ⟨tya_PairThing, tyg, tyt, tym_PairThing⟩,
      ki_Thing_Thing := ki_Thing_Thing,
      ki_PlainThing_Thing := ki_PlainThing_Thing,
      ki_PairThing_Thing := ki_PairThing_Thing,
      cl_Thing := ⟨pg_Thing, hd_Thing, po_Thing, sa_Thing⟩,
      mc_Thing := PySem.W.mg_of X G cc_Thing,
      na_Thing_called := na_Thing_called,
      na_Thing_parts := na_Thing_parts,
      cl_PlainThing := ⟨pg_PlainThing, hd_PlainThing, po_PlainThing, sa_PlainThing⟩,
      mc_PlainThing := PySem.W.mg_of X G cc_PlainThing,
      na_PlainThing_called := na_PlainThing_called,
      na_PlainThing_parts := na_PlainThing_parts,
      na_PlainThing_last_words := na_PlainThing_last_words,
      cl_PairThing := ⟨pg_PairThing, hd_PairThing, po_PairThing, sa_PairThing⟩,
      mc_PairThing := PySem.W.mg_of X G cc_PairThing,
      na_PairThing_called := na_PairThing_called,
      na_PairThing_parts := na_PairThing_parts,
      n_abs := PySem.W.mg_none_of X G n_abs,
      n_bool := PySem.W.mg_none_of X G n_bool,
      n_dict := PySem.W.mg_none_of X G n_dict,
      n_int := PySem.W.mg_none_of X G n_int,
      n_isinstance := PySem.W.mg_none_of X G n_isinstance,
      n_len := PySem.W.mg_none_of X G n_len,
      n_list := PySem.W.mg_none_of X G n_list,
      n_range := PySem.W.mg_none_of X G n_range,
      n_str := PySem.W.mg_none_of X G n_str,
      n_tuple := PySem.W.mg_none_of X G n_tuple }
  exact ⟨_, fun s v => .of_eq rfl, fun base _ _ => ok_law T⟩
theorem walk {l : PySem.W.OpenLaw} {q : Program} {loose : List Str} {XP : (Str → Option Value) → Heap → Prop} {YP : World → Heap → Prop} {d : DefRec} {K : Params → PySem.W.Frag} (hn : l.most = some 63) (hdf : d.params.defaults = [])
    (hY : ∀ (w : World) (h : Heap), YP w h → (K w.params).In h)
    (F : ∀ (w : World) (mg : Str → Option Value) (fa : Addr) (h : Heap), (K w.params).In h → h.Ns mainGlobals mg → mg d.name = some (.ref fa) →
      ∃ fd : FuncData, (∀ (s : Shared) (u : Value), BindsTo s fd ⟨[u], []⟩ [("_law_script", u)]) ∧ ∀ base : Heap, (K w.params).In base → base.Ns mainGlobals mg → FnOk l.prog w (K w.params) mg base CX0 11 fa fd ["_law_script"] (sp_law (K w.params))) :
    PySem.W.WalkO q loose XP YP l.row.toRowW d [] (fun f vs => PySem.call f vs) :=
  L2.walk_of (n := 63) (k := 11) (x := "_law_script") (CX := fun _ => CX0) (sp := fun w => sp_law (K w.params)) hn (by decide) hdf ⟨rfl, by decide, by decide⟩ hY F (fun _ _ a ns hl _ hS => ⟨a, ns, rfl, hS, hl, fun _ => rfl⟩) fun _ _ _ _ _ z => z
end K10
def PySem.W.Fast.tw9577528070024111828 : Unit := ()
def PySem.W.Fast.tw15628683814850927532 : Unit := ()
def PySem.W.Fast.tw17591869717272878009 : Unit := ()
def PySem.W.Fast.tw4714663193280976897 : Unit := ()
def PySem.W.Fast.tw5174061078761486404 : Unit := ()
def PySem.W.Fast.tw16091072414521075164 : Unit := ()
def PySem.W.Fast.tw1983657332234462160 : Unit := ()
def PySem.W.Fast.tw8706803158542378612 : Unit := ()
def PySem.W.Fast.tw4593862336145207414 : Unit := ()
namespace K10
end K10
open PySem PySem.W PyProof.Rows
set_option maxRecDepth 100000 in
set_option maxHeartbeats 0 in
theorem PySem.Challenge.cw_heapsafe_k10_what_things_hold_holds : PySem.Challenge.rw_heapsafe_k10_what_things_hold.Holds := by
  w_on; o_law; k_head; (case hw => w_witness2)
  k_fill
  refine K10.walk (l := PySem.Challenge.rw_heapsafe_k10_what_things_hold) rfl rfl (fun w h Y => PySem.W.kIn_of Y) ?F
  case F =>
    intro w mg fa h KX G hmg
    refine' K10.all_mk KX G hmg ?x_cc_Thing ?x_cc_PlainThing ?x_cc_PairThing ?x_a_is_thing ?x_l_is_thing ?x_co_is_thing ?x_k_is_thing ?x_a_names_in ?x_l_names_in ?x_co_names_in ?x_k_names_in ?x_a_Thing_init ?x_i_Thing_init ?x_l_Thing_init ?x_co_Thing_init ?x_k_Thing_init ?x_a_Thing_sort_of ?x_i_Thing_sort_of ?x_l_Thing_sort_of ?x_co_Thing_sort_of ?x_k_Thing_sort_of ?x_a_Thing_fields ?x_i_Thing_fields ?x_l_Thing_fields ?x_co_Thing_fields ?x_k_Thing_fields ?x_a_Thing_holds ?x_i_Thing_holds ?x_l_Thing_holds ?x_co_Thing_holds ?x_k_Thing_holds ?x_a_Thing_waits ?x_i_Thing_waits ?x_l_Thing_waits ?x_co_Thing_waits ?x_k_Thing_waits ?x_a_Thing_words ?x_i_Thing_words ?x_l_Thing_words ?x_co_Thing_words ?x_k_Thing_words ?x_a_PlainThing_init ?x_i_PlainThing_init ?x_l_PlainThing_init ?x_co_PlainThing_init ?x_k_PlainThing_init ?x_a_PlainThing_holds ?x_i_PlainThing_holds ?x_l_PlainThing_holds ?x_co_PlainThing_holds ?x_k_PlainThing_holds ?x_a_PlainThing_words ?x_i_PlainThing_words ?x_l_PlainThing_words ?x_co_PlainThing_words ?x_k_PlainThing_words ?x_a_PlainThing_with_field ?x_i_PlainThing_with_field ?x_l_PlainThing_with_field ?x_co_PlainThing_with_field ?x_k_PlainThing_with_field ?x_a_PlainThing_with_words ?x_i_PlainThing_with_words ?x_l_PlainThing_with_words ?x_co_PlainThing_with_words ?x_k_PlainThing_with_words ?x_a_PairThing_init ?x_i_PairThing_init ?x_l_PairThing_init ?x_co_PairThing_init ?x_k_PairThing_init ?x_a_PairThing_waits ?x_i_PairThing_waits ?x_l_PairThing_waits ?x_co_PairThing_waits ?x_k_PairThing_waits ?x_a_plain ?x_l_plain ?x_co_plain ?x_k_plain ?x_a_weak ?x_l_weak ?x_co_weak ?x_k_weak ?x_a_pair ?x_l_pair ?x_co_pair ?x_k_pair ?x_a_law_alike ?x_l_law_alike ?x_co_law_alike ?x_k_law_alike ?x_a_law_value_by ?x_l_law_value_by ?x_co_law_value_by ?x_k_law_value_by ?x_a_law_right ?x_l_law_right ?x_co_law_right ?x_k_law_right ?x_a_law_holds ?x_l_law_holds ?x_co_law_holds ?x_k_law_holds ?x_a_law ?x_l_law ?x_co_law ?x_k_law ?x_pg_Thing ?x_hd_Thing ?x_po_Thing ?x_sa_Thing ?x_mi_Thing ?x_kc_Thing ?x_na_Thing_called ?x_na_Thing_parts ?x_pg_PlainThing ?x_hd_PlainThing ?x_po_PlainThing ?x_sa_PlainThing ?x_mi_PlainThing ?x_kc_PlainThing ?x_na_PlainThing_called ?x_na_PlainThing_parts ?x_na_PlainThing_last_words ?x_pg_PairThing ?x_hd_PairThing ?x_po_PairThing ?x_sa_PairThing ?x_mi_PairThing ?x_kc_PairThing ?x_na_PairThing_called ?x_na_PairThing_parts ?x_h_PlainThing_sort_of ?x_h_PlainThing_fields ?x_h_PlainThing_waits ?x_h_PairThing_sort_of ?x_h_PairThing_fields ?x_h_PairThing_holds ?x_h_PairThing_words ?x_cf1_Thing_init ?x_cf2_Thing_init ?x_cf3_Thing_init ?x_tyg ?x_tyt ?x_tya_Thing ?x_tym_Thing ?x_tya_PlainThing ?x_tym_PlainThing ?x_tya_PairThing ?x_tym_PairThing ?x_ki_Thing_Thing ?x_ki_PlainThing_Thing ?x_ki_PairThing_Thing ?x_n_abs ?x_n_bool ?x_n_dict ?x_n_int ?x_n_isinstance ?x_n_len ?x_n_list ?x_n_range ?x_n_str ?x_n_tuple
    (case x_cc_Thing => k_is)
    (case x_cc_PlainThing => k_is)
    (case x_cc_PairThing => k_is)
    (case x_a_is_thing => k_is)
    (case x_l_is_thing => k_is)
    (case x_co_is_thing => k_is)
    (case x_k_is_thing => k_is)
    (case x_a_names_in => k_is)
    (case x_l_names_in => k_is)
    (case x_co_names_in => k_is)
    (case x_k_names_in => k_is)
    (case x_a_Thing_init => k_is)
    (case x_i_Thing_init => k_is)
    (case x_l_Thing_init => k_is)
    (case x_co_Thing_init => k_is)
    (case x_k_Thing_init => k_is)
    (case x_a_Thing_sort_of => k_is)
    (case x_i_Thing_sort_of => k_is)
    (case x_l_Thing_sort_of => k_is)
    (case x_co_Thing_sort_of => k_is)
    (case x_k_Thing_sort_of => k_is)
    (case x_a_Thing_fields => k_is)
    (case x_i_Thing_fields => k_is)
    (case x_l_Thing_fields => k_is)
    (case x_co_Thing_fields => k_is)
    (case x_k_Thing_fields => k_is)
    (case x_a_Thing_holds => k_is)
    (case x_i_Thing_holds => k_is)
    (case x_l_Thing_holds => k_is)
    (case x_co_Thing_holds => k_is)
    (case x_k_Thing_holds => k_is)
    (case x_a_Thing_waits => k_is)
    (case x_i_Thing_waits => k_is)
    (case x_l_Thing_waits => k_is)
    (case x_co_Thing_waits => k_is)
    (case x_k_Thing_waits => k_is)
    (case x_a_Thing_words => k_is)
    (case x_i_Thing_words => k_is)
    (case x_l_Thing_words => k_is)
    (case x_co_Thing_words => k_is)
    (case x_k_Thing_words => k_is)
    (case x_a_PlainThing_init => k_is)
    (case x_i_PlainThing_init => k_is)
    (case x_l_PlainThing_init => k_is)
    (case x_co_PlainThing_init => k_is)
    (case x_k_PlainThing_init => k_is)
    (case x_a_PlainThing_holds => k_is)
    (case x_i_PlainThing_holds => k_is)
    (case x_l_PlainThing_holds => k_is)
    (case x_co_PlainThing_holds => k_is)
    (case x_k_PlainThing_holds => k_is)
    (case x_a_PlainThing_words => k_is)
    (case x_i_PlainThing_words => k_is)
    (case x_l_PlainThing_words => k_is)
    (case x_co_PlainThing_words => k_is)
    (case x_k_PlainThing_words => k_is)
    (case x_a_PlainThing_with_field => k_is)
    (case x_i_PlainThing_with_field => k_is)
    (case x_l_PlainThing_with_field => k_is)
    (case x_co_PlainThing_with_field => k_is)
    (case x_k_PlainThing_with_field => k_is)
    (case x_a_PlainThing_with_words => k_is)
    (case x_i_PlainThing_with_words => k_is)
    (case x_l_PlainThing_with_words => k_is)
    (case x_co_PlainThing_with_words => k_is)
    (case x_k_PlainThing_with_words => k_is)
    (case x_a_PairThing_init => k_is)
    (case x_i_PairThing_init => k_is)
    (case x_l_PairThing_init => k_is)
    (case x_co_PairThing_init => k_is)
    (case x_k_PairThing_init => k_is)
    (case x_a_PairThing_waits => k_is)
    (case x_i_PairThing_waits => k_is)
    (case x_l_PairThing_waits => k_is)
    (case x_co_PairThing_waits => k_is)
    (case x_k_PairThing_waits => k_is)
    (case x_a_plain => k_is)
    (case x_l_plain => k_is)
    (case x_co_plain => k_is)
    (case x_k_plain => k_is)
    (case x_a_weak => k_is)
    (case x_l_weak => k_is)
    (case x_co_weak => k_is)
    (case x_k_weak => k_is)
    (case x_a_pair => k_is)
    (case x_l_pair => k_is)
    (case x_co_pair => k_is)
    (case x_k_pair => k_is)
    (case x_a_law_alike => k_is)
    (case x_l_law_alike => k_is)
    (case x_co_law_alike => k_is)
    (case x_k_law_alike => k_is)
    (case x_a_law_value_by => k_is)
    (case x_l_law_value_by => k_is)
    (case x_co_law_value_by => k_is)
    (case x_k_law_value_by => k_is)
    (case x_a_law_right => k_is)
    (case x_l_law_right => k_is)
    (case x_co_law_right => k_is)
    (case x_k_law_right => k_is)
    (case x_a_law_holds => k_is)
    (case x_l_law_holds => k_is)
    (case x_co_law_holds => k_is)
    (case x_k_law_holds => k_is)
    (case x_a_law => k_is)
    (case x_l_law => k_is)
    (case x_co_law => k_is)
    (case x_k_law => k_is)
    (case x_pg_Thing => k_is)
    (case x_hd_Thing => k_is)
    (case x_po_Thing => k_is)
    (case x_sa_Thing => k_is)
    (case x_mi_Thing => k_is)
    (case x_kc_Thing => k_is)
    (case x_na_Thing_called => k_is)
    (case x_na_Thing_parts => k_is)
    (case x_pg_PlainThing => k_is)
    (case x_hd_PlainThing => k_is)
    (case x_po_PlainThing => k_is)
    (case x_sa_PlainThing => k_is)
    (case x_mi_PlainThing => k_is)
    (case x_kc_PlainThing => k_is)
    (case x_na_PlainThing_called => k_is)
    (case x_na_PlainThing_parts => k_is)
    (case x_na_PlainThing_last_words => k_is)
    (case x_pg_PairThing => k_is)
    (case x_hd_PairThing => k_is)
    (case x_po_PairThing => k_is)
    (case x_sa_PairThing => k_is)
    (case x_mi_PairThing => k_is)
    (case x_kc_PairThing => k_is)
    (case x_na_PairThing_called => k_is)
    (case x_na_PairThing_parts => k_is)
    (case x_h_PlainThing_sort_of => k_is)
    (case x_h_PlainThing_fields => k_is)
    (case x_h_PlainThing_waits => k_is)
    (case x_h_PairThing_sort_of => k_is)
    (case x_h_PairThing_fields => k_is)
    (case x_h_PairThing_holds => k_is)
    (case x_h_PairThing_words => k_is)
    (case x_cf1_Thing_init => k_is)
    (case x_cf2_Thing_init => k_is)
    (case x_cf3_Thing_init => k_is)
    (case x_tyg => k_is)
    (case x_tyt => k_is)
    (case x_tya_Thing => k_is)
    (case x_tym_Thing => k_is)
    (case x_tya_PlainThing => k_is)
    (case x_tym_PlainThing => k_is)
    (case x_tya_PairThing => k_is)
    (case x_tym_PairThing => k_is)
    (case x_ki_Thing_Thing => kit_is)
    (case x_ki_PlainThing_Thing => kit_is)
    (case x_ki_PairThing_Thing => kit_is)
    (case x_n_abs => k_is)
    (case x_n_bool => k_is)
    (case x_n_dict => k_is)
    (case x_n_int => k_is)
    (case x_n_isinstance => k_is)
    (case x_n_len => k_is)
    (case x_n_list => k_is)
    (case x_n_range => k_is)
    (case x_n_str => k_is)
    (case x_n_tuple => k_is)
