import PyProof.Rows.All
import Wide.All
import OpenK.AllK
import Wide.FinOn
import Lean
import PyProof.EqAt
import PyProof.EqKinds
import PyProof.TupleCall
import PySem.Challenge.RW_heapsafe_k09_whole_programs_as_rows
set_option Elab.async false
set_option linter.all false
set_option maxRecDepth 100000
namespace L2
open PySem PySem.Spec PyProof.Rows
abbrev Key := Sum Int Str
def keyIs : Key → Value → Bool
  | .inl k, v => Value.isInt k v
  | .inr x, v => Value.isStrOf x v
def keyH (w : World) : Key → Int
  | .inl k => hashInt k
  | .inr x => hashStr w x
theorem keyIs_shape : ∀ {k : Key} {v : Value}, keyIs k v = true → (∃ i t, k = Sum.inl i ∧ v = Value.int i t) ∨ (∃ x t, k = Sum.inr x ∧ v = Value.str x t)
  | .inl i, v, h => by
    obtain ⟨t, e⟩ := Value.isInt_shape (k := i) (v := v) h
    exact .inl ⟨i, t, rfl, e⟩
  | .inr x, v, h => by
    obtain ⟨t, e⟩ := Value.isStrOf_shape (x := x) (v := v) h
    exact .inr ⟨x, t, rfl, e⟩
theorem key_ll (a b : Int) : decide ((Sum.inl a : Key) = Sum.inl b) = (a == b) := by
  by_cases e : a = b
  · subst e; simp
  · have h : ¬ (Sum.inl a : Key) = Sum.inl b := fun q => e (Sum.inl.inj q)
    rw [decide_eq_false h]
    exact (beq_eq_false_iff_ne.mpr e).symm
theorem key_rr (a b : Str) : decide ((Sum.inr a : Key) = Sum.inr b) = decide (a = b) := by
  by_cases e : a = b
  · subst e; simp
  · have h : ¬ (Sum.inr a : Key) = Sum.inr b := fun q => e (Sum.inr.inj q)
    rw [decide_eq_false h, decide_eq_false e]
theorem key_lr (a : Int) (b : Str) : decide ((Sum.inl a : Key) = Sum.inr b) = false := decide_eq_false (fun q => nomatch q)
theorem key_rl (a : Str) (b : Int) : decide ((Sum.inr a : Key) = Sum.inl b) = false := decide_eq_false (fun q => nomatch q)
def mixKind (prog : Program) (w : World) : PySem.KeyKind prog w Key where
  is := keyIs
  hash := keyH w
  inj := fun v a b ha hb => by
    rcases keyIs_shape ha with ⟨i, t, rfl, rfl⟩ | ⟨x, t, rfl, rfl⟩
    · rcases keyIs_shape hb with ⟨j, u, rfl, e⟩ | ⟨y, u, rfl, e⟩
      · injection e with e1 _; rw [e1]
      · exact nomatch e
    · rcases keyIs_shape hb with ⟨j, u, rfl, e⟩ | ⟨y, u, rfl, e⟩
      · exact nomatch e
      · injection e with e1 _; rw [e1]
  byValue := fun k v h => by
    rcases keyIs_shape h with ⟨i, t, rfl, rfl⟩ | ⟨x, t, rfl, rfl⟩ <;> rfl
  pyHash := fun hv h => by
    rcases keyIs_shape hv with ⟨i, t, rfl, rfl⟩ | ⟨x, t, rfl, rfl⟩
    · exact wpAny_pyHash_int h
    · exact wpAny_pyHash_str h
  eqBool := fun hu hv h => by
    rcases keyIs_shape hu with ⟨i, t, rfl, rfl⟩ | ⟨x, t, rfl, rfl⟩
    · rcases keyIs_shape hv with ⟨j, u, rfl, rfl⟩ | ⟨y, u, rfl, rfl⟩
      · rw [key_ll] at h; exact wpAny_eqBool_int h
      · rw [key_lr] at h; exact SeqAt.EqAt.int_str i t y u _ _ _ _ h
    · rcases keyIs_shape hv with ⟨j, u, rfl, rfl⟩ | ⟨y, u, rfl, rfl⟩
      · rw [key_rl] at h; exact SeqAt.EqAt.str_int x t j u _ _ _ _ h
      · rw [key_rr] at h; exact wpAny_eqBool_str h
  «strs» := fun k x t v h => by
    rcases keyIs_shape h with ⟨i, u, rfl, e⟩ | ⟨y, u, rfl, e⟩
    · exact nomatch e
    · injection e with e1 _
      subst e1
      cases v <;> rfl
end L2
namespace L2
open PySem PySem.Spec PyProof.Rows
inductive V where
  | non | bl (b : Bool) | int (i : Int) | str (x : Str) | byt (b : Array UInt8) | flt (b : UInt64) | ref (a : Addr) | ty (n : String)
  deriving DecidableEq
def RelV : V → Value → Prop
  | .non, u => u = Value.none
  | .bl b, u => u = Value.bool b
  | .int i, u => ∃ t, u = Value.int i t
  | .str x, u => ∃ t, u = Value.str x t
  | .byt b, u => ∃ t, u = Value.bytes b t
  | .flt b, u => ∃ t, u = Value.float b t
  | .ref a, u => u = Value.ref a
  | .ty n, u => u = Value.type n
abbrev Vals : List V → List Value → Prop := Paired RelV
theorem Vals.length {xs : List V} {us : List Value} (r : Vals xs us) : xs.length = us.length := Paired.length r
theorem Vals.get : ∀ {xs : List V} {us : List Value} {i : Nat} {x : V}, Vals xs us → xs[i]? = some x → ∃ u, us[i]? = some u ∧ RelV x u
  | _, _, _, _, .nil, e => by simp at e
  | _, _, 0, _, .cons r _, e => by simp at e; subst e; exact ⟨_, rfl, r⟩
  | _, _, i + 1, x, .cons _ t, e => by
    obtain ⟨u, h1, h2⟩ := Vals.get (i := i) (x := x) t (by simpa using e)
    exact ⟨u, by simpa using h1, h2⟩
theorem Vals.set {x : V} {u : Value} (r : RelV x u) : ∀ {xs : List V} {us : List Value} (i : Nat), Vals xs us → Vals (xs.set i x) (us.set i u)
  | _, _, _, .nil => .nil
  | _, _, 0, .cons _ t => .cons r t
  | _, _, i + 1, .cons q t => .cons q (Vals.set r i t)
theorem Vals.append : ∀ {xs ys : List V} {us ws : List Value}, Vals xs us → Vals ys ws → Vals (xs ++ ys) (us ++ ws)
  | _, _, _, _, .nil, s => s
  | _, _, _, _, .cons r t, s => .cons r (Vals.append t s)
theorem Vals.take : ∀ {xs : List V} {us : List Value} (n : Nat), Vals xs us → Vals (xs.take n) (us.take n)
  | _, _, 0, _ => .nil
  | _, _, _ + 1, .nil => .nil
  | _, _, n + 1, .cons r t => .cons r (Vals.take n t)
theorem Vals.drop : ∀ {xs : List V} {us : List Value} (n : Nat), Vals xs us → Vals (xs.drop n) (us.drop n)
  | _, _, 0, r => r
  | _, _, _ + 1, .nil => .nil
  | _, _, n + 1, .cons _ t => Vals.drop n t
def RelO : Option V → Option Value → Prop
  | some v, some u => RelV v u
  | none, none => True
  | _, _ => False
def KV {κ : Type} : List (κ × V) → List (κ × Value) → Prop := Paired fun (p : κ × V) (q : κ × Value) => p.1 = q.1 ∧ RelV p.2 q.2
def kV : Key → V
  | .inl i => .int i
  | .inr x => .str x
inductive HO where
  
  | lst (xs : List V)
  
  | tup (xs : List V)
  
  | dK (kvs : List (Key × V)) | dT (kvs : List (List Key × V))
  
  | set (S : Int → Bool) (n : Nat)
  
  | ins (C dx : Addr) (fs : List (Str × V))
  
  | own (x : Addr)
  
  | xd (fs : List (Str × V))
  
  | met (f x : Addr)
  
  | rng (lo hi : Int)
  
  | frz (o : Obj) (u : HO)
  
  | tbl (ps : Array Value)
  
  | ext (φ : Heap → Prop)
abbrev Hp := Addr → Option HO
def upd (H : Hp) (a : Addr) (o : HO) : Hp := fun b => if b = a then some o else H b
theorem upd_same {H : Hp} {a : Addr} {o : HO} : upd H a o a = some o := by unfold upd; rw [if_pos rfl]
theorem upd_ne {H : Hp} {a b : Addr} {o : HO} (h : b ≠ a) : upd H a o b = H b := by unfold upd; rw [if_neg h]
theorem upd_upd {H : Hp} {a : Addr} {o u : HO} : upd (upd H a o) a u = upd H a u := by
  funext b; unfold upd; split <;> rfl
theorem ne_of {H : Hp} {a b : Addr} {o u : HO} (h : H a = some o) (h' : H b = some u) (d : o ≠ u) : a ≠ b := by
  intro e; subst e; rw [h] at h'; exact d (Option.some.inj h')
theorem ne_of_none {H : Hp} {a b : Addr} {o : HO} (h : H a = some o) (h' : H b = none) : a ≠ b := by
  intro e; subst e; rw [h] at h'; cases h'
section
variable (P : Program) (w : World)
def ObjOk (H : Hp) (h : Heap) (a : Addr) : HO → Prop
  | .lst xs => xs.length ≤ sizeLine ∧ ∃ (its : List Value) (n : Nat), Vals xs its ∧ h.get? a = some { cls := .type "list", data := .seq its.toArray n }
  | .tup xs => xs.length ≤ sizeLine ∧ ∃ its : List Value, Vals xs its ∧ IsTup h a its.toArray
  | .dK kvs => kvs.length ≤ sizeLine ∧ (a == sysModules) = false ∧ ∃ vs, KV kvs vs ∧ h.DictOf (mixKind P w) a vs
  | .dT kvs => kvs.length ≤ sizeLine ∧ (a == sysModules) = false ∧ ∃ xs : List (List Key × Addr × Value),
      Paired (fun (p : List Key × V) (q : List Key × Addr × Value) => p.1 = q.1 ∧ H q.2.1 = some (.tup (p.1.map kV)) ∧ RelV p.2 q.2.2) kvs xs ∧
      ∃ o es ep, h.get? a = some o ∧ o.ExactDict ∧ o.data = .dict es ep ∧ es.toList = xs.map (entryOfKey (tupleKind (mixKind P w))) ∧ (xs.map (·.1)).Nodup
  | .set S n => h.SetOf (intKind P w) a S n
  | .ins C dx fs => H dx = some (.own a) ∧ fs.length ≤ 1000 ∧ dx ≠ a ∧ h.get? a = some (PySem.W.instObj C dx) ∧
      ∃ mA, h.Ns1 dx mA ∧ (∀ f, RelO (fs.lookup f) (mA f)) ∧ PySem.Within mA (fs.map (·.1))
  | .own _ => ∃ o, h.get? a = some o
  | .xd fs => ∃ mA, h.Ns1 a mA ∧ ∀ f, RelO (fs.lookup f) (mA f)
  | .rng lo hi => ∃ t u v, h.get? a = some { cls := .type "range", data := .fields #[.int lo t, .int hi u, .int 1 v] }
  | .frz o u => h.get? a = some o ∧ ObjOk H h a u
  | .tbl ps => h.get? a = some { cls := .none, data := .fields ps }
  | .met f x => h.get? a = some (PySem.W.methodObj (.ref f) (.ref x))
  | .ext φ => φ h ∧ (∃ o, h.get? a = some o) ∧ ∀ h1 h2 : Heap, φ h1 → (∀ o, h1.get? a = some o → h2.get? a = some o) → φ h2
def HOk (H : Hp) (h : Heap) : Prop := ∀ a o, H a = some o → ObjOk P w H h a o
end
section
variable {P : Program} {w : World} {H H' : Hp} {h h' : Heap} {a : Addr} {o : HO}
theorem ObjOk.lt (x : ObjOk P w H h a o) : a < h.objs.size := by
  cases o with
  | lst xs => obtain ⟨_, _, _, _, e⟩ := x; exact Heap.lt_size e
  | tup xs => obtain ⟨_, _, _, p⟩ := x; exact p.lt
  | dK kvs => obtain ⟨_, _, _, _, o, _, _, e, _⟩ := x; exact Heap.lt_size e
  | dT kvs => obtain ⟨_, _, _, _, o, _, _, e, _⟩ := x; exact Heap.lt_size e
  | set S n => obtain ⟨o, _, _, _, e, _⟩ := x; exact Heap.lt_size e
  | ins C dx fs => obtain ⟨_, _, _, e, _⟩ := x; exact Heap.lt_size e
  | own y => obtain ⟨_, e⟩ := x; exact Heap.lt_size e
  | xd fs => obtain ⟨_, ⟨_, _, _, e, _⟩, _⟩ := x; exact Heap.lt_size e
  | rng lo hi => obtain ⟨_, _, _, e⟩ := x; exact Heap.lt_size e
  | frz ob u => obtain ⟨e, _⟩ := x; exact Heap.lt_size e
  | tbl ps => exact Heap.lt_size (show h.get? a = some _ from x)
  | met f y => exact Heap.lt_size (show h.get? a = some _ from x)
  | ext φ => obtain ⟨_, ⟨_, e⟩, _⟩ := x; exact Heap.lt_size e
theorem Paired.mapP {α β : Type} {F G : α → β → Prop} : ∀ {l₁ : List α} {l₂ : List β}, Paired F l₁ l₂ → (∀ a b, F a b → G a b) → Paired G l₁ l₂
  | _, _, .nil, _ => .nil
  | _, _, .cons r t, f => .cons (f _ _ r) (Paired.mapP t f)
theorem ObjOk.stay (x : ObjOk P w H h a o) (k : ∀ b u, (b = a ∨ H b = some (.own a)) → h.get? b = some u → h'.get? b = some u)
    (ho : ∀ b, H b = some (.own a) → H' b = some (.own a)) (ht : ∀ b xs, H b = some (.tup xs) → H' b = some (.tup xs)) : ObjOk P w H' h' a o := by
  induction o with
  | lst xs => obtain ⟨z, its, n, r, e⟩ := x; exact ⟨z, its, n, r, k _ _ (.inl rfl) e⟩
  | tup xs => obtain ⟨z, its, r, ob, e, c⟩ := x; exact ⟨z, its, r, ob, k _ _ (.inl rfl) e, c⟩
  | dK kvs => obtain ⟨z, y, vs, r, ob, es, ep, e, c⟩ := x; exact ⟨z, y, vs, r, ob, es, ep, k _ _ (.inl rfl) e, c⟩
  | dT kvs =>
    obtain ⟨z, y, xs, r, ob, es, ep, e, c⟩ := x
    exact ⟨z, y, xs, Paired.mapP r fun p q z => ⟨z.1, ht _ _ z.2.1, z.2.2⟩, ob, es, ep, k _ _ (.inl rfl) e, c⟩
  | set S n => obtain ⟨ob, es, ep, t, e, c⟩ := x; exact ⟨ob, es, ep, t, k _ _ (.inl rfl) e, c⟩
  | ins C dx fs =>
    obtain ⟨d, z, ne, e, mA, ⟨od, es, ep, e2, c⟩, r⟩ := x
    exact ⟨ho _ d, z, ne, k _ _ (.inl rfl) e, mA, ⟨od, es, ep, k _ _ (.inr d) e2, c⟩, r⟩
  | own y => obtain ⟨ob, e⟩ := x; exact ⟨ob, k _ _ (.inl rfl) e⟩
  | xd fs => obtain ⟨mA, ⟨od, es, ep, e, c⟩, r⟩ := x; exact ⟨mA, ⟨od, es, ep, k _ _ (.inl rfl) e, c⟩, r⟩
  | rng lo hi => obtain ⟨t, u, v, e⟩ := x; exact ⟨t, u, v, k _ _ (.inl rfl) e⟩
  | frz ob u ih => obtain ⟨e, q⟩ := x; exact ⟨k _ _ (.inl rfl) e, ih q⟩
  | tbl ps =>
    have e : h.get? a = some { cls := .none, data := .fields ps } := x
    show h'.get? a = some { cls := .none, data := .fields ps }
    exact k a _ (.inl rfl) e
  | met f y =>
    have e : h.get? a = some (PySem.W.methodObj (.ref f) (.ref y)) := x
    show h'.get? a = some (PySem.W.methodObj (.ref f) (.ref y))
    exact k a _ (.inl rfl) e
  | ext φ => obtain ⟨p, ⟨o, e⟩, st⟩ := x; exact ⟨st _ _ p fun o q => k _ _ (.inl rfl) q, ⟨o, k _ _ (.inl rfl) e⟩, st⟩
theorem HOk.lt (x : HOk P w H h) (e : H a = some o) : a < h.objs.size := (x a o e).lt
theorem HOk.fresh (x : HOk P w H h) (e : h.objs.size ≤ a) : H a = none := by
  cases q : H a with
  | none => rfl
  | some u => exact absurd (Nat.lt_of_lt_of_le (x.lt q) e) (Nat.lt_irrefl _)
theorem HOk.kept (x : HOk P w H h) (k : ∀ b u, h.get? b = some u → h'.get? b = some u) : HOk P w H h' := fun a o e =>
  (x a o e).stay (fun b u _ q => k b u q) (fun _ q => q) fun _ _ q => q
theorem HOk.laid (x : HOk P w H h) (k : ∀ b u, h.get? b = some u → h'.get? b = some u) (hp : h.objs.size ≤ a) (new : ObjOk P w (upd H a o) h' a o) : HOk P w (upd H a o) h' := fun b u e => by
  have hn := x.fresh hp
  by_cases hb : b = a
  · subst hb; rw [upd_same] at e; cases e; exact new
  · rw [upd_ne hb] at e
    exact (x b u e).stay (fun c v _ q => k c v q) (fun c q => by rw [upd_ne (ne_of_none q hn)]; exact q) fun c xs q => by rw [upd_ne (ne_of_none q hn)]; exact q
end
def Rd (H : Hp) (a : Addr) (u : HO) : Prop := H a = some u ∨ ∃ o, H a = some (.frz o u)
theorem Rd.of {H : Hp} {a : Addr} {u : HO} (h : H a = some u) : Rd H a u := .inl h
theorem Rd.ok {P : Program} {w : World} {H : Hp} {h : Heap} {a : Addr} {u : HO} (r : Rd H a u) (x : HOk P w H h) : ObjOk P w H h a u := by
  rcases r with r | ⟨o, r⟩
  · exact x a u r
  · obtain ⟨_, q⟩ := x a _ r
    exact q
def Mut : Option HO → Prop
  | some (.lst _) => True
  | some (.dK _) => True
  | some (.dT _) => True
  | some (.set _ _) => True
  | some (.ins _ _ _) => True
  | some (.ext _) => True
  | _ => False
section
variable {P : Program} {w : World} {H : Hp} {h h' : Heap} {x e : Addr} {o' : HO}
theorem HOk.write (ok : HOk P w H h) (mu : Mut (H x)) (he : e = x ∨ H e = some (.own x)) (k : ∀ b u, b ≠ e → h.get? b = some u → h'.get? b = some u) (heo : ∃ u, h'.get? e = some u)
    (new : ObjOk P w (upd H x o') h' x o') : HOk P w (upd H x o') h' := fun b u q => by
  have nown : ∀ c y, H c = some (.own y) → c ≠ x := fun c y r z => by subst z; rw [r] at mu; exact mu
  have ntup : ∀ c xs, H c = some (.tup xs) → c ≠ x := fun c xs r z => by subst z; rw [r] at mu; exact mu
  by_cases hb : b = x
  · subst hb; rw [upd_same] at q; cases q; exact new
  · rw [upd_ne hb] at q
    by_cases hbe : b = e
    · have q' : H b = some (.own x) := by
        rcases he with z | z
        · exact absurd (hbe.trans z) hb
        · rw [hbe]; exact z
      rw [q] at q'; cases q'
      obtain ⟨v, hv⟩ := heo
      exact ⟨v, by rw [hbe]; exact hv⟩
    · refine (ok b u q).stay (fun c v hc r => k c v ?_ r) (fun c r => by rw [upd_ne (nown c b r)]; exact r) fun c xs r => by rw [upd_ne (ntup c xs r)]; exact r
      rcases hc with rfl | hc
      · exact hbe
      · rintro rfl
        rcases he with z | z
        · exact nown c b hc z
        · rw [hc] at z; cases z; exact hb rfl
end
structure Un (fs ex : List Addr) (H H' : Hp) (h h' : Heap) : Prop where
  keep : ∀ b o, h.get? b = some o → H b = none → b ∉ fs → b ∉ ex → h'.get? b = some o
  slot : ∀ b o, h.get? b = some o → H b = none → b ∈ fs → b ∉ ex → ∃ sl, h'.get? b = some { o with slots := sl }
  free : ∀ b o, h.get? b = some o → H b = none → b ∉ ex → H' b = none
  there : ∀ b o, h.get? b = some o → b ∉ ex → ∃ o', h'.get? b = some o'
  tups : ∀ b xs, H b = some (.tup xs) → H' b = some (.tup xs)
  frzs : ∀ b o u, H b = some (.frz o u) → H' b = some (.frz o u)
  tbls : ∀ b ps, H b = some (.tbl ps) → ∃ more, H' b = some (.tbl (ps ++ more))
section
variable {fs fs' ex ex' : List Addr} {H H1 H2 : Hp} {h h1 h2 h' : Heap} {a x e : Addr} {o : HO}
theorem Un.any (u : Un fs ex H H1 h h1) {b : Addr} {ob : Obj} (q : h.get? b = some ob) (n : H b = none) (hx : b ∉ ex) : ∃ sl, h1.get? b = some { ob with slots := sl } := by
  by_cases hb : b ∈ fs
  · exact u.slot b ob q n hb hx
  · exact ⟨ob.slots, u.keep b ob q n hb hx⟩
theorem Un.trans (a : Un fs ex H H1 h h1) (b : Un fs ex H1 H2 h1 h2) : Un fs ex H H2 h h2 where
  keep := fun c ob q n hc hx => b.keep c ob (a.keep c ob q n hc hx) (a.free c ob q n hx) hc hx
  slot := fun c ob q n hc hx => by
    obtain ⟨sl, e1⟩ := a.slot c ob q n hc hx
    obtain ⟨sl', e2⟩ := b.slot c _ e1 (a.free c ob q n hx) hc hx
    exact ⟨sl', e2⟩
  free := fun c ob q n hx => by
    obtain ⟨o', e1⟩ := a.there c ob q hx
    exact b.free c o' e1 (a.free c ob q n hx) hx
  there := fun c ob q hx => by
    obtain ⟨o', e1⟩ := a.there c ob q hx
    exact b.there c o' e1 hx
  tups := fun c xs q => b.tups c xs (a.tups c xs q)
  frzs := fun c ob xs q => b.frzs c ob xs (a.frzs c ob xs q)
  tbls := fun c ps q => by
    obtain ⟨m1, e1⟩ := a.tbls c ps q
    obtain ⟨m2, e2⟩ := b.tbls c _ e1
    exact ⟨m1 ++ m2, by rw [e2, Array.append_assoc]⟩
theorem Un.kept (k : ∀ b u, h.get? b = some u → h'.get? b = some u) : Un fs ex H H h h' :=
  ⟨fun b ob q _ _ _ => k b ob q, fun b ob q _ _ _ => ⟨ob.slots, k b ob q⟩, fun _ _ _ n _ => n, fun b ob q _ => ⟨ob, k b ob q⟩, fun _ _ q => q, fun _ _ _ q => q, fun _ ps q => ⟨#[], by rw [q]; simp⟩⟩
theorem Un.refl : Un fs ex H H h h := Un.kept fun _ _ q => q
theorem Un.laid (k : ∀ b u, h.get? b = some u → h'.get? b = some u) (hp : h.objs.size ≤ a) (hn : H a = none) : Un fs ex H (upd H a o) h h' where
  keep := fun b u q _ _ _ => k b u q
  slot := fun b u q _ _ _ => ⟨u.slots, k b u q⟩
  free := fun b u q n _ => by rw [upd_ne (Nat.ne_of_lt (Nat.lt_of_lt_of_le (Heap.lt_size q) hp))]; exact n
  there := fun b u q _ => ⟨u, k b u q⟩
  tups := fun b xs q => by rw [upd_ne (ne_of_none q hn)]; exact q
  frzs := fun b u xs q => by rw [upd_ne (ne_of_none q hn)]; exact q
  tbls := fun b ps q => ⟨#[], by rw [upd_ne (ne_of_none q hn), q]; simp⟩
theorem Un.write (mu : Mut (H x)) (he : e = x ∨ H e = some (.own x)) (k : ∀ b u, b ≠ e → h.get? b = some u → h'.get? b = some u) (heo : ∃ u, h'.get? e = some u) : Un fs ex H (upd H x o) h h' := by
  have hx : ∀ b, H b = none → b ≠ x := fun b n z => by subst z; rw [n] at mu; exact mu
  have hb : ∀ b, H b = none → b ≠ e := fun b n z => by
    subst z
    rcases he with r | r
    · exact hx b n r
    · rw [n] at r; cases r
  have hm : ∀ b u, H b = some u → ¬ Mut (some u) → b ≠ x := fun b u q nm z => by subst z; rw [q] at mu; exact nm mu
  refine ⟨fun b u q n _ _ => k b u (hb b n) q, fun b u q n _ _ => ⟨u.slots, k b u (hb b n) q⟩, fun b u q n _ => by rw [upd_ne (hx b n)]; exact n, fun b u q _ => ?_,
    fun b xs q => by rw [upd_ne (hm b _ q fun z => z)]; exact q, fun b u xs q => by rw [upd_ne (hm b _ q fun z => z)]; exact q, fun b ps q => ⟨#[], by rw [upd_ne (hm b _ q fun z => z), q]; simp⟩⟩
  by_cases hbe : b = e
  · subst hbe; exact heo
  · exact ⟨u, k b u hbe q⟩
theorem Un.mono (u : Un fs ex H H1 h h1) (hs : ∀ b ∈ fs, b ∈ fs') (hx : ∀ b ∈ ex, b ∈ ex') : Un fs' ex' H H1 h h1 :=
  ⟨fun b ob q n hb he => u.keep b ob q n (fun z => hb (hs b z)) fun z => he (hx b z), fun _ _ q n _ he => u.any q n fun z => he (hx _ z), fun b ob q n he => u.free b ob q n fun z => he (hx b z), fun b ob q he => u.there b ob q fun z => he (hx b z), u.tups, u.frzs, u.tbls⟩
end
def trk (h : Heap) (H : Hp) : List Addr := (List.range h.objs.size).filter fun a => (H a).isSome
def hidT (h : Heap) (H : Hp) : Heap := PySem.W.hideAll h (trk h H)
theorem hidT_size (h : Heap) (H : Hp) : (hidT h H).objs.size = h.objs.size := PySem.W.hideAll_size _ _
theorem hidT_get {h : Heap} {H : Hp} {b : Addr} {o : Obj} (e : h.get? b = some o) (n : H b = none) : (hidT h H).get? b = some o :=
  PySem.W.hideAll_get _ e fun hm => by
    have q : (H b).isSome = true := (List.mem_filter.mp hm).2
    rw [n] at q; simp at q
theorem of_hidT {h : Heap} {H : Hp} {b : Addr} {o : Obj} (e : (hidT h H).get? b = some o) : h.get? b = some o ∧ H b = none := by
  have e' : h.get? b = some o := PySem.W.of_hideAll (trk h H) e
  refine ⟨e', ?_⟩
  cases q : H b with
  | none => rfl
  | some x =>
    have hm : b ∈ trk h H := List.mem_filter.mpr ⟨List.mem_range.mpr (Heap.lt_size e'), by simp [q]⟩
    have z : (hidT h H).get? b = none := PySem.W.hideAll_none (trk h H) hm
    rw [z] at e; cases e
def allNews (g h : Heap) (L : Addr) : List (Addr × Obj) := (List.range h.objs.size).filterMap fun a => if a = L ∨ (g.get? a).isSome = true then none else (h.get? a).map fun o => (a, o)
def rest (g h : Heap) (L d : Addr) : List (Addr × Obj) := (allNews g h L).filter fun p => decide (p.1 ≠ d)
end L2
namespace L2
open PySem PySem.Spec PyProof.Rows
structure Mod (K : PySem.W.Frag) (mg : Str → Option Value) (base : Heap) : Prop where
  kin : K.In base
  glob : base.Ns mainGlobals mg
  blt : ∃ mb, base.Ns builtinsNs mb ∧ ∀ x : Str, x ≠ "__name__" → mb x = bootBuiltins x
  nolimit : base.NoLimit
structure Cx where
  prog : Program
  w : World
  K : PySem.W.Frag
  mg : Str → Option Value
  base : Heap
  A : Around
  N : List Str
  s₀ : Shared
  H₀ : Hp
  env : Env
  outer : List Env
  stack : List Env
  ex : List Addr
  fn : Str → Bool
  calm : Bool
  pn : List (Addr × Obj)
  xe : Value → Shared → Prop
def frs (l : List Env) : List Addr := l.filterMap (·.frame)
abbrev Cx.fs (X : Cx) : List Addr := frs X.outer
def Vis (sc : Scope) (x : Str) : Prop := sc.names.lookup x = some .local ∨ sc.names.lookup x = some .cell ∨ sc.names.lookup x = some .free
def Loc (sc : Scope) (x : Str) : Prop := sc.names.lookup x = some .local ∨ sc.names.lookup x = some .cell
def Look (env : Env) (h : Heap) (m : Str → Option Value) (x : Str) (u : Value) : Prop :=
  (env.kindOf x = some .local ∧ m x = some u) ∨ ((env.kindOf x = some .cell ∨ env.kindOf x = some .free) ∧ ∃ c, env.cells.lookup x = some c ∧ h.IsCell c (some u))
structure Cx.Ok (X : Cx) : Prop where
  mod : Mod X.K X.mg X.base
  kind : X.env.scope.kind = .function
  glob : X.env.globals = mainGlobals
  blt : X.env.builtins = builtinsNs
  above : X.s₀.heap.objs.size ≤ X.env.locals
  inj : ∀ x y c, X.env.cells.lookup x = some c → X.env.cells.lookup y = some c → x = y
  has : ∀ x, (X.env.kindOf x = some .cell ∨ X.env.kindOf x = some .free) → ∃ c, X.env.cells.lookup x = some c
  cab : ∀ x c, X.fn x = true → X.env.cells.lookup x = some c → X.s₀.heap.objs.size ≤ c
  hd : X.calm = true → X.A.handled = none
  frames : X.A.frames = some X.stack
  stk : X.stack = X.outer ∨ (X.stack = X.env :: X.outer ∧ X.env.frame = some X.env.locals)
  exf : ∀ b ∈ X.ex, b ≠ X.env.locals ∧ ∀ x c, X.env.cells.lookup x = some c → c ≠ b
  bs : ∀ b o, X.base.get? b = some o → X.s₀.heap.get? b = some o ∧ X.H₀ b = none
  bsz : X.base.objs.size ≤ X.s₀.heap.objs.size
  noex : ∀ b o, X.base.get? b = some o → b ∉ X.ex
  exfs : ∀ b ∈ X.ex, b ∉ X.fs
  funs : X.s₀.heap.FunFrames X.base X.outer
  frf : ∀ b ∈ X.fs, X.H₀ b = none
structure Inv (X : Cx) (pins : List (Addr × Obj)) (σ : List (Option V)) (H : Hp) (s : Shared) : Prop where
  ok : X.Ok
  os : s.os = X.s₀.os
  bare : AllBare s.gens
  base : Un X.fs X.ex X.H₀ H X.s₀.heap s.heap
  loc : ∃ m, s.heap.Ns X.env.locals m ∧ ∀ (i : Nat) (x : Str) (v : V), X.N[i]? = some x → σ[i]? = some (some v) → Vis X.env.scope x → ∃ u, RelV v u ∧ Look X.env s.heap m x u
  cell : ∀ x c, X.env.cells.lookup x = some c → ∃ v, s.heap.IsCell c v
  free : H X.env.locals = none
  freeC : ∀ x c, X.env.cells.lookup x = some c → H c = none
  pin : ∀ p ∈ X.pn ++ pins, s.heap.get? p.1 = some p.2 ∧ H p.1 = none ∧ p.1 ≠ X.env.locals ∧ p.1 ∉ X.fs ∧ ∀ v, p.2.data ≠ .cell v
  hok : HOk X.prog X.w H s.heap
  len : σ.length = X.N.length
section
variable {X : Cx} {pins : List (Addr × Obj)} {σ : List (Option V)} {H H' : Hp} {s : Shared} {h' : Heap}
theorem Cx.Ok.nofr (ok : X.Ok) {b : Addr} {o : Obj} (e : X.base.get? b = some o) : b ∉ X.fs := fun hb => by
  have := (ok.funs.mem hb).1
  rw [e] at this; cases this
theorem Inv.bs (I : Inv X pins σ H s) : ∀ b o, X.base.get? b = some o → s.heap.get? b = some o ∧ H b = none := fun b o e =>
  ⟨I.base.keep b o (I.ok.bs b o e).1 (I.ok.bs b o e).2 (I.ok.nofr e) (I.ok.noex b o e), I.base.free b o (I.ok.bs b o e).1 (I.ok.bs b o e).2 (I.ok.noex b o e)⟩
theorem Inv.bk (I : Inv X pins σ H s) : ∀ b o, X.base.get? b = some o → s.heap.get? b = some o := fun b o e => (I.bs b o e).1
theorem Inv.mod (I : Inv X pins σ H s) : Mod X.K X.mg X.base := I.ok.mod
theorem Inv.kIn (I : Inv X pins σ H s) : X.K.In s.heap := I.ok.mod.kin.keeps I.bk
theorem Inv.nolimit (I : Inv X pins σ H s) : s.heap.NoLimit := I.ok.mod.nolimit.keeps I.bk
theorem Inv.fr (I : Inv X pins σ H s) : ∃ m, Fr X.base X.env.locals s.heap m :=
  let ⟨m, hn, _⟩ := I.loc
  ⟨m, hn, I.bk, Nat.le_trans I.ok.bsz I.ok.above⟩
theorem Inv.lt (I : Inv X pins σ H s) : X.env.locals < s.heap.objs.size := let ⟨_, hn, _⟩ := I.loc; hn.lt
theorem Inv.sz (I : Inv X pins σ H s) : X.s₀.heap.objs.size ≤ s.heap.objs.size := Nat.le_trans I.ok.above (Nat.le_of_lt I.lt)
theorem Inv.nofs (I : Inv X pins σ H s) {a : Addr} (h : s.heap.objs.size ≤ a) : a ∉ X.fs := fun hb => by
  obtain ⟨_, o, ho, _⟩ := I.ok.funs.mem hb
  exact absurd (Nat.lt_of_lt_of_le (Heap.lt_size ho) (Nat.le_trans I.sz h)) (Nat.lt_irrefl _)
theorem Inv.cne (I : Inv X pins σ H s) : ∀ x c, X.env.cells.lookup x = some c → c ≠ X.env.locals := fun x c e z => by
  obtain ⟨v, o, ho, hd⟩ := I.cell x c e
  obtain ⟨m, ⟨o', es, ep, ho', hd', _⟩, _⟩ := I.loc
  rw [z, ho'] at ho; cases ho; rw [hd'] at hd; cases hd
theorem Inv.funs (I : Inv X pins σ H s) : s.heap.FunFrames X.base X.outer := by
  have all : ∀ (l : List Env), (∀ b ∈ frs l, b ∈ X.fs) → X.s₀.heap.FunFrames X.base l → s.heap.FunFrames X.base l := by
    intro l
    induction l with
    | nil => intro _ _; trivial
    | cons env r ih =>
      intro hs hl
      obtain ⟨hk, ⟨L, o, hf, hn, ho, hd⟩, hr⟩ := hl
      have hL : L ∈ X.fs := hs L (by unfold frs; rw [List.filterMap_cons, hf]; exact List.mem_cons_self)
      obtain ⟨sl, e⟩ := I.base.slot L o ho (I.ok.frf L hL) hL fun z => I.ok.exfs L z hL
      exact ⟨hk, ⟨L, _, hf, hn, e, hd⟩, ih (fun b hb => hs b (by unfold frs; rw [List.filterMap_cons, hf]; exact List.mem_cons_of_mem _ hb)) hr⟩
  exact all X.outer (fun _ hb => hb) I.ok.funs
theorem Inv.stack (I : Inv X pins σ H s) : s.heap.FunFrames X.base X.stack := by
  rcases I.ok.stk with e | ⟨e, hf⟩
  · rw [e]; exact I.funs
  · rw [e]
    obtain ⟨m, hn, _⟩ := I.loc
    refine .cons (by rw [I.ok.kind]; decide) hf hn ?_ I.funs
    exact Heap.get?_none_of_le (Nat.le_trans I.ok.bsz I.ok.above)
theorem Inv.stkSub (I : Inv X pins σ H s) : ∀ b ∈ frs X.stack, b ∈ X.env.locals :: X.fs := fun b hb => by
  rcases I.ok.stk with e | ⟨e, hf⟩
  · rw [e] at hb; exact List.mem_cons_of_mem _ hb
  · rw [e] at hb
    unfold frs at hb
    rw [List.filterMap_cons, hf] at hb
    exact hb
theorem Inv.stkFree (I : Inv X pins σ H s) : ∀ b ∈ frs X.stack, H b = none := fun b hb => by
  rcases List.mem_cons.mp (I.stkSub b hb) with e | hb
  · rw [e]; exact I.free
  · obtain ⟨_, o, ho, _⟩ := I.ok.funs.mem hb
    exact I.base.free b o ho (I.ok.frf b hb) fun z => I.ok.exfs b z hb
theorem Inv.step {g' : Array GenState} {t' : Nat} {d' : Drawn} {ch : List Addr} (I : Inv X pins σ H s)
    (hch : ∀ b ∈ ch, (b ∈ X.ex ∨ X.s₀.heap.objs.size ≤ b) ∧ b ≠ X.env.locals ∧ (∀ x c, X.env.cells.lookup x = some c → c ≠ b) ∧ ∀ p ∈ X.pn ++ pins, p.1 ≠ b)
    (keep : ∀ b o, b ≠ X.env.locals → b ∉ X.fs → b ∉ ch → s.heap.get? b = some o → H b = none → h'.get? b = some o)
    (slot : ∀ b o, b ≠ X.env.locals → b ∈ X.fs → b ∉ ch → s.heap.get? b = some o → H b = none → ∃ sl, h'.get? b = some { o with slots := sl }) (free : ∀ b o, b ∉ ch → s.heap.get? b = some o → H b = none → H' b = none)
    (there : ∀ b o, b ∉ ch → s.heap.get? b = some o → ∃ o', h'.get? b = some o')
    (tups : ∀ b xs, H b = some (.tup xs) → H' b = some (.tup xs)) (frzs : ∀ b o u, H b = some (.frz o u) → H' b = some (.frz o u)) (tbls : ∀ b ps, H b = some (.tbl ps) → ∃ more, H' b = some (.tbl (ps ++ more)))
    (ns : ∀ m, s.heap.Ns X.env.locals m → h'.Ns X.env.locals m) (hok : HOk X.prog X.w H' h') (hg : AllBare g') :
    Inv X pins σ H' { s with heap := h', gens := g', drawn := d', toks := t' } := by
  have neL : ∀ b o, X.s₀.heap.get? b = some o → b ≠ X.env.locals := fun b o e => Nat.ne_of_lt (Nat.lt_of_lt_of_le (Heap.lt_size e) I.ok.above)
  have neC : ∀ b o, X.s₀.heap.get? b = some o → b ∉ X.ex → b ∉ ch := fun b o e hx hb => by
    rcases (hch b hb).1 with z | z
    · exact hx z
    · exact absurd (Nat.lt_of_lt_of_le (Heap.lt_size e) z) (Nat.lt_irrefl _)
  have cellK : ∀ x c, X.env.cells.lookup x = some c → ∀ v, s.heap.IsCell c v → h'.IsCell c v := fun x c e v ⟨o, ho, hd⟩ => by
    have nch : c ∉ ch := fun z => (hch c z).2.2.1 x c e rfl
    by_cases hc : c ∈ X.fs
    · obtain ⟨sl, q⟩ := slot c o (I.cne x c e) hc nch ho (I.freeC x c e)
      exact ⟨_, q, hd⟩
    · exact ⟨o, keep c o (I.cne x c e) hc nch ho (I.freeC x c e), hd⟩
  refine ⟨I.ok, I.os, hg, ⟨fun b o e n hb hx => ?_, fun b o e n hb hx => ?_, fun b o e n hx => ?_, fun b o e hx => ?_, fun b xs e => tups b xs (I.base.tups b xs e), fun b o xs e => frzs b o xs (I.base.frzs b o xs e), fun b ps e => ?_⟩, ?_, fun x c e => ?_, ?_, fun x c e => ?_, fun p hp => ?_, hok, I.len⟩
  · exact keep b o (neL b o e) hb (neC b o e hx) (I.base.keep b o e n hb hx) (I.base.free b o e n hx)
  · obtain ⟨sl, e1⟩ := I.base.slot b o e n hb hx
    obtain ⟨sl', e2⟩ := slot b _ (neL b o e) hb (neC b o e hx) e1 (I.base.free b o e n hx)
    exact ⟨sl', e2⟩
  · obtain ⟨o', e1⟩ := I.base.there b o e hx
    exact free b o' (neC b o e hx) e1 (I.base.free b o e n hx)
  · obtain ⟨o', e1⟩ := I.base.there b o e hx
    exact there b o' (neC b o e hx) e1
  · obtain ⟨m1, e1⟩ := I.base.tbls b ps e
    obtain ⟨m2, e2⟩ := tbls b _ e1
    exact ⟨m1 ++ m2, by rw [e2, Array.append_assoc]⟩
  · obtain ⟨m, hn, hl⟩ := I.loc
    refine ⟨m, ns m hn, fun i x v e1 e2 e3 => ?_⟩
    obtain ⟨u, r, l⟩ := hl i x v e1 e2 e3
    refine ⟨u, r, ?_⟩
    rcases l with l | ⟨k, c, e, z⟩
    · exact .inl l
    · exact .inr ⟨k, c, e, cellK x c e _ z⟩
  · obtain ⟨v, z⟩ := I.cell x c e
    exact ⟨v, cellK x c e v z⟩
  · obtain ⟨m, ⟨o, _, _, ho, _⟩, _⟩ := I.loc
    exact free _ o (fun z => (hch _ z).2.1 rfl) ho I.free
  · obtain ⟨v, o, ho, hd⟩ := I.cell x c e
    exact free c o (fun z => (hch c z).2.2.1 x c e rfl) ho (I.freeC x c e)
  · obtain ⟨e, n, ne, nf, d⟩ := I.pin p hp
    have nch : p.1 ∉ ch := fun z => (hch p.1 z).2.2.2 p hp rfl
    exact ⟨keep p.1 p.2 ne nf nch e n, free p.1 p.2 nch e n, ne, nf, d⟩
theorem Inv.un {t' : Nat} (I : Inv X pins σ H s) (u : Un X.fs [] H H' s.heap h') (hok : HOk X.prog X.w H' h') : Inv X pins σ H' { s with heap := h', toks := t' } := by
  obtain ⟨m, ⟨o, es, ep, ho, r⟩, _⟩ := id I.loc
  obtain ⟨sl, hL⟩ := u.any ho I.free (by simp)
  exact I.step (g' := s.gens) (d' := s.drawn) (ch := []) (fun _ z => nomatch z) (fun b o _ hb _ e n => u.keep b o e n hb (by simp)) (fun b o _ hb _ e n => u.slot b o e n hb (by simp)) (fun b o _ e n => u.free b o e n (by simp)) (fun b o _ e => u.there b o e (by simp)) u.tups u.frzs u.tbls (fun m' hm => by
    obtain ⟨o', es', ep', ho', r'⟩ := hm
    rw [ho] at ho'; cases ho'
    exact ⟨_, es', ep', hL, r'⟩) hok I.bare
theorem Inv.call {g' : Array GenState} {t' : Nat} {d' : Drawn} {ch : List Addr} (I : Inv X pins σ H s) (u : Un (frs X.stack) ch H H' s.heap h') (hok : HOk X.prog X.w H' h') (hg : AllBare g')
    (hch : ∀ b ∈ ch, (b ∈ X.ex ∨ X.s₀.heap.objs.size ≤ b) ∧ b ≠ X.env.locals ∧ (∀ x c, X.env.cells.lookup x = some c → c ≠ b) ∧ ∀ p ∈ X.pn ++ pins, p.1 ≠ b) :
    Inv X pins σ H' { s with heap := h', gens := g', drawn := d', toks := t' } := by
  obtain ⟨m, ⟨o, es, ep, ho, r⟩, _⟩ := id I.loc
  obtain ⟨sl, hL⟩ := u.any ho I.free fun z => (hch _ z).2.1 rfl
  exact I.step (ch := ch) hch (fun b o hL hb hc e n => u.keep b o e n (fun z => (List.mem_cons.mp (I.stkSub b z)).elim hL hb) hc) (fun b o _ _ hc e n => u.any e n hc) (fun b o hc e n => u.free b o e n hc) (fun b o hc e => u.there b o e hc) u.tups u.frzs u.tbls (fun m' hm => by
    obtain ⟨o', es', ep', ho', r'⟩ := hm
    rw [ho] at ho'; cases ho'
    exact ⟨_, es', ep', hL, r'⟩) hok hg
theorem Inv.turned {t' : Nat} {it : Addr} (I : Inv X pins σ H s) (k : ∀ b o, b ≠ it → s.heap.get? b = some o → h'.get? b = some o) (hn : H it = none) (hL : it ≠ X.env.locals)
    (h1 : it ∈ X.ex ∨ X.s₀.heap.objs.size ≤ it) (h2 : ∀ x c, X.env.cells.lookup x = some c → c ≠ it) (h3 : ∀ p ∈ X.pn ++ pins, p.1 ≠ it) : Inv X pins σ H { s with heap := h', toks := t' } := by
  have nit : ∀ b u, H b = some u → b ≠ it := fun b u e z => by rw [z, hn] at e; cases e
  refine I.step (g' := s.gens) (d' := s.drawn) (ch := [it]) (fun b hb => ?_) (fun b o _ _ hc e _ => k b o (fun z => hc (by simp [z])) e) (fun b o _ _ hc e _ => ⟨o.slots, k b o (fun z => hc (by simp [z])) e⟩) (fun _ _ _ _ n => n)
    (fun b o hc e => ⟨o, k b o (fun z => hc (by simp [z])) e⟩) (fun _ _ e => e) (fun _ _ _ e => e) (fun b ps e => ⟨#[], by rw [e]; simp⟩) (fun m hm => ?_) (fun b u e => ?_) I.bare
  · have e : b = it := by simpa using hb
    subst e
    exact ⟨h1, hL, h2, h3⟩
  · obtain ⟨o, es, ep, ho, r⟩ := hm
    exact ⟨o, es, ep, k _ o (Ne.symm hL) ho, r⟩
  · refine (I.hok b u e).stay (fun c v hc q => k c v ?_ q) (fun _ q => q) fun _ _ q => q
    rcases hc with z | z
    · rw [z]; exact nit b u e
    · exact nit c _ z
theorem Inv.tok (I : Inv X pins σ H s) (t : Nat) : Inv X pins σ H { s with toks := t } := I.un (h' := s.heap) (t' := t) Un.refl I.hok
theorem Inv.kept {t' : Nat} (I : Inv X pins σ H s) (k : ∀ b u, s.heap.get? b = some u → h'.get? b = some u) : Inv X pins σ H { s with heap := h', toks := t' } := I.un (Un.kept k) (I.hok.kept k)
theorem Inv.laid {a : Addr} {o : HO} {t' : Nat} (I : Inv X pins σ H s) (k : ∀ b u, s.heap.get? b = some u → h'.get? b = some u) (hp : s.heap.objs.size ≤ a) (new : ObjOk X.prog X.w (upd H a o) h' a o) :
    Inv X pins σ (upd H a o) { s with heap := h', toks := t' } := I.un (Un.laid k hp (I.hok.fresh hp)) (I.hok.laid k hp new)
theorem Inv.write {x e : Addr} {o : HO} {t' : Nat} (I : Inv X pins σ H s) (mu : Mut (H x)) (he : e = x ∨ H e = some (.own x)) (k : ∀ b u, b ≠ e → s.heap.get? b = some u → h'.get? b = some u) (heo : ∃ u, h'.get? e = some u)
    (new : ObjOk X.prog X.w (upd H x o) h' x o) : Inv X pins σ (upd H x o) { s with heap := h', toks := t' } := I.un (Un.write mu he k heo) (I.hok.write mu he k heo new)
theorem Inv.weak {σ' : List (Option V)} (I : Inv X pins σ H s) (hl : σ'.length = σ.length) (w : ∀ (i : Nat) v, σ'[i]? = some (some v) → σ[i]? = some (some v)) : Inv X pins σ' H s :=
  ⟨I.ok, I.os, I.bare, I.base, let ⟨m, hn, hl'⟩ := I.loc; ⟨m, hn, fun i x v e1 e2 e3 => hl' i x v e1 (w i v e2) e3⟩, I.cell, I.free, I.freeC, I.pin, I.hok, hl.trans I.len⟩
theorem Inv.pins_of {pins' : List (Addr × Obj)} (I : Inv X pins σ H s) (h : ∀ p ∈ pins', s.heap.get? p.1 = some p.2 ∧ H p.1 = none ∧ p.1 ≠ X.env.locals ∧ p.1 ∉ X.fs ∧ ∀ v, p.2.data ≠ .cell v) : Inv X pins' σ H s :=
  ⟨I.ok, I.os, I.bare, I.base, I.loc, I.cell, I.free, I.freeC, fun p hp => (List.mem_append.mp hp).elim (fun z => I.pin p (List.mem_append_left _ z)) (h p), I.hok, I.len⟩
theorem nodup_ix {N : List Str} (hN : N.Nodup) {i j : Nat} {x : Str} (a : N[i]? = some x) (b : N[j]? = some x) : i = j := by
  obtain ⟨h1, e1⟩ := List.getElem?_eq_some_iff.mp a
  obtain ⟨h2, e2⟩ := List.getElem?_eq_some_iff.mp b
  exact (List.getElem_inj hN).mp (e1.trans e2.symm)
theorem store_ok2 {M : Model} {A : Around} {E : Value → Shared → Prop} {i : Nat} {x : Str} {v : V} {u : Value} {Q : Unit → Shared → Prop} (I : Inv X pins σ H s) (hN : X.N.Nodup) (hi : X.N[i]? = some x) (hx : Loc X.env.scope x) (r : RelV v u)
    (h : ∀ s', Inv X pins (σ.set i (some v)) H s' → (∃ a, Heap.SameBut a s.heap s'.heap ∧ (a = X.env.locals ∨ X.env.cells.lookup x = some a)) → Q () s') (hf : X.fn x = true ∨ X.env.scope.names.lookup x = some .local := by first | exact .inl rfl | exact .inr rfl | assumption) : wpAny M A (storeName X.env x u) Q E s := by
  obtain ⟨m, hn, hl⟩ := id I.loc
  have hcls : (X.env.scope.kind == .class || (X.env.scope.kind == .module && X.env.locals != X.env.globals)) = false := by rw [I.ok.kind]; rfl
  have hiσ : i < σ.length := by rw [I.len]; exact (List.getElem?_eq_some_iff.mp hi).1
  have cne := I.cne
  have tracked : ∀ {a : Addr} {h' : Heap}, (∃ o, s.heap.get? a = some o ∧ H a = none) → Heap.SameBut a s.heap h' → HOk X.prog X.w H h' := fun {a h'} ha hs b ob e => by
    obtain ⟨_, _, hfree⟩ := ha
    refine (I.hok b ob e).stay (fun c w' hc q => (hs.2 c ?_).trans q) (fun _ q => q) fun _ _ q => q
    rintro rfl
    rcases hc with rfl | hc
    · rw [hfree] at e; cases e
    · rw [hfree] at hc; cases hc
  rcases hx with hk | hk
  · refine wpAny_storeName_local hk hn (fun h' hn' hs => ?_) hcls
    obtain ⟨oL, _, _, hoL, _⟩ := id hn
    refine h _ ⟨I.ok, I.os, I.bare, ⟨fun b o e n hb hx => ?_, fun b o e n hb hx => ?_, I.base.free, fun b o e hx => ?_, I.base.tups, I.base.frzs, I.base.tbls⟩, ⟨_, hn', fun j y v' e1 e2 e3 => ?_⟩, fun y c e => ?_, I.free, I.freeC, fun p hp => ?_, tracked ⟨oL, hoL, I.free⟩ hs, by simpa using I.len⟩ ⟨_, hs, .inl rfl⟩
    · exact (hs.2 b (Nat.ne_of_lt (Nat.lt_of_lt_of_le (Heap.lt_size e) I.ok.above))).trans (I.base.keep b o e n hb hx)
    · obtain ⟨sl, e1⟩ := I.base.slot b o e n hb hx
      exact ⟨sl, (hs.2 b (Nat.ne_of_lt (Nat.lt_of_lt_of_le (Heap.lt_size e) I.ok.above))).trans e1⟩
    · obtain ⟨o', e1⟩ := I.base.there b o e hx
      exact ⟨o', (hs.2 b (Nat.ne_of_lt (Nat.lt_of_lt_of_le (Heap.lt_size e) I.ok.above))).trans e1⟩
    · by_cases hj : j = i
      · subst hj
        rw [hi] at e1; cases e1
        rw [List.getElem?_set_self hiσ] at e2
        cases e2
        exact ⟨u, r, .inl ⟨hk, by simp⟩⟩
      · rw [List.getElem?_set_ne (Ne.symm hj)] at e2
        obtain ⟨u', r', q⟩ := hl j y v' e1 e2 e3
        refine ⟨u', r', ?_⟩
        rcases q with ⟨k, e⟩ | ⟨k, c, e, z⟩
        · refine .inl ⟨k, ?_⟩
          have : y ≠ x := fun e => hj (nodup_ix hN e1 (e ▸ hi))
          simp [this, e]
        · exact .inr ⟨k, c, e, z.sameBut hs (cne y c e)⟩
    · obtain ⟨w', z⟩ := I.cell y c e
      exact ⟨w', z.sameBut hs (cne y c e)⟩
    · obtain ⟨e, n, ne, nf, d⟩ := I.pin p hp
      exact ⟨(hs.2 p.1 ne).trans e, n, ne, nf, d⟩
  · have hfn : X.fn x = true := by
      rcases hf with z | z
      · exact z
      · rw [z] at hk; cases hk
    obtain ⟨c, hc⟩ := I.ok.has x (.inl hk)
    obtain ⟨w', z⟩ := I.cell x c hc
    refine wpAny_storeName_cell I.ok.kind hk hc z (fun h' hc' hs => ?_)
    obtain ⟨oc, hoc, hocd⟩ := id z
    refine h { s with heap := h' } ⟨I.ok, I.os, I.bare, ⟨fun b o e n hb hx => ?_, fun b o e n hb hx => ?_, I.base.free, fun b o e hx => ?_, I.base.tups, I.base.frzs, I.base.tbls⟩, ⟨m, hn.sameBut hs (Ne.symm (cne x c hc)), fun j y v' e1 e2 e3 => ?_⟩, fun y c' e => ?_, I.free, I.freeC, fun p hp => ?_, tracked ⟨oc, hoc, I.freeC x c hc⟩ hs, by simpa using I.len⟩ ⟨c, hs, .inr hc⟩
    · exact (hs.2 b (Nat.ne_of_lt (Nat.lt_of_lt_of_le (Heap.lt_size e) (I.ok.cab x c hfn hc)))).trans (I.base.keep b o e n hb hx)
    · obtain ⟨sl, e1⟩ := I.base.slot b o e n hb hx
      exact ⟨sl, (hs.2 b (Nat.ne_of_lt (Nat.lt_of_lt_of_le (Heap.lt_size e) (I.ok.cab x c hfn hc)))).trans e1⟩
    · obtain ⟨o', e1⟩ := I.base.there b o e hx
      exact ⟨o', (hs.2 b (Nat.ne_of_lt (Nat.lt_of_lt_of_le (Heap.lt_size e) (I.ok.cab x c hfn hc)))).trans e1⟩
    · by_cases hj : j = i
      · subst hj
        rw [hi] at e1; cases e1
        rw [List.getElem?_set_self hiσ] at e2
        cases e2
        exact ⟨u, r, .inr ⟨.inl hk, c, hc, hc'⟩⟩
      · rw [List.getElem?_set_ne (Ne.symm hj)] at e2
        obtain ⟨u', r', q⟩ := hl j y v' e1 e2 e3
        refine ⟨u', r', ?_⟩
        rcases q with q | ⟨k, c', e, z'⟩
        · exact .inl q
        · refine .inr ⟨k, c', e, z'.sameBut hs ?_⟩
          rintro rfl
          exact hj (nodup_ix hN e1 (I.ok.inj _ _ _ e hc ▸ hi))
    · by_cases hcc : c' = c
      · subst hcc; exact ⟨_, hc'⟩
      · obtain ⟨w2, z2⟩ := I.cell y c' e
        exact ⟨w2, z2.sameBut hs hcc⟩
    · obtain ⟨e, n, ne, nf, d⟩ := I.pin p hp
      refine ⟨(hs.2 p.1 ?_).trans e, n, ne, nf, d⟩
      intro q
      rw [q, hoc] at e
      have q' : oc = p.2 := Option.some.inj e
      exact d w' (by rw [← q']; exact hocd)
theorem store_ok {M : Model} {A : Around} {E : Value → Shared → Prop} {i : Nat} {x : Str} {v : V} {u : Value} {Q : Unit → Shared → Prop} (I : Inv X pins σ H s) (hN : X.N.Nodup) (hi : X.N[i]? = some x) (hx : Loc X.env.scope x) (r : RelV v u)
    (h : ∀ s', Inv X pins (σ.set i (some v)) H s' → Q () s') (hf : X.fn x = true ∨ X.env.scope.names.lookup x = some .local := by first | exact .inl rfl | exact .inr rfl | assumption) : wpAny M A (storeName X.env x u) Q E s :=
  store_ok2 I hN hi hx r (fun s' I' _ => h s' I') hf
theorem Inv.call' {s' : Shared} {ch : List Addr} (I : Inv X pins σ H s) (ho : s'.os = s.os) (u : Un (frs X.stack) ch H H' s.heap s'.heap) (hok : HOk X.prog X.w H' s'.heap) (hg : AllBare s'.gens)
    (hch : ∀ b ∈ ch, (b ∈ X.ex ∨ X.s₀.heap.objs.size ≤ b) ∧ b ≠ X.env.locals ∧ (∀ x c, X.env.cells.lookup x = some c → c ≠ b) ∧ ∀ p ∈ X.pn ++ pins, p.1 ≠ b) : Inv X pins σ H' s' := by
  obtain ⟨h', g', d', t', o'⟩ := s'
  have e : o' = s.os := ho
  subst e
  exact I.call (g' := g') (t' := t') (d' := d') u hok hg hch
end
abbrev XK := Value → Option Addr → Hp → Prop
abbrev St := List (Option V)
abbrev VK := V → Hp → Prop
abbrev TE := St → Hp → VK → Prop
abbrev TT := St → Hp → (Bool → Hp → Prop) → Prop
abbrev TA := St → Hp → (List V → Hp → Prop) → Prop
structure Ends where
  nx : St → Hp → Prop
  rt : VK
  bk : St → Hp → Prop := fun _ _ => False
  ct : St → Hp → Prop := fun _ _ => False
abbrev TS := Ends → St → Hp → Prop
def EP (X : Cx) (pins : List (Addr × Obj)) (σ : St) (Q : VK) (u : Value) (s' : Shared) : Prop := ∃ v H', Inv X pins σ H' s' ∧ RelV v u ∧ Q v H'
def TP (X : Cx) (pins : List (Addr × Obj)) (σ : St) (Q : Bool → Hp → Prop) (b : Bool) (s' : Shared) : Prop := ∃ H', Inv X pins σ H' s' ∧ Q b H'
def AP (X : Cx) (pins : List (Addr × Obj)) (σ : St) (Q : List V → Hp → Prop) (us : List Value) (s' : Shared) : Prop := ∃ vs H', Inv X pins σ H' s' ∧ Vals vs us ∧ Q vs H'
def SP (X : Cx) (pins : List (Addr × Obj)) (D : Ends) (f : Flow) (s' : Shared) : Prop :=
  match f with
  | .next => ∃ σ' H', Inv X pins σ' H' s' ∧ D.nx σ' H'
  | .brk => ∃ σ' H', Inv X pins σ' H' s' ∧ D.bk σ' H'
  | .cont => ∃ σ' H', Inv X pins σ' H' s' ∧ D.ct σ' H'
  | .ret u => ∃ v σ' H', Inv X pins σ' H' s' ∧ RelV v u ∧ D.rt v H'
def PE (X : Cx) (e : Expr) (t : TE) : Prop :=
  ∀ (pins : List (Addr × Obj)) (s : Shared) (σ : St) (H : Hp) (Q : VK), Inv X pins σ H s → t σ H Q → wpAny (model X.prog X.w) X.A (eval e X.env) (EP X pins σ Q) X.xe s
def PT (X : Cx) (e : Expr) (t : TT) : Prop :=
  ∀ (pins : List (Addr × Obj)) (s : Shared) (σ : St) (H : Hp) (Q : Bool → Hp → Prop), Inv X pins σ H s → t σ H Q → wpAny (model X.prog X.w) X.A (isTrue e X.env (eval e X.env)) (TP X pins σ Q) X.xe s
def PW (X : Cx) (e : Expr) (t : TT) : Prop :=
  ∀ (whole : Sem Value) (pins : List (Addr × Obj)) (s : Shared) (σ : St) (H : Hp) (Q : Bool → Hp → Prop), Inv X pins σ H s → t σ H Q → wpAny (model X.prog X.w) X.A (isTrue e X.env whole) (TP X pins σ Q) X.xe s
theorem PW.pt {X : Cx} {e : Expr} {t : TT} (h : PW X e t) : PT X e t := h _
def PA (X : Cx) (es : List Expr) (t : TA) : Prop :=
  ∀ (pos : Pos) (pins : List (Addr × Obj)) (s : Shared) (σ : St) (H : Hp) (Q : List V → Hp → Prop), Inv X pins σ H s → t σ H Q → wpAny (model X.prog X.w) X.A (spliced (backTo pos (starEach es X.env))) (AP X pins σ Q) X.xe s
def PS (X : Cx) (st : Stmt) (t : TS) : Prop :=
  ∀ (pins : List (Addr × Obj)) (s : Shared) (σ : St) (H : Hp) (D : Ends), Inv X pins σ H s → t D σ H → wpAny (model X.prog X.w) X.A (exec st X.env) (SP X pins D) X.xe s
def PSs (X : Cx) (st : List Stmt) (t : TS) : Prop :=
  ∀ (pins : List (Addr × Obj)) (s : Shared) (σ : St) (H : Hp) (D : Ends), Inv X pins σ H s → t D σ H → wpAny (model X.prog X.w) X.A (execs st X.env) (SP X pins D) X.xe s
theorem thn {α : Type} {t : Sem α} {Q Q' : α → Shared → Prop} {M : Model} {A : Around} {E : Value → Shared → Prop} {s : Shared} (h : wpAny M A t Q E s) (hQ : ∀ a s, Q a s → Q' a s) : wpAny M A t Q' E s := wpAny_mono h hQ fun _ _ x => x
end L2
namespace L2
open PySem PySem.Spec PyProof.Rows
section
variable {X : Cx}
def tVar (i : Nat) : TE := fun σ H Q => ∃ v, σ[i]? = some (some v) ∧ Q v H
def tC (v : V) : TE := fun _ H Q => Q v H
theorem pe_var {i : Nat} {x : Str} {pos : Pos} (hN : X.N[i]? = some x) (hv : Vis X.env.scope x) (hd : (x == ("__debug__" : Str)) = false := by decide) (hcd : (x == ("__classdict__" : Str)) = false := by decide) : PE X (.Name x pos) (tVar i) := by
  intro pins s σ H Q I h
  obtain ⟨v, e, h⟩ := h
  obtain ⟨m, hn, hl⟩ := I.loc
  obtain ⟨u, r, l⟩ := hl i x v hN e hv
  have fin : EP X pins σ Q u s := ⟨v, H, I, r, h⟩
  rcases l with ⟨hk, hm⟩ | ⟨hk, c, hc, hcell⟩
  · exact wpAny_Name (wpAny_loadName_local I.ok.kind hk hn hm fin) hd
  · rcases hk with hk | hk
    · exact wpAny_Name (wpAny_loadName_cell I.ok.kind hk hc hcell fin) hd
    · exact wpAny_Name (wpAny_loadName_free I.ok.kind hk hc hcell fin hcd) hd
theorem pe_int {i j pos} : PE X (.Constant (.int i) j pos) (tC (.int i)) := fun _ _ _ H _ I h => wpAny_Constant_int ⟨.int i, H, I.tok _, ⟨_, rfl⟩, h⟩
theorem pe_bl {b j pos} : PE X (.Constant (.bool b) j pos) (tC (.bl b)) := fun _ _ _ H _ I h => Constant_bool ⟨.bl b, H, I, rfl, h⟩
theorem pe_non {j pos} : PE X (.Constant .none j pos) (tC .non) := fun _ _ _ H _ I h => Constant_none ⟨.non, H, I, rfl, h⟩
theorem pe_str {x j pos} : PE X (.Constant (.str x) j pos) (tC (.str x)) := fun _ _ _ H _ I h => Calls.Constant_str ⟨.str x, H, I.tok _, ⟨_, rfl⟩, h⟩
def Gl (X : Cx) (x : Str) : Prop := X.env.kindOf x = some .globalImplicit
theorem ld_glob {E : Value → Shared → Prop} {pins : List (Addr × Obj)} {s : Shared} {σ : St} {H : Hp} {x : Str} {u : Value} {pos : Pos} {Q : Value → Shared → Prop} (I : Inv X pins σ H s) (hg : Gl X x) (hm : X.mg x = some u) (h : Q u s)
    (hd : (x == ("__debug__" : Str)) = false := by decide) : wpAny (model X.prog X.w) X.A (eval (.Name x pos) X.env) Q E s :=
  Calls.Name_function_global I.ok.kind hg (Calls.loadGlobal_global (by rw [I.ok.glob]; exact I.mod.glob.keeps I.bk) hm h) hd
theorem ld_blt {E : Value → Shared → Prop} {pins : List (Addr × Obj)} {s : Shared} {σ : St} {H : Hp} {x : Str} {u : Value} {pos : Pos} {Q : Value → Shared → Prop} (I : Inv X pins σ H s) (hg : Gl X x) (hm : X.mg x = none) (hv : bootBuiltins x = some u) (h : Q u s)
    (hn : x ≠ "__name__" := by decide) (hd : (x == ("__debug__" : Str)) = false := by decide) : wpAny (model X.prog X.w) X.A (eval (.Name x pos) X.env) Q E s := by
  obtain ⟨mb, h1, h2⟩ := I.mod.blt
  exact Calls.Name_function_global I.ok.kind hg (Calls.loadGlobal_builtin (by rw [I.ok.glob]; exact I.mod.glob.keeps I.bk) hm (by rw [I.ok.blt]; exact h1.keeps I.bk) ((h2 x hn).trans hv) h) hd
theorem pe_glob {x : Str} {v : V} {u : Value} {pos : Pos} (hg : Gl X x) (hm : X.mg x = some u) (r : RelV v u) (hd : (x == ("__debug__" : Str)) = false := by decide) : PE X (.Name x pos) (tC v) :=
  fun _ _ _ H _ I h => ld_glob I hg hm ⟨v, H, I, r, h⟩ hd
theorem pe_bltn {x : Str} {v : V} {u : Value} {pos : Pos} (hg : Gl X x) (hm : X.mg x = none) (hv : bootBuiltins x = some u) (r : RelV v u) (hn : x ≠ "__name__" := by decide) (hd : (x == ("__debug__" : Str)) = false := by decide) : PE X (.Name x pos) (tC v) :=
  fun _ _ _ H _ I h => ld_blt I hg hm hv ⟨v, H, I, r, h⟩ hn hd
variable {a b : Expr} {ta tb : TE} {pos : Pos}
def tB (t : TE) : TT := fun σ H Q => t σ H fun x H1 => ∃ c, x = .bl c ∧ Q c H1
theorem pt_val {e : Expr} {t : TE} (h : PE X e t) (he : ∀ whole, isTrue e X.env whole = (do let v ← whole; standAt e.pos; holding [v] (truthy v)) := by intro _; rfl) : PT X e (tB t) := by
  intro pins s σ H Q I hw
  refine isTrue_plain (thn (h pins s σ H _ I hw) fun v s1 ⟨x, H1, I1, r1, q1⟩ => ?_) (he _)
  obtain ⟨d, rfl, q⟩ := q1
  cases r1
  exact wpAny_truthy_bool ⟨H1, I1, q⟩
variable {tA tB' : TT} {rest : List Expr}
def tAnd (t u : TT) : TT := fun σ H Q => t σ H fun c H1 => if c = true then u σ H1 Q else Q false H1
def tOr (t u : TT) : TT := fun σ H Q => t σ H fun c H1 => if c = true then Q true H1 else u σ H1 Q
def tNot (t : TT) : TT := fun σ H Q => t σ H fun c H1 => Q (!c) H1
theorem pw_and1 (ha : PT X a tA) : PW X (.BoolOp .And [a] pos) tA := by
  intro wh pins s σ H Q I h
  refine isTrue_and (thn (ha pins s σ H Q I h) fun c s1 e => ?_)
  cases c with
  | true => exact isTrue_and_nil e
  | false => exact e
theorem pw_or1 (ha : PT X a tA) : PW X (.BoolOp .Or [a] pos) tA := by
  intro wh pins s σ H Q I h
  refine isTrue_or (thn (ha pins s σ H Q I h) fun c s1 e => ?_)
  cases c with
  | false => exact isTrue_or_nil e
  | true => exact e
theorem pw_and (ha : PT X a tA) (hb : PW X (.BoolOp .And (b :: rest) pos) tB') : PW X (.BoolOp .And (a :: b :: rest) pos) (tAnd tA tB') := by
  intro wh pins s σ H Q I h
  refine isTrue_and (thn (ha pins s σ H _ I h) fun c s1 ⟨H1, I1, q1⟩ => ?_)
  cases c with
  | true => exact hb wh pins s1 σ H1 Q I1 q1
  | false => exact ⟨H1, I1, q1⟩
theorem pw_or (ha : PT X a tA) (hb : PW X (.BoolOp .Or (b :: rest) pos) tB') : PW X (.BoolOp .Or (a :: b :: rest) pos) (tOr tA tB') := by
  intro wh pins s σ H Q I h
  refine isTrue_or (thn (ha pins s σ H _ I h) fun c s1 ⟨H1, I1, q1⟩ => ?_)
  cases c with
  | true => exact ⟨H1, I1, q1⟩
  | false => exact hb wh pins s1 σ H1 Q I1 q1
theorem pt_not (ha : PT X a tA) : PT X (.UnaryOp .Not a pos) (tNot tA) := by
  intro pins s σ H Q I h
  exact isTrue_not (ha pins s σ H (fun c H1 => Q (!c) H1) I h)
def tAndV (ta tb : TE) : TE := fun σ H Q => ta σ H fun x H1 => ∃ c, x = .bl c ∧ if c = true then tb σ H1 Q else Q (.bl false) H1
def tOrV (ta tb : TE) : TE := fun σ H Q => ta σ H fun x H1 => ∃ c, x = .bl c ∧ if c = true then Q (.bl true) H1 else tb σ H1 Q
def tNotV (ta : TE) : TE := fun σ H Q => ta σ H fun x H1 => ∃ c, x = .bl c ∧ Q (.bl (!c)) H1
theorem pe_one {op} {t : TE} (h : PE X a t) : PE X (.BoolOp op [a] pos) t := fun pins s σ H Q I hw => BoolOp_one (h pins s σ H Q I hw)
theorem pe_and (ha : PE X a ta) (hb : PE X (.BoolOp .And (b :: rest) pos) tb) : PE X (.BoolOp .And (a :: b :: rest) pos) (tAndV ta tb) := by
  intro pins s σ H Q I h
  refine BoolOp_and (thn (ha pins s σ H _ I h) fun v s1 ⟨x, H1, I1, r1, q1⟩ => ?_)
  obtain ⟨c, rfl, q1⟩ := q1
  cases r1
  refine wpAny_truthy_bool ?_
  cases c with
  | true => exact hb pins s1 σ H1 Q I1 q1
  | false => exact ⟨.bl false, H1, I1, rfl, q1⟩
theorem pe_not (ha : PE X a ta) : PE X (.UnaryOp .Not a pos) (tNotV ta) := by
  intro pins s σ H Q I h
  refine UnaryOp_ (thn (ha pins s σ H _ I h) fun v s1 ⟨x, H1, I1, r1, q1⟩ => ?_)
  obtain ⟨c, rfl, q1⟩ := q1
  cases r1
  exact not_of (wpAny_truthy_bool ⟨.bl (!c), H1, I1, rfl, q1⟩)
def tIf (t : TT) (ta tb : TE) : TE := fun σ H Q => t σ H fun c H1 => if c = true then ta σ H1 Q else tb σ H1 Q
theorem pe_ifExp {c : Expr} (hc : PT X c tA) (ha : PE X a ta) (hb : PE X b tb) : PE X (.IfExp c a b pos) (tIf tA ta tb) := by
  intro pins s σ H Q I h
  refine wpAny_IfExp (thn (hc pins s σ H _ I h) fun d s1 ⟨H1, I1, q1⟩ => ?_)
  cases d with
  | true => exact ha pins s1 σ H1 Q I1 q1
  | false => exact hb pins s1 σ H1 Q I1 q1
end
end L2
namespace L2
open PySem PySem.Spec PyProof.Rows
def SqL (K : PySem.W.Frag) (H : Hp) (a : Addr) (xs : List V) : Prop :=
  Rd H a (.lst xs) ∨
    ∃ (o : Obj) (its : Array Value) (n : Nat), K.lookup a = some o ∧ o.cls = .type "list" ∧ o.dict = none ∧ o.data = .seq its n ∧ its.size ≤ sizeLine ∧ Vals xs its.toList
def SqT (K : PySem.W.Frag) (H : Hp) (a : Addr) (xs : List V) : Prop :=
  Rd H a (.tup xs) ∨
    ∃ (o : Obj) (its : Array Value) (n : Nat), K.lookup a = some o ∧ o.cls = .type "tuple" ∧ o.data = .seq its n ∧ its.size ≤ sizeLine ∧ Vals xs its.toList
def absV : Value → Option V
  | .none => some .non
  | .bool b => some (.bl b)
  | .int i _ => some (.int i)
  | .str x _ => some (.str x)
  | .bytes b _ => some (.byt b)
  | .float b _ => some (.flt b)
  | .ref a => some (.ref a)
  | .type n => some (.ty n)
  | _ => none
theorem RelV.abs {x : V} {u : Value} (r : RelV x u) : absV u = some x := by
  cases x with
  | non => cases r; rfl
  | bl _ => cases r; rfl
  | int _ => obtain ⟨t, rfl⟩ := r; rfl
  | str _ => obtain ⟨t, rfl⟩ := r; rfl
  | byt _ => obtain ⟨t, rfl⟩ := r; rfl
  | flt _ => obtain ⟨t, rfl⟩ := r; rfl
  | ref _ => cases r; rfl
  | ty _ => cases r; rfl
theorem RelV.inj {x y : V} {u : Value} (r : RelV x u) (q : RelV y u) : x = y := Option.some.inj (r.abs.symm.trans q.abs)
theorem Vals.inj : ∀ {xs ys : List V} {us : List Value}, Vals xs us → Vals ys us → xs = ys
  | _, _, _, .nil, .nil => rfl
  | _, _, _, .cons r t, .cons r' t' => by rw [r.inj r', Vals.inj t t']
section
variable {X : Cx} {pins : List (Addr × Obj)} {σ : St} {H : Hp} {s : Shared} {a : Addr} {xs ys : List V}
theorem SqL.of {K : PySem.W.Frag} (h : H a = some (.lst xs)) : SqL K H a xs := .inl (.inl h)
theorem SqT.of {K : PySem.W.Frag} (h : H a = some (.tup xs)) : SqT K H a xs := .inl (.inl h)
theorem Inv.list (I : Inv X pins σ H s) (h : SqL X.K H a xs) : ∃ its : List Value, Vals xs its ∧ PlainL s.heap a its.toArray ∧ xs.length ≤ sizeLine := by
  rcases h with h | ⟨o, its, n, hk, hc, hd, hs, hz, r⟩
  · obtain ⟨z, its, n, r, e⟩ := h.ok I.hok
    exact ⟨its, r, ⟨_, n, e, rfl, rfl, rfl⟩, z⟩
  · refine ⟨its.toList, r, ⟨o, n, I.kIn a o hk, hc, hd, by simpa using hs⟩, ?_⟩
    have e := r.length
    simp only [Array.length_toList] at e
    omega
theorem Inv.tuple (I : Inv X pins σ H s) (h : SqT X.K H a xs) : ∃ its : List Value, Vals xs its ∧ IsTup s.heap a its.toArray ∧ xs.length ≤ sizeLine := by
  rcases h with h | ⟨o, its, n, hk, hc, hs, hz, r⟩
  · obtain ⟨z, its, r, p⟩ := h.ok I.hok
    exact ⟨its, r, p, z⟩
  · refine ⟨its.toList, r, ⟨o, I.kIn a o hk, hc, n, by simpa using hs⟩, ?_⟩
    have e := r.length
    simp only [Array.length_toList] at e
    omega
theorem Inv.list_inj (I : Inv X pins σ H s) (h : SqL X.K H a xs) (h' : SqL X.K H a ys) : xs = ys := by
  obtain ⟨its, r, ⟨o, n, e, _, _, d⟩, _⟩ := I.list h
  obtain ⟨its', r', ⟨o', n', e', _, _, d'⟩, _⟩ := I.list h'
  rw [e] at e'; cases e'
  rw [d] at d'
  injection d' with d1 _
  have : its = its' := by simpa using congrArg Array.toList d1
  subst this
  exact r.inj r'
theorem Inv.tuple_inj (I : Inv X pins σ H s) (h : SqT X.K H a xs) (h' : SqT X.K H a ys) : xs = ys := by
  obtain ⟨its, r, ⟨o, e, _, n, d⟩, _⟩ := I.tuple h
  obtain ⟨its', r', ⟨o', e', _, n', d'⟩, _⟩ := I.tuple h'
  rw [e] at e'; cases e'
  rw [d] at d'
  injection d' with d1 _
  have : its = its' := by simpa using congrArg Array.toList d1
  subst this
  exact r.inj r'
end
abbrev Cx.wish (X : Cx) (E : Value → Shared → Prop) : Cx := { X with xe := E }
abbrev Cx.nox (X : Cx) : Cx := X.wish fun _ _ => False
theorem Cx.Ok.wish {X : Cx} (ok : X.Ok) (E : Value → Shared → Prop) : (X.wish E).Ok :=
  ⟨ok.mod, ok.kind, ok.glob, ok.blt, ok.above, ok.inj, ok.has, ok.cab, ok.hd, ok.frames, ok.stk, ok.exf, ok.bs, ok.bsz, ok.noex, ok.exfs, ok.funs, ok.frf⟩
theorem Cx.Ok.unwish {X : Cx} {E : Value → Shared → Prop} (ok : (X.wish E).Ok) : X.Ok :=
  ⟨ok.mod, ok.kind, ok.glob, ok.blt, ok.above, ok.inj, ok.has, ok.cab, ok.hd, ok.frames, ok.stk, ok.exf, ok.bs, ok.bsz, ok.noex, ok.exfs, ok.funs, ok.frf⟩
section
variable {X : Cx} {pins : List (Addr × Obj)} {σ : St} {H : Hp} {s : Shared} {E : Value → Shared → Prop}
theorem Inv.wish (I : Inv X pins σ H s) (E : Value → Shared → Prop) : Inv (X.wish E) pins σ H s := ⟨I.ok.wish E, I.os, I.bare, I.base, I.loc, I.cell, I.free, I.freeC, I.pin, I.hok, I.len⟩
theorem Inv.unwish (I : Inv (X.wish E) pins σ H s) : Inv X pins σ H s := ⟨I.ok.unwish, I.os, I.bare, I.base, I.loc, I.cell, I.free, I.freeC, I.pin, I.hok, I.len⟩
theorem SP.unwish {D : Ends} {f : Flow} {s' : Shared} (h : SP (X.wish E) pins D f s') : SP X pins D f s' := by
  cases f with
  | next => obtain ⟨σ', H', I, q⟩ := h; exact ⟨σ', H', I.unwish, q⟩
  | brk => obtain ⟨σ', H', I, q⟩ := h; exact ⟨σ', H', I.unwish, q⟩
  | cont => obtain ⟨σ', H', I, q⟩ := h; exact ⟨σ', H', I.unwish, q⟩
  | ret u => obtain ⟨v, σ', H', I, r, q⟩ := h; exact ⟨v, σ', H', I.unwish, r, q⟩
theorem PE.nox {e : Expr} {t : TE} (h : PE X.nox e t) : PE X e t := fun pins s σ H Q I hw =>
  wpAny_mono (h pins s σ H Q (I.wish _) hw) (fun _ _ ⟨v, H', I', r, q⟩ => ⟨v, H', I'.unwish, r, q⟩) fun _ _ z => False.elim z
theorem PT.nox {e : Expr} {t : TT} (h : PT X.nox e t) : PT X e t := fun pins s σ H Q I hw =>
  wpAny_mono (h pins s σ H Q (I.wish _) hw) (fun _ _ ⟨H', I', q⟩ => ⟨H', I'.unwish, q⟩) fun _ _ z => False.elim z
theorem PSs.nox {st : List Stmt} {t : TS} (h : PSs X.nox st t) : PSs X st t := fun pins s σ H D I hw =>
  wpAny_mono (h pins s σ H D (I.wish _) hw) (fun _ _ q => q.unwish) fun _ _ z => False.elim z
end
section
variable {X : Cx} {st : Stmt} {rest : List Stmt} {t u : TS} {e : Expr} {te : TE} {pos : Pos}
def tNext : TS := fun D σ H => D.nx σ H
def tSeq (t u : TS) : TS := fun D σ H => t { D with nx := u D } σ H
theorem pss_nil : PSs X [] tNext := fun _ _ σ H _ I h => wpAny_execs_nil ⟨σ, H, I, h⟩
theorem pss_cons (h1 : PS X st t) (h2 : PSs X rest u) : PSs X (st :: rest) (tSeq t u) := by
  intro pins s σ H D I h
  refine wpAny_execs_cons (thn (h1 pins s σ H { D with nx := u D } I h) fun f s1 q => ?_)
  cases f with
  | next =>
    obtain ⟨σ', H', I', q⟩ := q
    exact h2 pins s1 σ' H' D I' q
  | ret v => exact q
  | brk => exact q
  | cont => exact q
theorem pss_one (h1 : PS X st t) : PSs X [st] t := by
  intro pins s σ H D I h
  refine wpAny_execs_cons (thn (h1 pins s σ H D I h) fun f s1 q => ?_)
  cases f with
  | next => exact wpAny_execs_nil q
  | ret v => exact q
  | brk => exact q
  | cont => exact q
theorem Inv.quiet {pins : List (Addr × Obj)} {σ : St} {H : Hp} {s : Shared} (I : Inv X pins σ H s) : interactive X.env = false := by simp [interactive, I.ok.kind]
def tDrop (te : TE) : TS := fun D σ H => te σ H fun _ H1 => D.nx σ H1
theorem ps_expr (he : PE X e te) (hs : swapsWith e none pos.line X.env = pure false := by rfl) : PS X (.Expr e pos) (tDrop te) := by
  intro pins s σ H D I h
  exact wpAny_Expr_any (thn (he pins s σ H _ I h) fun v s1 ⟨x, H1, I1, r1, q1⟩ => ⟨σ, H1, I1, q1⟩) I.quiet hs
def tRet (te : TE) : TS := fun D σ H => te σ H D.rt
theorem ps_ret (he : PE X e te) : PS X (.Return (some e) pos) (tRet te) := by
  intro pins s σ H D I h
  exact wpAny_Return_some (thn (he pins s σ H _ I h) fun v s1 ⟨x, H1, I1, r1, q1⟩ => ⟨x, σ, H1, I1, r1, q1⟩)
def tRetN : TS := fun D _ H => D.rt .non H
def tIfS (c : TT) (t u : TS) : TS := fun D σ H => c σ H fun b H1 => if b = true then t D σ H1 else u D σ H1
theorem ps_if {c : Expr} {a b : List Stmt} {tc : TT} (hc : PT X c tc) (ha : PSs X a t) (hb : PSs X b u) : PS X (.If c a b pos) (tIfS tc t u) := by
  intro pins s σ H D I h
  refine wpAny_If (thn (hc pins s σ H _ I h) fun d s1 ⟨H1, I1, q1⟩ => ?_)
  cases d with
  | true => exact ha pins s1 σ H1 D I1 q1
  | false => exact hb pins s1 σ H1 D I1 q1
def tNever : TS := fun _ _ _ => False
end
abbrev TG := V → St → Hp → (St → Hp → Prop) → Prop
abbrev TGs := List V → St → Hp → (St → Hp → Prop) → Prop
def PG (X : Cx) (target : Expr) (t : TG) : Prop :=
  ∀ (pins : List (Addr × Obj)) (s : Shared) (σ : St) (H : Hp) (v : V) (u : Value) (Q : St → Hp → Prop), Inv X pins σ H s → RelV v u → t v σ H Q →
    wpAny (model X.prog X.w) X.A (assign target X.env u) (fun _ s' => ∃ σ' H', Inv X pins σ' H' s' ∧ Q σ' H') X.xe s
def PGs (X : Cx) (ts : List Expr) (t : TGs) : Prop :=
  ∀ (pins : List (Addr × Obj)) (s : Shared) (σ : St) (H : Hp) (vs : List V) (us : List Value) (Q : St → Hp → Prop), Inv X pins σ H s → Vals vs us → t vs σ H Q →
    wpAny (model X.prog X.w) X.A (assignInOrder ((assignEach ts X.env).map (·.2)) us) (fun _ s' => ∃ σ' H', Inv X pins σ' H' s' ∧ Q σ' H') X.xe s
abbrev TSet := V → V → V → Hp → (Hp → Prop) → Prop
abbrev TIp := V → V → Hp → VK → Prop
section
variable {X : Cx} {pos : Pos}
def gName (i : Nat) : TG := fun v σ H Q => Q (σ.set i (some v)) H
theorem pg_name {i : Nat} {x : Str} (hN : X.N.Nodup) (hi : X.N[i]? = some x) (hx : Loc X.env.scope x) (hf : X.fn x = true ∨ X.env.scope.names.lookup x = some .local := by first | exact .inl rfl | exact .inr rfl | assumption) : PG X (.Name x pos) (gName i) := by
  intro pins s σ H v u Q I r h
  exact wpAny_assign_Name (store_ok I hN hi hx r (fun s' I' => ⟨_, H, I', h⟩) hf)
def gNil : TGs := fun vs σ H Q => vs = [] ∧ Q σ H
def gCons (t : TG) (u : TGs) : TGs := fun vs σ H Q => ∃ v r, vs = v :: r ∧ t v σ H fun σ' H' => u r σ' H' Q
theorem pgs_nil : PGs X [] gNil := by
  intro pins s σ H vs us Q I r h
  obtain ⟨e, h⟩ := h
  subst e
  cases r
  exact assignInOrder_nil ⟨σ, H, I, h⟩
theorem pgs_cons {e : Expr} {es : List Expr} {t : TG} {u : TGs} (h1 : PG X e t) (h2 : PGs X es u)
    (hs : (assignEach (e :: es) X.env).map (·.2) = assign e X.env :: (assignEach es X.env).map (·.2) := by rfl) : PGs X (e :: es) (gCons t u) := by
  intro pins s σ H vs us Q I r h
  obtain ⟨v, vr, e1, h⟩ := h
  subst e1
  cases r with
  | cons r rr =>
    rw [hs]
    refine assignInOrder_cons (thn (h1 pins s σ H _ _ _ I r h) fun _ s1 ⟨σ1, H1, I1, q1⟩ => ?_)
    exact h2 pins s1 σ1 H1 _ _ Q I1 rr q1
def gTup (K : PySem.W.Frag) (n : Nat) (t : TGs) : TG := fun v σ H Q => ∃ a xs, v = .ref a ∧ SqT K H a xs ∧ xs.length = n ∧ t xs σ H Q
theorem pg_tup {es : List Expr} {k : Nat} {t : TGs} {n : Nat} (hc : X.calm = true) (h : PGs X es t)
    (hn : (assignEach es X.env).length = n := by rfl) (hst : (assignEach es X.env).findIdx? (·.1) = none := by rfl) : PG X (.Tuple es k pos) (gTup X.K n t) := by
  intro pins s σ H v u Q I r hw
  obtain ⟨a, xs, e1, hq, hl, hw⟩ := hw
  subst e1
  cases r
  obtain ⟨its, rv, ht, hz⟩ := I.tuple hq
  refine assign_Tuple_tuple (I.ok.hd hc) ht (by simp [hn, ← hl, rv.length]) hst fun h' hx => ?_
  have I1 : Inv X pins σ H { s with heap := h' } := I.kept (t' := s.toks) fun b o e => hx b o (Nat.ne_of_lt (Heap.lt_size e)) e
  exact h pins _ σ H xs _ Q I1 (by simpa using rv) hw
def gSub (to ti : TE) (t : TSet) : TG := fun v σ H Q => to σ H fun o H1 => ti σ H1 fun i H2 => t o i v H2 fun H3 => Q σ H3
def tAsg (te : TE) (g : TG) : TS := fun D σ H => te σ H fun x H1 => g x σ H1 D.nx
theorem ps_asg {tg e : Expr} {te : TE} {g : TG} (he : PE X e te) (hg : PG X tg g) (hs : swapsWithSole [tg] e pos.line X.env = pure false := by rfl) (hw : swappedStores [tg] e X.env = pure none := by rfl)
    (h1 : (assignEach [tg] X.env).map (·.2) = [assign tg X.env] := by rfl) : PS X (.Assign [tg] e pos) (tAsg te g) := by
  intro pins s σ H D I h
  refine wpAny_Assign_stores (thn (he pins s σ H _ I h) fun v s1 ⟨x, H1, I1, r1, q1⟩ => ?_) hs hw
  rw [h1]
  exact thn (hg pins s1 σ H1 x v _ I1 r1 q1) fun _ s2 q => q
theorem ps_set {i : Nat} {x : Str} {e : Expr} {te : TE} {pos' : Pos} (hN : X.N.Nodup) (hi : X.N[i]? = some x) (hx : Loc X.env.scope x) (he : PE X e te) (hs : swapsWith e (some (.Name x pos')) pos.line X.env = pure false := by rfl) (hf : X.fn x = true ∨ X.env.scope.names.lookup x = some .local := by first | exact .inl rfl | exact .inr rfl | assumption) :
    PS X (.Assign [.Name x pos'] e pos) (tAsg te (gName i)) := by
  intro pins s σ H D I h
  refine wpAny_Assign_Name (thn (he pins s σ H _ I h) fun v s1 ⟨y, H1, I1, r1, q1⟩ => ?_) hs
  exact store_ok I1 hN hi hx r1 (fun s2 I2 => ⟨_, H1, I2, q1⟩) hf
def tAug (i : Nat) (te : TE) (ti : TIp) : TS := fun D σ H => ∃ x, σ[i]? = some (some x) ∧ te σ H fun y H1 => ti x y H1 fun z H2 => D.nx (σ.set i (some z)) H2
def ipI (f : Int → Int → Int) : TIp := fun x y H Q => ∃ i j, x = .int i ∧ y = .int j ∧ Q (.int (f i j)) H
end
section
variable {X : Cx} {pos : Pos}
def tWhile (c : TT) (tb : TS) : TS := fun D σ H => ∃ W : Nat → St → Hp → Prop, (∃ m, W m σ H) ∧ ∀ m σ H, W m σ H →
  c σ H fun b H1 => if b = true then ∃ N : St → Hp → Prop, (∀ σ' H', N σ' H' → ∃ m', m' < m ∧ W m' σ' H') ∧ tb { D with nx := N, ct := N, bk := D.nx } σ H1 else D.nx σ H1
end
structure It where
  go : Nat → Hp → Prop
  yld : Nat → Hp → V → Hp → Prop
  stop : Nat → Hp → Prop
def FpOk (X : Cx) (pins : List (Addr × Obj)) (H : Hp) (b : Addr) : Prop :=
  H b = none ∧ b ≠ X.env.locals ∧ b ∉ X.fs ∧ (b ∈ X.ex ∨ X.s₀.heap.objs.size ≤ b) ∧ (∀ x c, X.env.cells.lookup x = some c → c ≠ b) ∧ ∀ p ∈ X.pn ++ pins, p.1 ≠ b
theorem Inv.fpOk {X : Cx} {pins : List (Addr × Obj)} {σ : St} {H H' : Hp} {s : Shared} {b : Addr} (I : Inv X pins σ H s) (hb : s.heap.objs.size ≤ b) (hn : H' b = none) : FpOk X pins H' b := by
  refine ⟨hn, Nat.ne_of_gt (Nat.lt_of_lt_of_le I.lt hb), I.nofs hb, .inr (Nat.le_trans I.sz hb), fun x c e z => ?_, fun p hp z => ?_⟩
  · obtain ⟨v, q⟩ := I.cell x c e
    exact absurd (Nat.lt_of_lt_of_le q.lt (by rw [z]; exact hb)) (Nat.lt_irrefl _)
  · exact absurd (Nat.lt_of_lt_of_le (Heap.lt_size (I.pin p hp).1) (by rw [z]; exact hb)) (Nat.lt_irrefl _)
structure Turn (P : Program) (w : World) (K : PySem.W.Frag) (tg : Expr) (J : It) (fp : List Addr) (it : Addr) (tn : Nat → Heap → Prop) : Prop where
  mem : it ∈ fp
  obj : ∀ i h, tn i h → ∀ b ∈ fp, ∃ o, h.get? b = some o ∧ ∀ v, o.data ≠ .cell v
  keep : ∀ i h h', tn i h → (∀ b ∈ fp, ∀ o, h.get? b = some o → h'.get? b = some o) → tn i h'
  item : ∀ (X : Cx), X.prog = P → X.w = w → X.K = K → X.calm = true → ∀ (i : Nat) (pins : List (Addr × Obj)) (s : Shared) (σ : St) (H : Hp) (E : Value → Shared → Prop), Inv X pins σ H s → (∀ b ∈ fp, FpOk X pins H b) → tn i s.heap → J.go i H →
    wpAny (model P w) X.A (pyNext (.ref it)) (fun r s1 => ∃ u, r = some u ∧
      wpAny (model P w) X.A (letOwnedTupleGo tg (.ref it) u) (fun _ s2 => ∃ x H', Inv X pins σ H' s2 ∧ RelV x u ∧ J.yld i H x H' ∧ tn (i + 1) s2.heap ∧ ∀ b ∈ fp, H' b = none) E s1) E s
  done : ∀ (X : Cx), X.prog = P → X.w = w → X.K = K → X.calm = true → ∀ (i : Nat) (pins : List (Addr × Obj)) (s : Shared) (σ : St) (H : Hp) (E : Value → Shared → Prop), Inv X pins σ H s → (∀ b ∈ fp, FpOk X pins H b) → tn i s.heap → J.stop i H →
    wpAny (model P w) X.A (pyNext (.ref it)) (fun r s1 => r = none ∧ Inv X pins σ H s1) E s
  self : ∀ (A : Around) (i : Nat) (s : Shared) (Q : Value → Shared → Prop) (E : Value → Shared → Prop), tn i s.heap → Q (.ref it) s → wpAny (model P w) A (pyIter (.ref it)) Q E s
abbrev TI := St → Hp → (It → Hp → Prop) → Prop
def PIE (X : Cx) (pins : List (Addr × Obj)) (σ : St) (tg : Expr) (R : It → Hp → Prop) (itv : Value) (s2 : Shared) : Prop :=
  ∃ (it : Addr) (fp : List Addr) (tn : Nat → Heap → Prop) (J : It) (H' : Hp), itv = .ref it ∧ Inv X pins σ H' s2 ∧ Turn X.prog X.w X.K tg J fp it tn ∧ tn 0 s2.heap ∧ (∀ b ∈ fp, FpOk X pins H' b) ∧ R J H'
def PI (X : Cx) (tg iter : Expr) (wi : TI) : Prop :=
  ∀ (pins : List (Addr × Obj)) (s : Shared) (σ : St) (H : Hp) (R : It → Hp → Prop), Inv X pins σ H s → wi σ H R →
    wpAny (model X.prog X.w) X.A (eval iter X.env) (fun v s1 => wpAny (model X.prog X.w) X.A (pyIter v) (PIE X pins σ tg R) X.xe s1) X.xe s
theorem go_of {M : Model} {A : Around} {E : Value → Shared → Prop} {s : Shared} {tg : Expr} {it : Addr} {u : Value} {o : Obj} {n : String} {vs : Array Value} {Q : Unit → Shared → Prop} (ho : s.heap.get? it = some o) (hc : o.cls = .type n) (hd : o.data = .fields vs)
    (hn : ["enumerate", "zip", "dict_itemiterator", "dict_reverseitemiterator", "odict_iterator", "itertools.zip_longest", "itertools.pairwise"].contains n = false) (hQ : Q () s) : wpAny M A (letOwnedTupleGo tg (.ref it) u) Q E s := by
  unfold letOwnedTupleGo
  cases tg <;> first
    | exact wpAny_pure hQ
    | (cases u <;> first
        | exact wpAny_pure hQ
        | (refine wpAny_bind (wpAny_load ho ?_)
           rw [hc, hd]
           show wpAny M A (if (["enumerate", "zip", "dict_itemiterator", "dict_reverseitemiterator", "odict_iterator", "itertools.zip_longest", "itertools.pairwise"].contains n && vs[0]? == some (rawInt _)) = true then _ else _) Q E s
           rw [if_neg (by intro h; rw [hn, Bool.false_and] at h; cases h)]
           exact wpAny_pure hQ))
def Itl (K : PySem.W.Frag) (a : Addr) : It :=
  ⟨fun i H => ∃ xs x, SqL K H a xs ∧ xs[i]? = some x, fun i H x H' => H' = H ∧ ∀ xs, SqL K H a xs → xs[i]? = some x, fun i H => ∃ xs, SqL K H a xs ∧ xs.length ≤ i⟩
def Itt (K : PySem.W.Frag) (a : Addr) : It :=
  ⟨fun i H => ∃ xs x, SqT K H a xs ∧ xs[i]? = some x, fun i H x H' => H' = H ∧ ∀ xs, SqT K H a xs → xs[i]? = some x, fun i H => ∃ xs, SqT K H a xs ∧ xs.length ≤ i⟩
def Itr (lo : Int) (n : Nat) : It := ⟨fun i _ => i < n, fun i H x H' => H' = H ∧ x = .int (lo + i), fun i _ => n ≤ i⟩
theorem turn_list {P : Program} {w : World} {K : PySem.W.Frag} {tg : Expr} (a it : Addr) : Turn P w K tg (Itl K a) [it] it (fun i h => h.IsListIter it a i) where
  mem := by simp
  obj := fun i h st b hb => by
    have e : b = it := by simpa using hb
    subst e
    obtain ⟨o, e, c, d⟩ := st
    exact ⟨o, e, fun v z => by rw [d] at z; cases z⟩
  keep := fun i h h' st k => st.at fun o e => k it (by simp) o e
  item := by
    intro X hP hw hK hc i pins s σ H E I hf st hg
    subst hP hw hK
    obtain ⟨xs, x, hq, hx⟩ := hg
    obtain ⟨its, rv, p, hz⟩ := I.list hq
    obtain ⟨u, hu, ru⟩ := rv.get hx
    obtain ⟨f0, f1, f2, f3, f4, f5⟩ := hf it (by simp)
    refine wpAny_pyNext_list_item st p.isList (x := u) (by simpa using hu) fun h' st' sb => ?_
    have I1 : Inv X pins σ H { s with heap := h' } := I.turned (t' := s.toks) (fun b o hb e => (sb.2 b hb).trans e) f0 f1 f3 f4 f5
    obtain ⟨o, e, c, d⟩ := id st'
    exact ⟨u, rfl, go_of (s := { s with heap := h' }) e c d (by decide) ⟨x, H, I1, ru, ⟨rfl, fun ys hy => by rw [I.list_inj hy hq]; exact hx⟩, st', fun b hb => (hf b hb).1⟩⟩
  done := by
    intro X hP hw hK hc i pins s σ H E I hf st hg
    subst hP hw hK
    obtain ⟨xs, hq, hx⟩ := hg
    obtain ⟨its, rv, p, hz⟩ := I.list hq
    obtain ⟨f0, f1, f2, f3, f4, f5⟩ := hf it (by simp)
    have hl := rv.length
    exact wpAny_pyNext_list_end (I.ok.hd hc) st p.isList (by simp; omega) fun h' eb => ⟨rfl, I.turned (t' := s.toks) (fun b o hb e => eb b o hb e) f0 f1 f3 f4 f5⟩
  self := fun _ _ _ _ _ st h => wpAny_pyIter_listiter st h
theorem turn_tuple {P : Program} {w : World} {K : PySem.W.Frag} {tg : Expr} (a it : Addr) : Turn P w K tg (Itt K a) [it] it (fun i h => h.IsTupleIter it a i) where
  mem := by simp
  obj := fun i h st b hb => by
    have e : b = it := by simpa using hb
    subst e
    obtain ⟨o, e, c, d⟩ := st
    exact ⟨o, e, fun v z => by rw [d] at z; cases z⟩
  keep := fun i h h' st k => st.at fun o e => k it (by simp) o e
  item := by
    intro X hP hw hK hc i pins s σ H E I hf st hg
    subst hP hw hK
    obtain ⟨xs, x, hq, hx⟩ := hg
    obtain ⟨its, rv, p, hz⟩ := I.tuple hq
    obtain ⟨u, hu, ru⟩ := rv.get hx
    obtain ⟨f0, f1, f2, f3, f4, f5⟩ := hf it (by simp)
    refine wpAny_pyNext_tuple_item st (show s.heap.IsTuple a its.toArray from p) (x := u) (by simpa using hu) fun h' st' sb => ?_
    have I1 : Inv X pins σ H { s with heap := h' } := I.turned (t' := s.toks) (fun b o hb e => (sb.2 b hb).trans e) f0 f1 f3 f4 f5
    obtain ⟨o, e, c, d⟩ := id st'
    exact ⟨u, rfl, go_of (s := { s with heap := h' }) e c d (by decide) ⟨x, H, I1, ru, ⟨rfl, fun ys hy => by rw [I.tuple_inj hy hq]; exact hx⟩, st', fun b hb => (hf b hb).1⟩⟩
  done := by
    intro X hP hw hK hc i pins s σ H E I hf st hg
    subst hP hw hK
    obtain ⟨xs, hq, hx⟩ := hg
    obtain ⟨its, rv, p, hz⟩ := I.tuple hq
    obtain ⟨f0, f1, f2, f3, f4, f5⟩ := hf it (by simp)
    have hl := rv.length
    exact wpAny_pyNext_tuple_end (I.ok.hd hc) st (show s.heap.IsTuple a its.toArray from p) (by simp; omega) fun h' eb => ⟨rfl, I.turned (t' := s.toks) (fun b o hb e => eb b o hb e) f0 f1 f3 f4 f5⟩
  self := fun _ _ _ _ _ st h => wpAny_pyIter_tupleiter st h
theorem turn_range {P : Program} {w : World} {K : PySem.W.Frag} {tg : Expr} (it : Addr) (lo : Int) (n : Nat) : Turn P w K tg (Itr lo n) [it] it (fun i h => IsRangeIter h it (lo + (i : Nat) * 1) ((n : Int) - (i : Nat)) 1) where
  mem := by simp
  obj := fun i h st b hb => by
    have e : b = it := by simpa using hb
    subst e
    exact ⟨_, st, fun v z => by
      have z' : Data.fields _ = Data.cell v := z
      cases z'⟩
  keep := fun i h h' st k => k it (by simp) _ st
  item := by
    intro X hP hw hK hc i pins s σ H E I hf st hg
    subst hP hw hK
    obtain ⟨f0, f1, f2, f3, f4, f5⟩ := hf it (by simp)
    have W := Walks.range (prog := X.prog) (w := X.w) (I.ok.hd hc) it lo 1 n
    refine W.item i s _ _ hg st fun v h' tk hv st' kk => ?_
    obtain ⟨t, rfl⟩ := hv
    have I1 : Inv X pins σ H { s with heap := h', toks := tk } := I.turned (fun b o hb e => kk b o (by simpa using hb) e) f0 f1 f3 f4 f5
    refine ⟨_, rfl, go_of (s := { s with heap := h', toks := tk }) (n := "range_iterator") st' rfl rfl (by decide) ⟨.int (lo + i), H, I1, ⟨t, ?_⟩, ⟨rfl, rfl⟩, st', fun b hb => (hf b hb).1⟩⟩
    rw [Int.mul_one]
  done := by
    intro X hP hw hK hc i pins s σ H E I hf st hg
    subst hP hw hK
    obtain ⟨f0, f1, f2, f3, f4, f5⟩ := hf it (by simp)
    exact wpAny_pyNext_range_end (I.ok.hd hc) st (by have : n ≤ i := hg; omega) fun h' eb => ⟨rfl, I.turned (t' := s.toks) (fun b o hb e => eb b o hb e) f0 f1 f3 f4 f5⟩
  self := fun _ _ _ _ _ st h => wpAny_pyIter_rangeiter st h
end L2
namespace L2
open PySem PySem.Spec PyProof.Rows
section
variable {X : Cx} {tg : Expr}
def iList (K : PySem.W.Frag) (tl : TE) : TI := fun σ H R => tl σ H fun x H1 => ∃ a, x = .ref a ∧ (∃ xs, SqL K H1 a xs) ∧ R (Itl K a) H1
def iTup (K : PySem.W.Frag) (tl : TE) : TI := fun σ H R => tl σ H fun x H1 => ∃ a, x = .ref a ∧ (∃ xs, SqT K H1 a xs) ∧ R (Itt K a) H1
theorem pi_list {l : Expr} {tl : TE} (hl : PE X l tl) : PI X tg l (iList X.K tl) := by
  intro pins s σ H R I h
  refine thn (hl pins s σ H _ I h) fun v s1 ⟨x, H1, I1, r1, q1⟩ => ?_
  obtain ⟨a, e, ⟨xs, hq⟩, q⟩ := q1
  subst e
  cases r1
  obtain ⟨its, rv, p, hz⟩ := I1.list hq
  refine wpAny_pyIter_list p.isList ?_
  refine ⟨s1.heap.objs.size, [s1.heap.objs.size], _, _, H1, rfl, I1.kept (t' := s1.toks) fun b o e => Heap.get?_push_of_some _ e, turn_list a _, ⟨_, Heap.get?_push_size _ rfl, rfl, rfl⟩, fun b hb => ?_, q⟩
  have e : b = s1.heap.objs.size := by simpa using hb
  subst e
  exact I1.fpOk (Nat.le_refl _) (I1.hok.fresh (Nat.le_refl _))
theorem pi_tup {l : Expr} {tl : TE} (hl : PE X l tl) : PI X tg l (iTup X.K tl) := by
  intro pins s σ H R I h
  refine thn (hl pins s σ H _ I h) fun v s1 ⟨x, H1, I1, r1, q1⟩ => ?_
  obtain ⟨a, e, ⟨xs, hq⟩, q⟩ := q1
  subst e
  cases r1
  obtain ⟨its, rv, p, hz⟩ := I1.tuple hq
  refine wpAny_pyIter_tuple (show s1.heap.IsTuple a its.toArray from p) ?_
  refine ⟨s1.heap.objs.size, [s1.heap.objs.size], _, _, H1, rfl, I1.kept (t' := s1.toks) fun b o e => Heap.get?_push_of_some _ e, turn_tuple a _, ⟨_, Heap.get?_push_size _ rfl, rfl, rfl⟩, fun b hb => ?_, q⟩
  have e : b = s1.heap.objs.size := by simpa using hb
  subst e
  exact I1.fpOk (Nat.le_refl _) (I1.hok.fresh (Nat.le_refl _))
theorem range_it {pins : List (Addr × Obj)} {σ : St} {H : Hp} {s : Shared} {R : It → Hp → Prop} {E : Value → Shared → Prop} {lo hi : Int} {t u v : Tok} {tk : Nat} (I : Inv X pins σ H s) (h1 : -(2 ^ 62) ≤ lo) (h2 : lo < 2 ^ 62) (h3 : -(2 ^ 62) ≤ hi) (h4 : hi < 2 ^ 62)
    (q : R (Itr lo (hi - lo).toNat) H) : wpAny (model X.prog X.w) X.A (pyIter (.ref s.heap.objs.size)) (PIE X pins σ tg R) E { s with heap := s.heap.push { cls := .type "range", data := .fields #[.int lo t, .int hi u, .int 1 v] }, toks := tk } := by
  refine wpAny_pyIter_range (IsRange.new ..) (small_one h1 h2 h3 h4) ?_
  have I1 : Inv X pins σ H { s with heap := s.heap.push { cls := .type "range", data := .fields #[.int lo t, .int hi u, .int 1 v] }, toks := tk } := I.kept fun b o e => Heap.get?_push_of_some _ e
  refine ⟨(s.heap.push { cls := .type "range", data := .fields #[.int lo t, .int hi u, .int 1 v] }).objs.size, [(s.heap.push { cls := .type "range", data := .fields #[.int lo t, .int hi u, .int 1 v] }).objs.size], _, _, H, rfl,
    I1.kept (t' := tk) fun b o e => Heap.get?_push_of_some _ e, turn_range _ lo (hi - lo).toNat, ?_, fun b hb => ?_, q⟩
  · have e1 : lo + ((0 : Nat) : Int) * 1 = lo := by simp
    have e2 : (((hi - lo).toNat : Nat) : Int) - ((0 : Nat) : Int) = Builtin.Range.rangeSize lo hi 1 := by rw [rangeSize_one]; split <;> omega
    show IsRangeIter _ _ (lo + ((0 : Nat) : Int) * 1) ((((hi - lo).toNat : Nat) : Int) - ((0 : Nat) : Int)) 1
    rw [e1, e2]
    exact Heap.get?_push_size _ rfl
  · have e : b = (s.heap.push { cls := .type "range", data := .fields #[.int lo t, .int hi u, .int 1 v] }).objs.size := by simpa using hb
    subst e
    exact I1.fpOk (Nat.le_refl _) (I1.hok.fresh (Nat.le_refl _))
def iRng1 (ta : TA) : TI := fun σ H R => ta σ H fun vs H1 => ∃ j : Int, vs = [.int j] ∧ -(2 ^ 62) ≤ j ∧ j < 2 ^ 62 ∧ R (Itr 0 j.toNat) H1
def iRng2 (ta : TA) : TI := fun σ H R => ta σ H fun vs H1 => ∃ i j : Int, vs = [.int i, .int j] ∧ (-(2 ^ 62) ≤ i ∧ i < 2 ^ 62 ∧ -(2 ^ 62) ≤ j ∧ j < 2 ^ 62) ∧ R (Itr i (j - i).toNat) H1
theorem pi_range2 {a b : Expr} {ta : TA} {p pos : Pos} (hg : Gl X "range") (hm : X.mg "range" = none) (ha : PA X [a, b] ta) (hs : starEach [a, b] X.env = [(false, eval a X.env), (false, eval b X.env)] := by rfl) (hs2 : starEach [b] X.env = [(false, eval b X.env)] := by rfl) :
    PI X tg (.Call (.Name "range" p) [a, b] [] pos) (iRng2 ta) := by
  intro pins s σ H R I h
  refine Call_ (ld_blt I hg hm boot_range (PyProof.Rows.callWith_type1 (thn (ha pos pins s σ H _ I h) fun us s1 ⟨vs, H1, I1, r1, q1⟩ => ?_) (by rw [hs, hs2]) (by rw [hs2]; rfl)))
  obtain ⟨i, j, e, ⟨q1, q2, q3, q4⟩, q⟩ := q1
  subst e
  cases r1 with
  | cons r rr =>
    cases rr with
    | cons r' rr =>
      cases rr
      obtain ⟨t, rfl⟩ := r
      obtain ⟨t', rfl⟩ := r'
      exact call_range_2 (range_it I1 q1 q2 q3 q4 q)
def tFor (wi : TI) (g : TG) (tb : TS) : TS := fun D σ H => wi σ H fun J H1 => ∃ W : Nat → Nat → St → Hp → Prop, (∃ m, W 0 m σ H1) ∧ ∀ i m σ H, W i m σ H →
  (J.stop i H ∧ D.nx σ H) ∨ (J.go i H ∧ ∃ N : St → Hp → Prop, (∀ σ' H', N σ' H' → ∃ m', m' < m ∧ W (i + 1) m' σ' H') ∧ ∀ x H', J.yld i H x H' → g x σ H' fun σ2 H2 => tb { D with nx := N, ct := N, bk := D.nx } σ2 H2)
def pinsAt (fp : List Addr) (h : Heap) : List (Addr × Obj) := fp.filterMap fun b => (h.get? b).map fun o => (b, o)
theorem mem_pinsAt {fp : List Addr} {h : Heap} {b : Addr} {o : Obj} (hb : b ∈ fp) (e : h.get? b = some o) : (b, o) ∈ pinsAt fp h := List.mem_filterMap.mpr ⟨b, hb, by rw [e]; rfl⟩
theorem of_pinsAt {fp : List Addr} {h : Heap} {p : Addr × Obj} (hp : p ∈ pinsAt fp h) : p.1 ∈ fp ∧ h.get? p.1 = some p.2 := by
  obtain ⟨b, hb, e⟩ := List.mem_filterMap.mp hp
  cases q : h.get? b with
  | none => rw [q] at e; cases e
  | some o =>
    rw [q] at e
    have e' : (b, o) = p := Option.some.inj e
    subst e'
    exact ⟨hb, q⟩
theorem Inv.pinned {pins : List (Addr × Obj)} {σ : St} {H : Hp} {s : Shared} {fp : List Addr} (I : Inv X pins σ H s) (hf : ∀ b ∈ fp, FpOk X pins H b) (ho : ∀ b ∈ fp, ∃ o, s.heap.get? b = some o ∧ ∀ v, o.data ≠ .cell v) : Inv X (pins ++ pinsAt fp s.heap) σ H s :=
  I.pins_of fun p hp => (List.mem_append.mp hp).elim (fun z => I.pin p (List.mem_append_right _ z)) fun z => by
    obtain ⟨hb, e⟩ := of_pinsAt z
    obtain ⟨f0, f1, f2, _⟩ := hf p.1 hb
    obtain ⟨o, e', d⟩ := ho p.1 hb
    rw [e] at e'; cases e'
    exact ⟨e, f0, f1, f2, d⟩
theorem Inv.unpinned {pins pl : List (Addr × Obj)} {σ : St} {H : Hp} {s : Shared} (I : Inv X (pins ++ pl) σ H s) : Inv X pins σ H s := I.pins_of fun p hp => I.pin p (List.mem_append_right _ (List.mem_append_left _ hp))
theorem ps_for {iter : Expr} {body : List Stmt} {wi : TI} {g : TG} {tb : TS} {pos : Pos} (hp : PassesOwn (model X.prog X.w) X.A X.env X.xe) (hc : X.calm = true) (hi : PI X tg iter wi) (hg : PG X tg g) (hb : PSs X body tb)
    (hs : ∀ x, foldedSetIterable iter X.env x = pure x := by intro _; rfl) : PS X (.For tg iter body [] pos) (tFor wi g tb) := by
  intro pins s σ H D I h
  refine wpAny_For (thn (hi pins s σ H _ I h) fun v s1 h1 => thn h1 fun itv s2 h2 => ?_) hs
  obtain ⟨it, fp, tn, J, H2, e, I2, T, st2, f2, W, ⟨m0, w0⟩, turn⟩ := h2
  subst e
  have stat : ∀ {H' : Hp}, (∀ b ∈ fp, H' b = none) → ∀ b ∈ fp, FpOk X pins H' b := fun hn b hb => ⟨hn b hb, (f2 b hb).2⟩
  refine codeAny_forLoop_any (fun n s' => ∃ i σ' H', Inv X pins σ' H' s' ∧ tn i s'.heap ∧ (∀ b ∈ fp, H' b = none) ∧ W i n σ' H') ?_ m0 ⟨0, σ, H2, I2, st2, fun b hb => (f2 b hb).1, w0⟩
  rintro n s3 ⟨i, σ3, H3, I3, st3, fr3, w3⟩
  rcases turn i n σ3 H3 w3 with ⟨stop, qn⟩ | ⟨go, N, hN, step⟩
  · refine wpAny_passesOwn hp (thn (T.done X rfl rfl rfl hc i pins s3 σ3 H3 X.xe I3 (stat fr3) st3 stop) fun r s4 ⟨hr, I4⟩ => ?_)
    subst hr
    exact wpAny_execs_nil ⟨σ3, H3, I4, qn⟩
  · refine wpAny_passesOwn hp (thn (T.item X rfl rfl rfl hc i pins s3 σ3 H3 X.xe I3 (stat fr3) st3 go) fun r s4 ⟨u, hr, h4⟩ => ?_)
    subst hr
    refine wpAny_passesOwn hp (thn h4 fun _ s5 ⟨x, H5, I5, r5, y5, st5, fr5⟩ => ?_)
    have I5' := I5.pinned (stat fr5) (T.obj _ _ st5)
    refine wpAny_passesOwn hp (thn (hg _ s5 σ3 H5 x u _ I5' r5 (step x H5 y5)) fun _ s6 ⟨σ6, H6, I6, q6⟩ => ?_)
    refine wpAny_passesOwn hp (thn (hb _ s6 σ6 H6 _ I6 q6) fun f s7 q7 => ?_)
    have again : ∀ {σ7 : St} {H7 : Hp}, Inv X (pins ++ pinsAt fp s5.heap) σ7 H7 s7 → N σ7 H7 → ∃ m, m < n ∧ ∃ i σ' H', Inv X pins σ' H' s7 ∧ tn i s7.heap ∧ (∀ b ∈ fp, H' b = none) ∧ W i m σ' H' := fun {σ7 H7} I7 n7 => by
      obtain ⟨m', hm, w7⟩ := hN σ7 H7 n7
      refine ⟨m', hm, i + 1, σ7, H7, I7.unpinned, T.keep _ _ _ st5 fun b hb o e => (I7.pin (b, o) (List.mem_append_right _ (List.mem_append_right _ (mem_pinsAt hb e)))).1, fun b hb => ?_, w7⟩
      obtain ⟨o, e, d⟩ := T.obj _ _ st5 b hb
      exact (I7.pin (b, o) (List.mem_append_right _ (List.mem_append_right _ (mem_pinsAt hb e)))).2.1
    cases f with
    | next => obtain ⟨σ7, H7, I7, n7⟩ := q7; exact again I7 n7
    | cont => obtain ⟨σ7, H7, I7, n7⟩ := q7; exact again I7 n7
    | brk => obtain ⟨σ7, H7, I7, q7⟩ := q7; exact ⟨σ7, H7, I7.unpinned, q7⟩
    | ret v => obtain ⟨x7, σ7, H7, I7, r7, q7⟩ := q7; exact ⟨x7, σ7, H7, I7.unpinned, r7, q7⟩
end
theorem for_list {K : PySem.W.Frag} {a : Addr} {xs : List V} {g : TG} {tb : TS} {D : Ends} {σ : St} {H : Hp} (Pv : Nat → St → Hp → Prop) (h0 : Pv 0 σ H) (hl : ∀ i σ H, i ≤ xs.length → Pv i σ H → SqL K H a xs)
    (hs : ∀ i x σ H, xs[i]? = some x → Pv i σ H → g x σ H fun σ2 H2 => tb { D with nx := Pv (i + 1), ct := Pv (i + 1), bk := D.nx } σ2 H2) (hd : ∀ σ H, Pv xs.length σ H → D.nx σ H) :
    ∃ W : Nat → Nat → St → Hp → Prop, (∃ m, W 0 m σ H) ∧ ∀ i m σ H, W i m σ H →
      ((Itl K a).stop i H ∧ D.nx σ H) ∨ ((Itl K a).go i H ∧ ∃ N : St → Hp → Prop, (∀ σ' H', N σ' H' → ∃ m', m' < m ∧ W (i + 1) m' σ' H') ∧ ∀ x H', (Itl K a).yld i H x H' → g x σ H' fun σ2 H2 => tb { D with nx := N, ct := N, bk := D.nx } σ2 H2) := by
  refine ⟨fun i m σ H => m = xs.length - i ∧ i ≤ xs.length ∧ Pv i σ H, ⟨xs.length, by simp, Nat.zero_le _, h0⟩, ?_⟩
  rintro i m σ H ⟨rfl, hi, p⟩
  have q := hl i σ H hi p
  by_cases hlt : i < xs.length
  · refine .inr ⟨⟨xs, xs[i], q, by simp [hlt]⟩, Pv (i + 1), fun σ' H' p' => ⟨xs.length - (i + 1), by omega, rfl, hlt, p'⟩, fun x H' y => ?_⟩
    obtain ⟨e, y⟩ := y
    subst e
    exact hs i x σ _ (y xs q) p
  · have e : i = xs.length := by omega
    subst e
    exact .inl ⟨⟨xs, q, Nat.le_refl _⟩, hd σ H p⟩
theorem for_tup {K : PySem.W.Frag} {a : Addr} {xs : List V} {g : TG} {tb : TS} {D : Ends} {σ : St} {H : Hp} (Pv : Nat → St → Hp → Prop) (h0 : Pv 0 σ H) (hl : ∀ i σ H, i ≤ xs.length → Pv i σ H → SqT K H a xs)
    (hs : ∀ i x σ H, xs[i]? = some x → Pv i σ H → g x σ H fun σ2 H2 => tb { D with nx := Pv (i + 1), ct := Pv (i + 1), bk := D.nx } σ2 H2) (hd : ∀ σ H, Pv xs.length σ H → D.nx σ H) :
    ∃ W : Nat → Nat → St → Hp → Prop, (∃ m, W 0 m σ H) ∧ ∀ i m σ H, W i m σ H →
      ((Itt K a).stop i H ∧ D.nx σ H) ∨ ((Itt K a).go i H ∧ ∃ N : St → Hp → Prop, (∀ σ' H', N σ' H' → ∃ m', m' < m ∧ W (i + 1) m' σ' H') ∧ ∀ x H', (Itt K a).yld i H x H' → g x σ H' fun σ2 H2 => tb { D with nx := N, ct := N, bk := D.nx } σ2 H2) := by
  refine ⟨fun i m σ H => m = xs.length - i ∧ i ≤ xs.length ∧ Pv i σ H, ⟨xs.length, by simp, Nat.zero_le _, h0⟩, ?_⟩
  rintro i m σ H ⟨rfl, hi, p⟩
  have q := hl i σ H hi p
  by_cases hlt : i < xs.length
  · refine .inr ⟨⟨xs, xs[i], q, by simp [hlt]⟩, Pv (i + 1), fun σ' H' p' => ⟨xs.length - (i + 1), by omega, rfl, hlt, p'⟩, fun x H' y => ?_⟩
    obtain ⟨e, y⟩ := y
    subst e
    exact hs i x σ _ (y xs q) p
  · have e : i = xs.length := by omega
    subst e
    exact .inl ⟨⟨xs, q, Nat.le_refl _⟩, hd σ H p⟩
theorem for_range {lo : Int} {n : Nat} {g : TG} {tb : TS} {D : Ends} {σ : St} {H : Hp} (Pv : Nat → St → Hp → Prop) (h0 : Pv 0 σ H)
    (hs : ∀ i σ H, i < n → Pv i σ H → g (.int (lo + i)) σ H fun σ2 H2 => tb { D with nx := Pv (i + 1), ct := Pv (i + 1), bk := D.nx } σ2 H2) (hd : ∀ σ H, Pv n σ H → D.nx σ H) :
    ∃ W : Nat → Nat → St → Hp → Prop, (∃ m, W 0 m σ H) ∧ ∀ i m σ H, W i m σ H →
      ((Itr lo n).stop i H ∧ D.nx σ H) ∨ ((Itr lo n).go i H ∧ ∃ N : St → Hp → Prop, (∀ σ' H', N σ' H' → ∃ m', m' < m ∧ W (i + 1) m' σ' H') ∧ ∀ x H', (Itr lo n).yld i H x H' → g x σ H' fun σ2 H2 => tb { D with nx := N, ct := N, bk := D.nx } σ2 H2) := by
  refine ⟨fun i m σ H => m = n - i ∧ i ≤ n ∧ Pv i σ H, ⟨n, by simp, Nat.zero_le _, h0⟩, ?_⟩
  rintro i m σ H ⟨rfl, hi, p⟩
  by_cases hlt : i < n
  · refine .inr ⟨hlt, Pv (i + 1), fun σ' H' p' => ⟨n - (i + 1), by omega, rfl, hlt, p'⟩, fun x H' y => ?_⟩
    obtain ⟨e, y⟩ := y
    subst e y
    exact hs i σ _ hlt p
  · have e : i = n := by omega
    subst e
    exact .inl ⟨Nat.le_refl _, hd σ H p⟩
end L2
namespace L2
open PySem PySem.Spec PyProof.Rows
abbrev R2 := V → V → Hp → VK → Prop
def OpR (X : Cx) (f : Value → Value → Sem Value) (r : R2) : Prop :=
  ∀ (pins : List (Addr × Obj)) (s : Shared) (σ : St) (H : Hp) (x y : V) (v u : Value) (Q : VK), Inv X pins σ H s → RelV x v → RelV y u → r x y H Q →
    wpAny (model X.prog X.w) X.A (f v u) (EP X pins σ Q) X.xe s
def CallR (X : Cx) (f : Value) (r : List V → Hp → VK → Prop) : Prop :=
  ∀ (pins : List (Addr × Obj)) (s : Shared) (σ : St) (H : Hp) (xs : List V) (us : List Value) (Q : VK), Inv X pins σ H s → Vals xs us → r xs H Q →
    wpAny (model X.prog X.w) X.A (call f us) (EP X pins σ Q) X.xe s
def tOp (r : R2) (ta tb : TE) : TE := fun σ H Q => ta σ H fun x H1 => tb σ H1 fun y H2 => r x y H2 Q
def tUn (r : V → Hp → VK → Prop) (ta : TE) : TE := fun σ H Q => ta σ H fun x H1 => r x H1 Q
def rI (C : Int → Int → Prop) (g : Int → Int → V) : R2 := fun x y H Q => ∃ i j, x = .int i ∧ y = .int j ∧ C i j ∧ Q (g i j) H
def rI0 (g : Int → Int → V) : R2 := fun x y H Q => ∃ i j, x = .int i ∧ y = .int j ∧ Q (g i j) H
def rU (g : Int → V) : V → Hp → VK → Prop := fun x H Q => ∃ i, x = .int i ∧ Q (g i) H
section
variable {X : Cx} {a b c : Expr} {ta tb tc : TE} {pos : Pos}
theorem binT (ha : PE X a ta) (hb : PE X b tb) {pins : List (Addr × Obj)} {s : Shared} {σ : St} {H : Hp} {R : V → V → Hp → Prop} (I : Inv X pins σ H s)
    (h : ta σ H fun x H1 => tb σ H1 fun y H2 => R x y H2) {Q : Value → Shared → Prop} {f : Value → Value → Sem Value}
    (hf : ∀ v u s2 x y H2, Inv X pins σ H2 s2 → RelV x v → RelV y u → R x y H2 → wpAny (model X.prog X.w) X.A (f v u) Q X.xe s2) :
    wpAny (model X.prog X.w) X.A (eval a X.env) (fun v s₁ => wpAny (model X.prog X.w) X.A (eval b X.env) (fun u s₂ => wpAny (model X.prog X.w) X.A (f v u) Q X.xe s₂) X.xe s₁) X.xe s := by
  refine thn (ha pins s σ H _ I h) fun v s1 ⟨x, H1, I1, r1, q1⟩ => ?_
  refine thn (hb pins s1 σ H1 _ I1 q1) fun u s2 ⟨y, H2, I2, r2, q2⟩ => ?_
  exact hf v u s2 x y H2 I2 r1 r2 q2
theorem pe_op {op : Operator} {r : R2} (ho : OpR X (binaryOp op) r) (ha : PE X a ta) (hb : PE X b tb) : PE X (.BinOp a op b pos) (tOp r ta tb) := by
  intro pins s σ H Q I h
  exact wpAny_BinOp (binT ha hb I h fun v u s2 x y H2 I2 rx ry q => ho pins s2 σ H2 x y v u Q I2 rx ry q)
theorem opI {f : Value → Value → Sem Value} {C : Int → Int → Prop} {g : Int → Int → Int}
    (rule : ∀ (i j : Int) (t u : Tok) (s : Shared) (Q : Value → Shared → Prop) (E : Value → Shared → Prop), C i j → Q (.int (g i j) s.toks) { s with toks := s.toks + 1 } → wpAny (model X.prog X.w) X.A (f (.int i t) (.int j u)) Q E s) :
    OpR X f (rI C fun i j => .int (g i j)) := by
  intro pins s σ H x y v u Q I rx ry h
  obtain ⟨i, j, rfl, rfl, hc, q⟩ := h
  obtain ⟨t, rfl⟩ := rx
  obtain ⟨t', rfl⟩ := ry
  exact rule i j t t' s _ _ hc ⟨.int (g i j), H, I.tok _, ⟨_, rfl⟩, q⟩
theorem opI0 {f : Value → Value → Sem Value} {g : Int → Int → Int}
    (rule : ∀ (i j : Int) (t u : Tok) (s : Shared) (Q : Value → Shared → Prop) (E : Value → Shared → Prop), Q (.int (g i j) s.toks) { s with toks := s.toks + 1 } → wpAny (model X.prog X.w) X.A (f (.int i t) (.int j u)) Q E s) :
    OpR X f (rI0 fun i j => .int (g i j)) := by
  intro pins s σ H x y v u Q I rx ry h
  obtain ⟨i, j, rfl, rfl, q⟩ := h
  obtain ⟨t, rfl⟩ := rx
  obtain ⟨t', rfl⟩ := ry
  exact rule i j t t' s _ _ ⟨.int (g i j), H, I.tok _, ⟨_, rfl⟩, q⟩
theorem opB0 {f : Value → Value → Sem Value} {g : Int → Int → Bool}
    (rule : ∀ (i j : Int) (t u : Tok) (s : Shared) (Q : Value → Shared → Prop) (E : Value → Shared → Prop), Q (.bool (g i j)) s → wpAny (model X.prog X.w) X.A (f (.int i t) (.int j u)) Q E s) :
    OpR X f (rI0 fun i j => .bl (g i j)) := by
  intro pins s σ H x y v u Q I rx ry h
  obtain ⟨i, j, rfl, rfl, q⟩ := h
  obtain ⟨t, rfl⟩ := rx
  obtain ⟨t', rfl⟩ := ry
  exact rule i j t t' s _ _ ⟨.bl (g i j), H, I, rfl, q⟩
def CPow (i j : Int) : Prop := 0 ≤ j ∧ j ≤ 1000000 ∧ i.natAbs < 2 ^ 64
def CMul (i j : Int) : Prop := (-(2 ^ 64) < i ∧ i < 2 ^ 64) ∨ (-(2 ^ 64) < j ∧ j < 2 ^ 64)
theorem CMul.ok {i j : Int} (h : CMul i j) : IntMulOk i j := by
  rcases h with ⟨h1, h2⟩ | ⟨h1, h2⟩
  · exact .of_left (intBits_le_64 h1 h2)
  · exact .of_right (intBits_le_64 h1 h2)
theorem op_add : OpR X (binaryOp .Add) (rI0 fun i j => .int (i + j)) := opI0 fun _ _ _ _ _ _ _ q => add_int q
theorem op_sub : OpR X (binaryOp .Sub) (rI0 fun i j => .int (i - j)) := opI0 fun _ _ _ _ _ _ _ q => sub_int q
theorem op_mul : OpR X (binaryOp .Mult) (rI CMul fun i j => .int (i * j)) := opI fun _ _ _ _ _ _ _ hc q => mul_int q hc.ok
theorem op_mod : OpR X (binaryOp .Mod) (rI (fun _ j => 0 < j) fun i j => .int (i % j)) := opI fun i j _ _ _ _ _ hc q => by
  have h1 : (0 : Int) < j := hc
  exact mod_int' (by omega) (by rw [Int.fmod_eq_emod_of_nonneg i (by omega)]; exact q)
theorem op_pow : OpR X (binaryOp .Pow) (rI CPow fun i j => .int (i ^ j.toNat)) := opI fun _ _ _ _ _ _ _ hc q => pow_int_small hc.1 hc.2.1 hc.2.2 q
end
def scal : V → V → Bool
  | .non, .non => true | .non, .int _ => true | .int _, .non => true | .non, .bl _ => true | .bl _, .non => true | .non, .str _ => true | .str _, .non => true
  | .int _, .int _ => true | .bl _, .bl _ => true | .str _, .str _ => true | .byt _, .byt _ => true
  | .int _, .str _ => true | .str _, .int _ => true | .bl _, .str _ => true | .str _, .bl _ => true
  | _, _ => false
def rEq : R2 := fun x y H Q => scal x y = true ∧ Q (.bl (decide (x = y))) H
def rNe : R2 := fun x y H Q => scal x y = true ∧ Q (.bl (!decide (x = y))) H
theorem dec_int {i j : Int} : decide (V.int i = V.int j) = (i == j) := by
  rw [Bool.eq_iff_iff]
  simp
theorem dec_bl {i j : Bool} : decide (V.bl i = V.bl j) = (i == j) := by
  rw [Bool.eq_iff_iff]
  simp
theorem dec_str {i j : Str} : decide (V.str i = V.str j) = (i == j) := by
  rw [Bool.eq_iff_iff]
  simp
theorem dec_byt {i j : Array UInt8} : decide (V.byt i = V.byt j) = (i.toList == j.toList) := by
  rw [Bool.eq_iff_iff]
  cases i
  cases j
  simp
section
variable {X : Cx} {a b c : Expr} {ta tb tc : TE} {pos : Pos}
theorem fin_bl {pins : List (Addr × Obj)} {σ : St} {H : Hp} {s : Shared} {Q : VK} {k k' : Bool} (I : Inv X pins σ H s) (q : Q (.bl k) H) (e : k = k') : EP X pins σ Q (.bool k') s := by
  subst e
  exact ⟨.bl k, H, I, rfl, q⟩
theorem op_eq : OpR X (compareOp .Eq) rEq := by
  intro pins s σ H x y v u Q I rx ry h
  obtain ⟨hs, q⟩ := h
  cases x with
  | non =>
    cases rx
    cases y with
    | non => cases ry; exact PySem.EqNone.eq_none_none (fin_bl I q (by simp))
    | bl j => cases ry; exact PySem.EqNone.eq_none_bool (fin_bl I q (by simp))
    | int j => obtain ⟨t', rfl⟩ := ry; exact PySem.EqNone.eq_none_int (fin_bl I q (by simp))
    | str j => obtain ⟨t', rfl⟩ := ry; exact PySem.EqNone.eq_none_str (fin_bl I q (by simp))
    | _ => exact absurd (show false = true from hs) Bool.false_ne_true
  | bl i =>
    cases rx
    cases y with
    | non => cases ry; exact PySem.EqNone.eq_bool_none (fin_bl I q (by simp))
    | bl j => cases ry; exact eq_bool (fin_bl I q dec_bl)
    | str j => obtain ⟨t', rfl⟩ := ry; exact PySem.EqMixed.eq_bool_str (fin_bl I q (by simp))
    | _ => exact absurd (show false = true from hs) Bool.false_ne_true
  | int i =>
    obtain ⟨t, rfl⟩ := rx
    cases y with
    | non => cases ry; exact PySem.EqNone.eq_int_none (fin_bl I q (by simp))
    | int j => obtain ⟨t', rfl⟩ := ry; exact eq_int (fin_bl I q dec_int)
    | str j => obtain ⟨t', rfl⟩ := ry; exact PySem.EqMixed.eq_int_str (fin_bl I q (by simp))
    | _ => exact absurd (show false = true from hs) Bool.false_ne_true
  | str i =>
    obtain ⟨t, rfl⟩ := rx
    cases y with
    | non => cases ry; exact PySem.EqNone.eq_str_none (fin_bl I q (by simp))
    | bl j => cases ry; exact PySem.EqMixed.eq_str_bool (fin_bl I q (by simp))
    | int j => obtain ⟨t', rfl⟩ := ry; exact PySem.EqMixed.eq_str_int (fin_bl I q (by simp))
    | str j => obtain ⟨t', rfl⟩ := ry; exact eq_str (fin_bl I q dec_str)
    | _ => exact absurd (show false = true from hs) Bool.false_ne_true
  | byt i =>
    obtain ⟨t, rfl⟩ := rx
    cases y with
    | byt j => obtain ⟨t', rfl⟩ := ry; exact PySem.W.eq_bytes (fin_bl I q dec_byt)
    | _ => exact absurd (show false = true from hs) Bool.false_ne_true
  | _ => cases y <;> exact absurd (show false = true from hs) Bool.false_ne_true
theorem op_ne : OpR X (compareOp .NotEq) rNe := by
  intro pins s σ H x y v u Q I rx ry h
  obtain ⟨hs, q⟩ := h
  cases x with
  | non =>
    cases rx
    cases y with
    | non => cases ry; exact PySem.EqNone.ne_none_none (fin_bl I q (by simp))
    | bl j => cases ry; exact PySem.EqNone.ne_none_bool (fin_bl I q (by simp))
    | int j => obtain ⟨t', rfl⟩ := ry; exact PySem.EqNone.ne_none_int (fin_bl I q (by simp))
    | str j => obtain ⟨t', rfl⟩ := ry; exact PySem.EqNone.ne_none_str (fin_bl I q (by simp))
    | _ => exact absurd (show false = true from hs) Bool.false_ne_true
  | bl i =>
    cases rx
    cases y with
    | non => cases ry; exact PySem.EqNone.ne_bool_none (fin_bl I q (by simp))
    | bl j => cases ry; exact ne_bool (fin_bl I q (congrArg not dec_bl))
    | str j => obtain ⟨t', rfl⟩ := ry; exact PySem.EqMixed.ne_bool_str (fin_bl I q (by simp))
    | _ => exact absurd (show false = true from hs) Bool.false_ne_true
  | int i =>
    obtain ⟨t, rfl⟩ := rx
    cases y with
    | non => cases ry; exact PySem.EqNone.ne_int_none (fin_bl I q (by simp))
    | int j => obtain ⟨t', rfl⟩ := ry; exact ne_int (fin_bl I q (congrArg not dec_int))
    | str j => obtain ⟨t', rfl⟩ := ry; exact PySem.EqMixed.ne_int_str (fin_bl I q (by simp))
    | _ => exact absurd (show false = true from hs) Bool.false_ne_true
  | str i =>
    obtain ⟨t, rfl⟩ := rx
    cases y with
    | non => cases ry; exact PySem.EqNone.ne_str_none (fin_bl I q (by simp))
    | bl j => cases ry; exact PySem.EqMixed.ne_str_bool (fin_bl I q (by simp))
    | int j => obtain ⟨t', rfl⟩ := ry; exact PySem.EqMixed.ne_str_int (fin_bl I q (by simp))
    | str j => obtain ⟨t', rfl⟩ := ry; exact ne_str (fin_bl I q (congrArg not dec_str))
    | _ => exact absurd (show false = true from hs) Bool.false_ne_true
  | byt i =>
    obtain ⟨t, rfl⟩ := rx
    cases y with
    | byt j => obtain ⟨t', rfl⟩ := ry; exact PySem.W.ne_bytes (fin_bl I q (congrArg not dec_byt))
    | _ => exact absurd (show false = true from hs) Bool.false_ne_true
  | _ => cases y <;> exact absurd (show false = true from hs) Bool.false_ne_true
theorem op_lt : OpR X (compareOp .Lt) (rI0 fun i j => .bl (decide (i < j))) := opB0 fun _ _ _ _ _ _ _ q => lt_int q
theorem op_le : OpR X (compareOp .LtE) (rI0 fun i j => .bl (decide (i ≤ j))) := opB0 fun _ _ _ _ _ _ _ q => le_int q
theorem op_gt : OpR X (compareOp .Gt) (rI0 fun i j => .bl (decide (j < i))) := opB0 fun _ _ _ _ _ _ _ q => gt_int q
theorem op_in_str : OpR X (compareOp .In) (fun x y H Q => ∃ i j, x = .str i ∧ y = .str j ∧ Q (.bl (!(Builtin.Str.occurrences j i 0 j.length 1).isEmpty)) H) := by
  intro pins s σ H x y v u Q I rx ry h
  obtain ⟨i, j, rfl, rfl, q⟩ := h
  obtain ⟨t, rfl⟩ := rx
  obtain ⟨t', rfl⟩ := ry
  exact in_str (fin_bl I q rfl)
theorem op_isN : OpR X (compareOp .Is) (fun x y H Q => y = .non ∧ Q (.bl (decide (x = .non))) H) := by
  intro pins s σ H x y v u Q I rx ry h
  obtain ⟨rfl, q⟩ := h
  cases ry
  refine is_none_gen (fin_bl I q ?_)
  cases x <;> first
    | (cases rx; rfl)
    | (obtain ⟨t, rfl⟩ := rx; rfl)
theorem nomark (b : Expr) {op : CmpOp} (h : op ≠ .In := by decide) (h2 : op ≠ .NotIn := by decide) : behindInMarks op b = false := by
  have e1 : (op == CmpOp.In) = false := by cases op <;> first | rfl | exact absurd rfl h
  have e2 : (op == CmpOp.NotIn) = false := by cases op <;> first | rfl | exact absurd rfl h2
  cases b <;> simp [behindInMarks, e1, e2]
theorem pe_cmpR {op : CmpOp} {r : R2} (ho : OpR X (compareOp op) r) (ha : PE X a ta) (hb : PE X b tb) (hm : behindInMarks op b = false) : PE X (.Compare a [op] [b] pos) (tOp r ta tb) := by
  intro pins s σ H Q I h
  exact wpAny_Compare1 (binT ha hb I h fun v u s2 x y H2 I2 rx ry q => ho pins s2 σ H2 x y v u Q I2 rx ry q) hm
def tTest (t : TE) : TT := fun σ H Q => t σ H fun x H' => ∃ k, x = .bl k ∧ Q k H'
theorem pt_cmpR {op : CmpOp} {r : R2} (ho : OpR X (compareOp op) r) (ha : PE X a ta) (hb : PE X b tb) (hm : behindInMarks op b = false) : PT X (.Compare a [op] [b] pos) (tTest (tOp r ta tb)) := by
  intro pins s σ H Q I h
  refine wpAny_isTrue_Compare1 (thn (ha pins s σ H _ I h) fun v s1 ⟨x, H1, I1, r1, q1⟩ => thn (hb pins s1 σ H1 _ I1 q1) fun u s2 ⟨y, H2, I2, r2, q2⟩ =>
    thn (ho pins s2 σ H2 x y v u _ I2 r1 r2 q2) fun c s3 ⟨z, H3, I3, r3, k, e, q3⟩ => ?_) hm
  subst e
  cases r3
  exact wpAny_truthy_bool ⟨H3, I3, q3⟩
def tChain (r r' : R2) (ta tb tc : TE) : TE := fun σ H Q => ta σ H fun x H1 => tb σ H1 fun y H2 => r x y H2 fun z H3 => ∃ k, z = .bl k ∧
  (if k = true then tc σ H3 fun w' H4 => r' y w' H4 Q else Q (.bl false) H3)
theorem pe_chain {op op' : CmpOp} {r r' : R2} (ho : OpR X (compareOp op) r) (ho' : OpR X (compareOp op') r') (ha : PE X a ta) (hb : PE X b tb) (hc : PE X c tc)
    (hm : lastMarks [op, op'] [b, c] = false := by with_unfolding_all rfl) : PE X (.Compare a [op, op'] [b, c] pos) (tChain r r' ta tb tc) := by
  intro pins s σ H Q I h
  refine Compare_chain (thn (ha pins s σ H _ I h) fun v s1 ⟨x, H1, I1, r1, q1⟩ => chain_link (thn (hb pins s1 σ H1 _ I1 q1) fun u s2 ⟨y, H2, I2, r2, q2⟩ =>
    thn (ho pins s2 σ H2 x y v u _ I2 r1 r2 q2) fun d s3 ⟨z, H3, I3, r3, k, e, q3⟩ => ?_)) hm
  subst e
  cases r3
  refine wpAny_truthy_bool ?_
  cases k with
  | false => exact ite_ff ⟨.bl false, H3, I3, rfl, q3⟩
  | true => exact ite_tt (chain_last (thn (hc pins s3 σ H3 _ I3 q3) fun w' s4 ⟨z', H4, I4, r4, q4⟩ => ho' pins s4 σ H4 y z' u w' Q I4 r2 r4 q4))
theorem pt_chain {op op' : CmpOp} {r r' : R2} (ho : OpR X (compareOp op) r) (ho' : OpR X (compareOp op') r') (ha : PE X a ta) (hb : PE X b tb) (hc : PE X c tc)
    (hm : lastMarks [op, op'] [b, c] = false := by with_unfolding_all rfl) : PT X (.Compare a [op, op'] [b, c] pos) (tTest (tChain r r' ta tb tc)) := by
  intro pins s σ H Q I h
  refine isTrue_chain (thn (ha pins s σ H _ I h) fun v s1 ⟨x, H1, I1, r1, q1⟩ => test_link (thn (hb pins s1 σ H1 _ I1 q1) fun u s2 ⟨y, H2, I2, r2, q2⟩ =>
    thn (ho pins s2 σ H2 x y v u _ I2 r1 r2 q2) fun d s3 ⟨z, H3, I3, r3, k, e, q3⟩ => ?_)) hm
  subst e
  cases r3
  refine wpAny_truthy_bool ?_
  cases k with
  | false =>
    obtain ⟨k', e', q'⟩ := q3
    cases e'
    exact ite_ff ⟨H3, I3, q'⟩
  | true =>
    refine ite_tt (test_last (thn (hc pins s3 σ H3 _ I3 q3) fun w' s4 ⟨z', H4, I4, r4, q4⟩ => thn (ho' pins s4 σ H4 y z' u w' _ I4 r2 r4 q4) fun d' s5 ⟨z2, H5, I5, r5, k2, e2, q5⟩ => ?_))
    subst e2
    cases r5
    exact wpAny_truthy_bool ⟨H5, I5, q5⟩
theorem line63 : (sizeLine : Nat) < 2 ^ 63 := by rw [sizeLine_eq]; decide
theorem op_add_str : OpR X (binaryOp .Add) (fun x y H Q => ∃ i j, x = .str i ∧ y = .str j ∧ i.length + j.length ≤ sizeLine ∧ Q (.str (i ++ j)) H) := by
  intro pins s σ H x y v u Q I rx ry h
  obtain ⟨i, j, rfl, rfl, hz, q⟩ := h
  obtain ⟨t, rfl⟩ := rx
  obtain ⟨t', rfl⟩ := ry
  exact add_str (fun t' tk => ⟨.str (i ++ j), H, I.tok _, ⟨_, rfl⟩, q⟩) hz
theorem vals1 {x : V} {us : List Value} (r : Vals [x] us) : ∃ u, us = [u] ∧ RelV x u := by
  cases r with
  | cons r1 r2 => cases r2; exact ⟨_, rfl, r1⟩
theorem vals2 {x y : V} {us : List Value} (r : Vals [x, y] us) : ∃ u w', us = [u, w'] ∧ RelV x u ∧ RelV y w' := by
  cases r with
  | cons r1 r2 =>
    cases r2 with
    | cons r3 r4 => cases r4; exact ⟨_, _, rfl, r1, r3⟩
theorem call_abs : CallR X (.builtin "abs") (fun xs H Q => ∃ i, xs = [.int i] ∧ Q (.int (if i < 0 then -i else i)) H) := by
  intro pins s σ H xs us Q I r h
  obtain ⟨i, rfl, q⟩ := h
  obtain ⟨u, rfl, t, rfl⟩ := vals1 r
  exact call_abs_int fun u tk => ⟨.int (if i < 0 then -i else i), H, I.tok _, ⟨_, rfl⟩, q⟩
theorem call_int1 : CallR X (.type "int") (fun xs H Q => (∃ i, xs = [.int i] ∧ Q (.int i) H) ∨ ∃ k, xs = [.bl k] ∧ Q (.int (if k then 1 else 0)) H) := by
  intro pins s σ H xs us Q I r h
  rcases h with ⟨i, rfl, q⟩ | ⟨k, rfl, q⟩
  · obtain ⟨u, rfl, t, rfl⟩ := vals1 r
    exact call_int_int ⟨.int i, H, I, ⟨_, rfl⟩, q⟩
  · obtain ⟨u, rfl, r1⟩ := vals1 r
    cases r1
    exact call_int_bool ⟨.int (if k then 1 else 0), H, I.tok _, ⟨_, rfl⟩, q⟩
end
end L2
namespace L2
open PySem PySem.Spec PyProof.Rows
structure ObjM (h : Heap) (x dx C : Addr) (mA : Str → Option Value) : Prop where
  obj : h.get? x = some (PySem.W.instObj C dx)
  ns : h.Ns1 dx mA
  ne : dx ≠ x
theorem lookIn_ns {h : Heap} {dx : Addr} {mA : Str → Option Value} (n : h.Ns1 dx mA) : ∃ od, h.get? dx = some od ∧ ∀ name, PySem.W.lookIn name od = some (mA name) := by
  obtain ⟨o, es, ep, ho, hd, hk, _, hm⟩ := n
  refine ⟨o, ho, fun name => ?_⟩
  have e := hm name
  unfold nsFind findBy at e
  rw [← Array.find?_toList] at e
  unfold PySem.W.lookIn
  rw [hd]
  dsimp only
  split
  · rename_i y q
    rw [q] at e
    exact congrArg some e
  · rename_i q
    rw [q] at e
    have a : es.toList.any (·.refKey) = false := by
      rw [List.any_eq_false]
      intro y hy
      obtain ⟨z, t, hkey⟩ := hk y (Array.mem_toList_iff.mp hy)
      simp [DictEntry.refKey, hkey]
    have a' : ¬ es.toList.any (·.refKey) = true := by rw [a]; exact Bool.false_ne_true
    rw [if_neg a']
    exact congrArg some e
theorem ObjM.look {h : Heap} {x dx C : Addr} {mA : Str → Option Value} (I : ObjM h x dx C mA) : ∃ od, PySem.W.InstAt h x (PySem.W.instObj C dx) C (some od) ∧ ∀ name, PySem.W.lookIn name od = some (mA name) :=
  let ⟨od, ho, hl⟩ := lookIn_ns I.ns
  ⟨od, ⟨I.obj, rfl, rfl, ho⟩, hl⟩
section
variable {prog : Program} {w : World} {A : Around} {E : Value → Shared → Prop} {s : Shared} {K : PySem.W.Frag} {x dx C f : Addr} {mA : Str → Option Value} {name : Str} {v : Value}
end
def putF (f : Str) (v : V) : List (Str × V) → List (Str × V)
  | [] => [(f, v)]
  | (g, x) :: r => if g = f then (g, v) :: r else (g, x) :: putF f v r
section
variable {P : Program} {w : World} {H H' : Hp} {h h' : Heap} {a C dx : Addr} {fs fs' : List (Str × V)}
theorem ins_get (hok : HOk P w H h) (e : H a = some (.ins C dx fs)) : ∃ mA, ObjM h a dx C mA ∧ (∀ f, RelO (fs.lookup f) (mA f)) ∧ PySem.Within mA (fs.map (·.1)) ∧ fs.length ≤ 1000 ∧ H dx = some (.own a) := by
  obtain ⟨d, z, ne, ob, mA, n, r, q⟩ := (show ObjOk P w H h a (.ins C dx fs) from hok a _ e)
  exact ⟨mA, ⟨ob, n, ne⟩, r, q, z, d⟩
end
structure Cls (K : PySem.W.Frag) (C : Addr) : Prop where
  pg : PySem.W.plainGet K C Str.empty = true
  hd : PySem.W.hasDictIn K C = true
  po : PySem.W.plainOver K C = true
  sa : PySem.W.findIn K (.ref C) "__setattr__" = some (some (.builtin "object.__setattr__"))
theorem Cls.get {K : PySem.W.Frag} {C : Addr} (c : Cls K C) (f : Str) : PySem.W.plainGet K C f = true := c.pg
def NoAttr (K : PySem.W.Frag) (C : Addr) (f : Str) : Prop := PySem.W.findIn K (.ref C) f = some none
structure Con (K : PySem.W.Frag) (C : Addr) (f : Str) (v : V) (u : Value) : Prop where
  at_ : PySem.W.findIn K (.ref C) f = some (some u)
  rel : RelV v u
  get : PySem.W.specialIn K u "__get__" = some none
  cp : PySem.W.copiedNames.contains f = false
structure Meth (K : PySem.W.Frag) (C : Addr) (m : Str) (f : Addr) : Prop where
  at_ : PySem.W.findIn K (.ref C) m = some (some (.ref f))
  fn : PySem.W.isFn K (.ref f) = true
  kp : PySem.W.keepIn K (.ref f) = true
section
variable {X : Cx} {pins : List (Addr × Obj)} {σ : St} {H : Hp} {s : Shared} {a C dx : Addr} {fs : List (Str × V)} {f : Str} {v : V} {A : Around} {E : Value → Shared → Prop}
theorem Inv.made (I : Inv X pins σ H s) : Inv X pins σ (upd (upd H s.heap.objs.size (.own (s.heap.objs.size + 1))) (s.heap.objs.size + 1) (.ins C s.heap.objs.size []))
    { s with heap := (s.heap.push PySem.W.emptyDict).push (PySem.W.instObj C s.heap.objs.size) } := by
  have e1 : (s.heap.push PySem.W.emptyDict).get? s.heap.objs.size = some PySem.W.emptyDict := Heap.get?_push_size s.heap rfl
  have e2 : ((s.heap.push PySem.W.emptyDict).push (PySem.W.instObj C s.heap.objs.size)).get? (s.heap.objs.size + 1) = some (PySem.W.instObj C s.heap.objs.size) := by
    have := Heap.get?_push_size (s.heap.push PySem.W.emptyDict) (o := PySem.W.instObj C s.heap.objs.size) rfl
    rwa [Heap.size_push] at this
  have e3 : (s.heap.push PySem.W.emptyDict).Ns s.heap.objs.size (fun _ => none) := ⟨PySem.W.emptyDict, #[], _, e1, rfl, (fun e he => absurd he (by simp)), fun _ => rfl⟩
  have I1 := I.laid (a := s.heap.objs.size) (o := .own (s.heap.objs.size + 1)) (h' := s.heap.push PySem.W.emptyDict) (t' := s.toks) (fun b u q => Heap.get?_push_of_some _ q) (Nat.le_refl _) ⟨_, e1⟩
  refine I1.laid (a := s.heap.objs.size + 1) (o := .ins C s.heap.objs.size []) (t' := s.toks) (fun b u q => Heap.get?_push_of_some _ q) (Nat.le_of_eq (Heap.size_push _ _)) ?_
  have ne : s.heap.objs.size ≠ s.heap.objs.size + 1 := Nat.ne_of_lt (Nat.lt_succ_self _)
  refine ⟨by rw [upd_ne ne, upd_same], Nat.zero_le _, ne, e2, fun _ => none, (Heap.Ns1.of_empty e3).at fun o q => Heap.get?_push_of_some _ q, fun _ => True.intro, fun y hy => absurd rfl hy⟩
theorem attr_of {prog : Program} {w : World} {env : Env} {e : Expr} {f : Str} {pos : Pos} {s : Shared} {Q : Value → Shared → Prop} (hb : attributeBase e f env (eval e env) = eval e env)
    (h : wpAny (model prog w) A (eval e env) (fun o s₁ => wpAny (model prog w) A (getAttr o f true) Q E s₁) E s) : wpAny (model prog w) A (eval (.Attribute e f pos) env) Q E s :=
  Attribute_any_ h (by rw [arm_eval_Attribute, hb])
end
def tFld (K : PySem.W.Frag) (ta : TE) (f : Str) : TE := fun σ H Q => ta σ H fun x H1 => ∃ a C dx fs v, x = .ref a ∧ H1 a = some (.ins C dx fs) ∧ Cls K C ∧ NoAttr K C f ∧ fs.lookup f = some v ∧ Q v H1
def sFld (K : PySem.W.Frag) (ta tv : TE) (f : Str) : TS := fun D σ H => tv σ H fun y H1 => ta σ H1 fun x H2 => ∃ a C dx fs, x = .ref a ∧ H2 a = some (.ins C dx fs) ∧ Cls K C ∧ NoAttr K C f ∧ fs.length < 1000 ∧
  D.nx σ (upd H2 a (.ins C dx (putF f y fs)))
section
variable {X : Cx} {o e value : Expr} {f : Str} {pos pos' tpos : Pos} {ta tv : TE}
end
section
variable {X : Cx} {pins : List (Addr × Obj)} {σ : St} {H : Hp} {s : Shared} {A : Around} {E : Value → Shared → Prop} {Q : Value → Shared → Prop} {c : Value} {b : Bool}
inductive TyOf (K : PySem.W.Frag) (H : Hp) : V → Value → Prop where
  | non : TyOf K H .non (.type "NoneType")
  | bl (x : Bool) : TyOf K H (.bl x) (.type "bool")
  | int (i : Int) : TyOf K H (.int i) (.type "int")
  | str (x : Str) : TyOf K H (.str x) (.type "str")
  | flt (x : UInt64) : TyOf K H (.flt x) (.type "float")
  | lst {a : Addr} {xs : List V} (e : H a = some (.lst xs)) : TyOf K H (.ref a) (.type "list")
  | frz {a : Addr} {o : Obj} {xs : List V} (e : H a = some (.frz o (.lst xs))) : TyOf K H (.ref a) (.type "list")
  | tup {a : Addr} {xs : List V} (e : H a = some (.tup xs)) : TyOf K H (.ref a) (.type "tuple")
  | dK {a : Addr} {kvs : List (Key × V)} (e : H a = some (.dK kvs)) : TyOf K H (.ref a) (.type "dict")
  | dT {a : Addr} {kvs : List (List Key × V)} (e : H a = some (.dT kvs)) : TyOf K H (.ref a) (.type "dict")
  | ins {a C dx : Addr} {fs : List (Str × V)} (e : H a = some (.ins C dx fs)) (cl : Cls K C) (ha : PySem.W.findIn K (.ref C) "__class__" = some (some (.builtin "object.__class__")))
      (hn : PySem.W.specialIn K (.builtin "object.__class__") "__get__" = some (some (.builtin "getset_descriptor.__get__"))) (htk : PySem.W.takesIn K (.builtin "object.__class__") = some true)
      (hm : PySem.W.mroIn K C (.type "object") = some true) : TyOf K H (.ref a) (.ref C)
theorem isinst_ok {x : V} {u t : Value} (I : Inv X pins σ H s) (rx : RelV x u) (ty : TyOf X.K H x t) (e : PySem.W.kitOne X.K t c = some b) (h : ∀ tk, Q (.bool b) { s with toks := tk }) :
    wpAny (model X.prog X.w) A (call (.builtin "isinstance") [u, c]) Q E s := by
  cases ty with
  | non => cases (show u = Value.none from rx); exact PySem.W.kia_one PySem.W.kitx_none I.kIn True.intro e (fun z => nomatch z) h
  | bl y => cases (show u = Value.bool y from rx); exact PySem.W.kia_one PySem.W.kitx_bool I.kIn True.intro e (fun z => nomatch z) h
  | int i => obtain ⟨t, q⟩ := (show ∃ t, u = Value.int i t from rx); cases q; exact PySem.W.kia_one PySem.W.kitx_int I.kIn True.intro e (fun z => nomatch z) h
  | str y => obtain ⟨t, q⟩ := (show ∃ t, u = Value.str y t from rx); cases q; exact PySem.W.kia_one PySem.W.kitx_str I.kIn True.intro e (fun z => nomatch z) h
  | flt y => obtain ⟨t, q⟩ := (show ∃ t, u = Value.float y t from rx); cases q; exact PySem.W.kia_one PySem.W.kitx_float I.kIn True.intro e (fun z => nomatch z) h
  | @lst a xs ea =>
    cases (show u = Value.ref a from rx)
    obtain ⟨_, _, n, _, h1⟩ := (show ObjOk X.prog X.w H s.heap a (.lst xs) from I.hok a _ ea)
    exact PySem.W.kia_one PySem.W.kitx_list I.kIn ⟨_, h1, rfl⟩ e (fun z => nomatch z) h
  | @frz a ob xs ea =>
    cases (show u = Value.ref a from rx)
    obtain ⟨_, _, _, n, _, h1⟩ := (show ObjOk X.prog X.w H s.heap a (.frz ob (.lst xs)) from I.hok a _ ea)
    exact PySem.W.kia_one PySem.W.kitx_list I.kIn ⟨_, h1, rfl⟩ e (fun z => nomatch z) h
  | @tup a xs ea =>
    cases (show u = Value.ref a from rx)
    obtain ⟨_, _, _, p⟩ := (show ObjOk X.prog X.w H s.heap a (.tup xs) from I.hok a _ ea)
    obtain ⟨o, h1, h2, _⟩ := p
    exact PySem.W.kia_one PySem.W.kitx_tuple I.kIn ⟨o, h1, h2⟩ e (fun z => nomatch z) h
  | @dK a kvs ea =>
    cases (show u = Value.ref a from rx)
    obtain ⟨_, _, vs, _, p⟩ := (show ObjOk X.prog X.w H s.heap a (.dK kvs) from I.hok a _ ea)
    obtain ⟨o, es, ep, h1, h2, _⟩ := p
    exact PySem.W.kia_one PySem.W.kitx_dict I.kIn ⟨o, h1, h2.1⟩ e (fun z => nomatch z) h
  | @dT a kvs ea =>
    cases (show u = Value.ref a from rx)
    obtain ⟨_, _, xs, _, o, es, ep, h1, h2, _⟩ := (show ObjOk X.prog X.w H s.heap a (.dT kvs) from I.hok a _ ea)
    exact PySem.W.kia_one PySem.W.kitx_dict I.kIn ⟨o, h1, h2.1⟩ e (fun z => nomatch z) h
  | @ins a C dx fs ea cl ha hn htk hm =>
    cases (show u = Value.ref a from rx)
    obtain ⟨mA, O, _⟩ := ins_get I.hok ea
    obtain ⟨od, J, _⟩ := O.look
    exact PySem.W.kia_one (PySem.W.kitx_own (cl.get _) cl.hd ha hn htk hm) I.kIn J e (fun z => nomatch z) h
end
end L2
namespace L2
open PySem PySem.Spec PyProof.Rows
structure Room (k : Nat) (A : Around) : Prop where
  hd : A.handled = none
  dp : A.depth + 3 * k + 5 < recursionLimit
  un : A.units + 16 * k + 200 < cLine
theorem Room.mono {j k : Nat} {A : Around} (r : Room k A) (h : j ≤ k) : Room j A := ⟨r.hd, by have := r.dp; omega, by have := r.un; omega⟩
theorem Room.deeper {k : Nat} {A : Around} (r : Room (k + 1) A) (env : Env) : Room k (A.deeper env) :=
  ⟨r.hd, by have := r.dp; show A.depth + 1 + 3 * k + 5 < _; omega, by have := r.un; show A.units + 3 + 16 * k + 200 < _; omega⟩
theorem Room.in1 {k : Nat} {A : Around} (r : Room (k + 1) A) : Room k A.in1 :=
  ⟨r.hd, by have := r.dp; show A.depth + 3 * k + 5 < _; omega, by have := r.un; show A.units + 1 + 16 * k + 200 < _; omega⟩
theorem make_depth {A : Around} {C : Addr} {us : List Value} {kw : List (Str × Value)} : (A.under (.builtin "type.__call__" ⟨.ref C :: us, kw⟩)).depth = A.depth + 1 := by
  first | rfl | simp [Around.under, Code.weight, Code.isCreation, Code.isGuard, Code.isCaller, Code.frames, Code.isFrame, guardIds]
theorem make_units {A : Around} {C : Addr} {us : List Value} {kw : List (Str × Value)} : (A.under (.builtin "type.__call__" ⟨.ref C :: us, kw⟩)).units = A.units + 1 := by
  first | rfl | simp [Around.under, Code.cUnits, Code.frames, Code.isFrame]
theorem Room.make {k : Nat} {A : Around} (r : Room (k + 1) A) (C : Addr) (us : List Value) (kw : List (Str × Value)) : Room k (A.under (.builtin "type.__call__" ⟨.ref C :: us, kw⟩)) :=
  ⟨r.hd, by have := r.dp; rw [make_depth]; omega, by have := r.un; rw [make_units]; omega⟩
theorem Room.depth {k : Nat} {A : Around} (r : Room k A) : A.depth < recursionLimit := by have := r.dp; omega
theorem Room.units {k : Nat} {A : Around} (r : Room k A) : A.units + 64 < cLine := by have := r.un; omega
def tNil : TA := fun _ H Q => Q [] H
def tCons (ta : TE) (tr : TA) : TA := fun σ H Q => ta σ H fun x H1 => tr σ H1 fun xs H2 => Q (x :: xs) H2
section
variable {X : Cx} {e : Expr} {es : List Expr} {te : TE} {t : TA} {pos : Pos}
theorem pa_nil : PA X [] tNil := fun _ _ _ _ H Q I h => Calls.spliced_nil ⟨[], H, I, .nil, h⟩
theorem pa_cons (ha : PE X e te) (hr : PA X es t) (hs : starEach (e :: es) X.env = (false, eval e X.env) :: starEach es X.env := by rfl) : PA X (e :: es) (tCons te t) := by
  intro pos pins s σ H Q I h
  rw [hs]
  show wpAny _ _ (spliced ((false, eval e X.env) :: backTo pos (starEach es X.env))) _ _ s
  refine Calls.spliced_cons (thn (ha pins s σ H _ I h) fun u s1 ⟨x, H1, I1, r1, q1⟩ => ?_)
  exact thn (hr pos pins s1 σ H1 _ I1 q1) fun us s2 ⟨xs, H2, I2, r2, q2⟩ => ⟨x :: xs, H2, I2, .cons r1 r2, q2⟩
def tTup (t : TA) : TE := fun σ H Q => t σ H fun xs H1 => xs.length ≤ sizeLine ∧ ∀ p, H1 p = none → Q (.ref p) (upd H1 p (.tup xs))
def tLst (t : TA) : TE := fun σ H Q => t σ H fun xs H1 => xs.length ≤ sizeLine ∧ ∀ p, H1 p = none → Q (.ref p) (upd H1 p (.lst xs))
theorem pe_tup {x1} (h : PA X es t) : PE X (.Tuple es x1 pos) (tTup t) := by
  intro pins s σ H Q I hq
  refine wpAny_Tuple_spliced (thn (h pos pins s σ H _ I hq) fun us s1 ⟨xs, H1, I1, r, z, q⟩ => ⟨by rw [← r.length]; exact z, ?_⟩)
  have hf : H1 s1.heap.objs.size = none := I1.hok.fresh (Nat.le_refl _)
  refine ⟨.ref s1.heap.objs.size, upd H1 s1.heap.objs.size (.tup xs), I1.laid (t' := s1.toks) (fun b u e => Heap.get?_push_of_some _ e) (Nat.le_refl _) ?_, rfl, q _ hf⟩
  exact ⟨z, us, r, ⟨_, Heap.get?_push_size _ rfl, rfl, _, rfl⟩⟩
theorem pe_lst (h : PA X es t) : PE X (.List es pos) (tLst t) := by
  intro pins s σ H Q I hq
  refine wpAny_List_spliced (thn (h pos pins s σ H _ I hq) fun us s1 ⟨xs, H1, I1, r, z, q⟩ => ⟨by rw [← r.length]; exact z, ?_⟩)
  have hf : H1 s1.heap.objs.size = none := I1.hok.fresh (Nat.le_refl _)
  refine ⟨.ref s1.heap.objs.size, upd H1 s1.heap.objs.size (.lst xs), I1.laid (t' := s1.toks) (fun b u e => Heap.get?_push_of_some _ e) (Nat.le_refl _) ?_, rfl, q _ hf⟩
  exact ⟨z, us, 0, r, Heap.get?_push_size _ rfl⟩
end
abbrev Sp := List V → Hp → VK → XK → Prop
abbrev CXT := List Env → Hp → Shared → XK → Value → Shared → Prop
structure Env0 (P : Program) (w : World) (K : PySem.W.Frag) (mg : Str → Option Value) (base : Heap) (A : Around) (outer : List Env) (s : Shared) (H : Hp) : Prop where
  frames : A.frames = some outer
  mod : Mod K mg base
  bs : ∀ b o, base.get? b = some o → s.heap.get? b = some o ∧ H b = none
  bsz : base.objs.size ≤ s.heap.objs.size
  funs : s.heap.FunFrames base outer
  frf : ∀ b ∈ frs outer, H b = none
  hok : HOk P w H s.heap
  bare : AllBare s.gens
def CE (outer : List Env) (P : Program) (w : World) (H : Hp) (s : Shared) (Q : VK) (u : Value) (s' : Shared) : Prop :=
  ∃ v H', s'.os = s.os ∧ AllBare s'.gens ∧ Un (frs outer) [] H H' s.heap s'.heap ∧ HOk P w H' s'.heap ∧ RelV v u ∧ Q v H'
def CR (CX : CXT) (outer : List Env) (P : Program) (w : World) (H : Hp) (s : Shared) (Q : VK) (E : XK) (r : Result) (s' : Shared) : Prop :=
  match r with
  | .ok (.ret u) => CE outer P w H s Q u s'
  | .ok _ => False
  | .error e => CX outer H s E e s'
structure FnOk (P : Program) (w : World) (K : PySem.W.Frag) (mg : Str → Option Value) (base : Heap) (CX : CXT) (k : Nat) (f : Addr) (fd : FuncData) (ps : List Str) (sp : Sp) : Prop where
  len : ∀ vs H Q E, sp vs H Q E → vs.length = ps.length
  run : ∀ (A : Around) (outer : List Env) (s : Shared) (H : Hp) (args : Args) (us : List Value) (vs : List V) (Q : VK) (E : XK), Room k A → Env0 P w K mg base A outer s H → BindsTo s fd args (ps.zip us) → Vals vs us → sp vs H Q E →
    codeAny (model P w) A (.call (.ref f) args) (CR CX outer P w H s Q E) s
theorem FnOk.mono {P : Program} {w : World} {K : PySem.W.Frag} {mg : Str → Option Value} {base : Heap} {CX : CXT} {j k : Nat} {f : Addr} {fd : FuncData} {ps : List Str} {sp : Sp} (F : FnOk P w K mg base CX j f fd ps sp) (h : j ≤ k) :
    FnOk P w K mg base CX k f fd ps sp := ⟨F.len, fun A outer s H args us vs Q E hr => F.run A outer s H args us vs Q E (hr.mono h)⟩
theorem Env0.make {P : Program} {w : World} {K : PySem.W.Frag} {mg : Str → Option Value} {base : Heap} {A : Around} {outer : List Env} {s : Shared} {H : Hp} (e : Env0 P w K mg base A outer s H) (C : Addr) (us : List Value) (kw : List (Str × Value)) :
    Env0 P w K mg base (A.under (.builtin "type.__call__" ⟨.ref C :: us, kw⟩)) outer s H := ⟨by first | exact e.frames | (simpa [Around.under, Code.envs, Code.isFrame, pushEnvs] using e.frames), e.mod, e.bs, e.bsz, e.funs, e.frf, e.hok, e.bare⟩
theorem Env0.in1 {P : Program} {w : World} {K : PySem.W.Frag} {mg : Str → Option Value} {base : Heap} {A : Around} {outer : List Env} {s : Shared} {H : Hp} (e : Env0 P w K mg base A outer s H) :
    Env0 P w K mg base A.in1 outer s H := ⟨e.frames, e.mod, e.bs, e.bsz, e.funs, e.frf, e.hok, e.bare⟩
section
variable {X : Cx} {pins : List (Addr × Obj)} {σ : St} {H : Hp} {s s' : Shared}
theorem Inv.env0 (I : Inv X pins σ H s) : Env0 X.prog X.w X.K X.mg X.base X.A X.stack s H :=
  ⟨I.ok.frames, I.ok.mod, I.bs, Nat.le_trans I.ok.bsz I.sz, I.stack, I.stkFree, I.hok, I.bare⟩
theorem Inv.after {Q : VK} {u : Value} (I : Inv X pins σ H s) (h : CE X.stack X.prog X.w H s Q u s') : EP X pins σ Q u s' := by
  obtain ⟨v, H', os, bare, un, hok, r, q⟩ := h
  obtain ⟨hh, g, d, t, os'⟩ := s'
  obtain rfl : os' = s.os := os
  exact ⟨v, H', I.call (h' := hh) (g' := g) (d' := d) (t' := t) (ch := []) un hok bare (fun b z => absurd z (by simp)), r, q⟩
end
def tCall (sp : Sp) (dvs : List V) (E : XK) (t : TA) : TE := fun σ H Q => t σ H fun vs H1 => sp (vs ++ dvs) H1 Q E
def tMeth (C : Addr) (m : Str) (sp : Sp) (dvs : List V) (E : XK) (ta : TE) (t : TA) : TE := fun σ H Q => ta σ H fun x H1 => ∃ a dx fs, x = .ref a ∧ H1 a = some (.ins C dx fs) ∧ fs.lookup m = none ∧
  t σ H1 fun vs H2 => sp (x :: (vs ++ dvs)) H2 Q E
def tMake (C : Addr) (sp : Sp) (dvs : List V) (E : XK) (t : TA) : TE := fun σ H Q => t σ H fun vs H1 => ∀ x dx, H1 x = none → H1 dx = none → dx ≠ x →
  sp (.ref x :: (vs ++ dvs)) (upd (upd H1 dx (.own x)) x (.ins C dx [])) (fun v H2 => v = .non ∧ Q (.ref x) H2) E
def Binds (K : PySem.W.Frag) (fd : FuncData) (ps : List Str) (ds : List Value) : Prop :=
  ∀ (s : Shared) (us : List Value), K.In s.heap → (us ++ ds).length = ps.length → BindsTo s fd ⟨us, []⟩ (ps.zip (us ++ ds))
theorem Binds.all {K : PySem.W.Frag} {fd : FuncData} {ps : List Str} (h : ∀ us : List Value, us.length = ps.length → bindArgs fd ⟨us, []⟩ = pure (ps.zip us)) : Binds K fd ps [] := fun s us _ hl => by
  rw [List.append_nil] at hl ⊢
  exact .of_eq (h us hl)
def Passes (CX : CXT) (X : Cx) (E : XK) : Prop := ∀ (pins : List (Addr × Obj)) (σ : St) (H : Hp) (s : Shared) (e : Value) (s' : Shared), Inv X pins σ H s → CX X.stack H s E e s' → X.xe e s'
section
variable {X : Cx} {CX : CXT} {k : Nat} {f C : Addr} {fd : FuncData} {ps : List Str} {sp : Sp} {dvs : List V} {ds : List Value} {E : XK} {x m : Str} {p pos apos : Pos} {e o : Expr} {es : List Expr} {ta : TE} {t : TA}
theorem run_fn {pins : List (Addr × Obj)} {σ : St} {H : Hp} {s : Shared} {Q : VK} {us : List Value} {vs : List V} (F : FnOk X.prog X.w X.K X.mg X.base CX k f fd ps sp) (hr : Room k X.A) (hb : Binds X.K fd ps ds) (hd : Vals dvs ds) (hx : Passes CX X E)
    (I : Inv X pins σ H s) (r : Vals vs us) (h : sp (vs ++ dvs) H Q E) : wpAny (model X.prog X.w) X.A (call (.ref f) us) (EP X pins σ Q) X.xe s := by
  have r2 : Vals (vs ++ dvs) (us ++ ds) := r.append hd
  have hl : (us ++ ds).length = ps.length := by rw [← r2.length]; exact F.len _ _ _ _ h
  refine wpAny_call (codeAny_mono (F.run X.A X.stack s H ⟨us, []⟩ (us ++ ds) (vs ++ dvs) Q E hr I.env0 (hb s us I.kIn hl) r2 h) fun r s' hq => ?_)
  cases r with
  | error e => exact hx pins σ H s e s' I hq
  | ok fl =>
    cases fl with
    | ret u => exact I.after hq
    | next => exact False.elim hq
    | brk => exact False.elim hq
    | cont => exact False.elim hq
theorem pe_call (F : FnOk X.prog X.w X.K X.mg X.base CX k f fd ps sp) (hr : Room k X.A) (hg : Gl X x) (hm : X.mg x = some (.ref f)) (hk : PySem.W.keepIn X.K (.ref f) = true) (hb : Binds X.K fd ps ds) (hd : Vals dvs ds) (hx : Passes CX X E)
    (ha : PA X (e :: es) t) (hdb : (x == ("__debug__" : Str)) = false := by decide) (he : starEach (e :: es) X.env = (false, eval e X.env) :: starEach es X.env := by rfl) (hpl : (backTo pos (starEach es X.env)).any (·.1) = false := by rfl) :
    PE X (.Call (.Name x p) (e :: es) [] pos) (tCall sp dvs E t) := by
  intro pins s σ H Q I h
  refine wpAny_Call_Name_kw (ld_glob I hg hm ?_ hdb)
  refine PySem.W.callWith_K (h₀ := X.base) I.ok.mod.kin hk (thn (ha pos pins s σ H _ I h) fun us s1 ⟨vs, H1, I1, r, q⟩ => ⟨I1.kIn, ?_⟩) he hpl
  exact run_fn F hr hb hd hx I1 r q
structure Mk (K : PySem.W.Frag) (C f : Addr) : Prop where
  makes : PySem.W.makesIn K C = true
  init : PySem.W.findIn K (.ref C) "__init__" = some (some (.ref f))
  fn : PySem.W.isFn K (.ref f) = true
  kp : PySem.W.keepIn K (.ref C) = true
end
section
variable {X : Cx} {CX : CXT} {k : Nat} {f C : Addr} {fd : FuncData} {ps ks : List Str} {sp : Sp} {E : XK} {x m : Str} {p pos apos kpos : Pos} {e o : Expr} {es : List Expr} {kws : List Keyword} {te ta : TE} {t tk : TA} {nm : Option Str}
structure KBinds (K : PySem.W.Frag) (fd : FuncData) (ps ks : List Str) (g : List Value → List Value → List Value) (gV : List V → List V → List V) : Prop where
  to : ∀ (s : Shared) (us ws : List Value), K.In s.heap → (g us ws).length = ps.length → BindsTo s fd ⟨us, ks.zip ws⟩ (ps.zip (g us ws))
  rel : ∀ {vs : List V} {us : List Value} {zs : List V} {ws : List Value}, Vals vs us → Vals zs ws → Vals (gV vs zs) (g us ws)
variable {g : List Value → List Value → List Value} {gV : List V → List V → List V}
end
structure FnScope (N P : List Str) (sc : Scope) : Prop where
  kind : sc.kind = .function
  co : sc.isCoroutine = false
  gen : sc.isGenerator = false
  nd : N.Nodup
  pre : N.take P.length = P
  par : ∀ x ∈ P, sc.names.lookup x = some .local ∨ sc.names.lookup x = some .cell
  nofree : ∀ y ∈ sc.names, y.2 ≠ .free
theorem bindL_out {kindOf : Str → Option NameKind} {x : Str} : ∀ {binds : List (Str × Value)} {m : Str → Option Value}, (∀ v, (x, v) ∉ binds) → bindL kindOf binds m x = m x
  | [], _, _ => rfl
  | (n, v) :: r, m, h => by
    unfold bindL
    rw [bindL_out fun w hw => h w (List.mem_cons_of_mem _ hw)]
    split
    · have : x ≠ n := by rintro rfl; exact h v List.mem_cons_self
      simp [this]
    · rfl
theorem bindC_out {kindOf : Str → Option NameKind} {x : Str} : ∀ {binds : List (Str × Value)} {m : Str → Option Value}, (∀ v, (x, v) ∉ binds) → bindC kindOf binds m x = m x
  | [], _, _ => rfl
  | (n, v) :: r, m, h => by
    unfold bindC
    rw [bindC_out fun w hw => h w (List.mem_cons_of_mem _ hw)]
    split
    · rfl
    · have : x ≠ n := by rintro rfl; exact h v List.mem_cons_self
      simp [this]
theorem bindL_get {kindOf : Str → Option NameKind} {x : Str} {v : Value} : ∀ {P : List Str} {vs : List Value} {i : Nat} {m : Str → Option Value}, P.Nodup → P[i]? = some x → vs[i]? = some v → kindOf x = some .local →
    bindL kindOf (P.zip vs) m x = some v
  | [], _, _, _, _, h, _, _ => by simp at h
  | _ :: _, [], _, _, _, _, h, _ => by simp at h
  | p :: P, w :: vs, 0, m, nd, h1, h2, hk => by
    simp at h1 h2; subst h1; subst h2
    show bindL kindOf ((p, w) :: P.zip vs) m p = _
    unfold bindL
    rw [bindL_out fun v hv => (List.nodup_cons.mp nd).1 (List.of_mem_zip hv).1, if_pos hk]
    simp
  | p :: P, w :: vs, i + 1, m, nd, h1, h2, hk => by
    show bindL kindOf ((p, w) :: P.zip vs) m x = _
    unfold bindL
    exact bindL_get (i := i) (List.nodup_cons.mp nd).2 (by simpa using h1) (by simpa using h2) hk
theorem bindC_get {kindOf : Str → Option NameKind} {x : Str} {v : Value} : ∀ {P : List Str} {vs : List Value} {i : Nat} {m : Str → Option Value}, P.Nodup → P[i]? = some x → vs[i]? = some v → kindOf x ≠ some .local →
    bindC kindOf (P.zip vs) m x = some v
  | [], _, _, _, _, h, _, _ => by simp at h
  | _ :: _, [], _, _, _, _, h, _ => by simp at h
  | p :: P, w :: vs, 0, m, nd, h1, h2, hk => by
    simp at h1 h2; subst h1; subst h2
    show bindC kindOf ((p, w) :: P.zip vs) m p = _
    unfold bindC
    rw [bindC_out fun v hv => (List.nodup_cons.mp nd).1 (List.of_mem_zip hv).1, if_neg hk]
    simp
  | p :: P, w :: vs, i + 1, m, nd, h1, h2, hk => by
    show bindC kindOf ((p, w) :: P.zip vs) m x = _
    unfold bindC
    exact bindC_get (i := i) (List.nodup_cons.mp nd).2 (by simpa using h1) (by simpa using h2) hk
def start (N : List Str) (vs : List V) : St := vs.map some ++ List.replicate (N.length - vs.length) none
def cxOf (CX : CXT) (P : Program) (w : World) (K : PySem.W.Frag) (mg : Str → Option Value) (base : Heap) (N : List Str) (qual : Str) (scope : Scope) (f : Addr) (cd : Value) (A : Around) (outer : List Env) (s : Shared) (H : Hp) (E : XK) : Cx where
  prog := P
  w := w
  K := K
  mg := mg
  base := base
  A := A.deeper (envOfC qual scope s.heap.objs.size f cd)
  N := N
  s₀ := s
  H₀ := H
  env := envOfC qual scope s.heap.objs.size f cd
  outer := outer
  stack := envOfC qual scope s.heap.objs.size f cd :: outer
  ex := []
  calm := true
  fn := fun _ => true
  pn := []
  xe := fun e s' => wpAny (model P w) (A.deeper (envOfC qual scope s.heap.objs.size f cd)) (leaving (envOfC qual scope s.heap.objs.size f cd) e) (fun _ s'' => CX outer H s E e s'') (fun e' s'' => CX outer H s E e' s'') s'
theorem cell_has {sc : Scope} {n : Nat} {x : Str} (h : sc.names.lookup x = some .cell) : ∃ c, (cellsFrom n sc.names []).lookup x = some c := by
  have q := PySem.W.cellsFrom_some sc.names n [] (.inl h)
  exact Option.isSome_iff_exists.mp q
theorem inv_start {CX : CXT} {P : Program} {w : World} {K : PySem.W.Frag} {mg : Str → Option Value} {base : Heap} {N ps : List Str} {qual : Str} {scope : Scope} {f : Addr} {cd : Value} {A : Around} {outer : List Env} {s s1 : Shared} {H : Hp} {E : XK} {us : List Value} {vs : List V}
    (S : FnScope N ps scope) (hd : A.handled = none) (e0 : Env0 P w K mg base A outer s H) (hl : vs.length = ps.length) (r : Vals vs us)
    (x : InCallC s s.heap.objs.size (bindL (envOfC qual scope s.heap.objs.size f cd).kindOf (ps.zip us) fun _ => none) (cellsFrom (s.heap.objs.size + 1) scope.names []) (bindC (envOfC qual scope s.heap.objs.size f cd).kindOf (ps.zip us) fun _ => none) s1) :
    Inv (cxOf CX P w K mg base N qual scope f cd A outer s H E) [] (start N vs) H s1 := by
  have hpl : ps.length ≤ N.length := by have := congrArg List.length S.pre; rw [List.length_take] at this; omega
  obtain ⟨h1, tk, rfl, hk⟩ := x.done
  have noA : ∀ b : Addr, b ∉ (cxOf CX P w K mg base N qual scope f cd A outer s H E).ex := fun b z => absurd (show b ∈ ([] : List Addr) from z) (by simp)
  refine ⟨⟨e0.mod, S.kind, rfl, rfl, Nat.le_refl _, fun y z c h1 h2 => ?_, fun y hy => ?_, fun y c _ h => ?_, fun _ => hd, Around.frames_deeper e0.frames, .inr ⟨rfl, rfl⟩, fun b z => absurd z (noA b), e0.bs, e0.bsz, fun b _ _ => noA b, fun b z => absurd z (noA b), e0.funs, e0.frf⟩,
    rfl, e0.bare, Un.kept hk, ⟨_, x.toInCall.ns, fun i y v h1 h2 h3 => ?_⟩, fun y c h => ⟨_, x.cell y c h⟩, e0.hok.fresh (Nat.le_refl _), fun y c h => ?_, fun p hp => absurd (show p ∈ ([] : List (Addr × Obj)) from hp) (by simp), e0.hok.kept hk, ?_⟩
  · exact name_of_addr x.apart (PySem.mem_of_lookup h1) (PySem.mem_of_lookup h2)
  · have hy : scope.names.lookup y = some .cell ∨ scope.names.lookup y = some .free := hy
    rcases hy with hy | hy
    · exact cell_has hy
    · exact absurd rfl (S.nofree _ (PySem.mem_of_lookup hy))
  · exact Nat.le_of_lt (x.above y c (PySem.mem_of_lookup h))
  · have hi : i < vs.length := by
      unfold start at h2
      by_cases hi : i < vs.length
      · exact hi
      · rw [List.getElem?_append_right (by simpa using hi)] at h2
        rw [List.getElem?_replicate] at h2
        split at h2 <;> cases h2
    have ha : vs[i]? = some v := by
      unfold start at h2
      rw [List.getElem?_append_left (by simpa using hi), List.getElem?_map] at h2
      cases e : vs[i]? with
      | none => rw [e] at h2; cases h2
      | some a => rw [e] at h2; cases h2; rfl
    obtain ⟨u, hu, rv⟩ := r.get ha
    have hp : ps[i]? = some y := by
      rw [← S.pre, List.getElem?_take_of_lt (by omega)]; exact h1
    have ndP : ps.Nodup := by rw [← S.pre]; exact S.nd.sublist (List.take_sublist _ _)
    refine ⟨u, rv, ?_⟩
    rcases S.par y (List.mem_of_getElem? hp) with k | k
    · exact .inl ⟨k, bindL_get ndP hp hu k⟩
    · obtain ⟨c, e⟩ := cell_has (n := s.heap.objs.size + 1) k
      refine .inr ⟨.inl k, c, e, ?_⟩
      have q := x.cell y c e
      rw [bindC_get ndP hp hu (by show scope.names.lookup y ≠ _; rw [k]; decide)] at q
      exact q
  · exact e0.hok.fresh (Nat.le_of_lt (x.above y c (PySem.mem_of_lookup h)))
  · unfold start
    show _ = N.length
    rw [List.length_append, List.length_map, List.length_replicate]
    omega
theorem fn_of {CX : CXT} {P : Program} {w : World} {K : PySem.W.Frag} {mg : Str → Option Value} {base : Heap} {k : Nat} {f : Addr} {name qual : Str} {params : Arguments} {body : List Stmt} {scope : Scope} {dV kV doc pm cdv ct oc : Value} {an od : Option Addr}
    {osl : Array (Option Value)} {N ps : List Str} {sp : Sp} (lk : K.lookup f = some ⟨oc, od, .func (PySem.W.fnOf name qual params body scope dV kV doc pm an cdv ct), osl⟩) (hcd : PySem.W.codeIn K cdv qual = true) (S : FnScope N ps scope)
    (len : ∀ vs H Q E, sp vs H Q E → vs.length = ps.length)
    (hbody : ∀ (A : Around) (outer : List Env) (s : Shared) (H : Hp) (vs : List V) (Q : VK) (E : XK), Room k (A.deeper (envOfC qual scope s.heap.objs.size f cdv)) → sp vs H Q E →
      ∃ t, PSs (cxOf CX P w K mg base N qual scope f cdv A outer s H E) body t ∧ t { nx := fun _ H' => Q .non H', rt := Q } (start N vs) H) :
    FnOk P w K mg base CX (k + 1) f (PySem.W.fnOf name qual params body scope dV kV doc pm an cdv ct) ps sp := by
  refine ⟨len, fun A outer s H args us vs Q E hr e0 hb r hsp => ?_⟩
  have hl := len _ _ _ _ hsp
  have KX : K.In s.heap := e0.mod.kin.keeps fun b o e => (e0.bs b o e).1
  have lim : s.heap.NoLimit := e0.mod.nolimit.keeps fun b o e => (e0.bs b o e).1
  have hkind : ∀ y ∈ ps.zip us, scope.names.lookup y.1 = some .local ∨ (scope.names.lookup y.1 = some .cell ∧ ((cellsFrom (s.heap.objs.size + 1) scope.names []).lookup y.1).isSome = true) := fun ⟨n, v⟩ hy => by
    rcases S.par n (List.of_mem_zip hy).1 with q | q
    · exact .inl q
    · exact .inr ⟨q, PySem.W.cellsFrom_some _ _ _ (.inl q)⟩
  refine codeAny_call_function hr.depth (KX _ _ lk) rfl S.co S.gen rfl (PySem.W.codeRec_of KX hcd) (hb _ _ _ _ ?_)
  refine wpAny_newFunctionEnv_cells S.kind hkind fun env he s1 x => ?_
  subst he
  refine ⟨lim.keeps x.toInCall.keep, codeAny_func ?_⟩
  obtain ⟨t, ht, hq⟩ := hbody A outer s H vs Q E (hr.deeper _) hsp
  have I : Inv (cxOf CX P w K mg base N qual scope f cdv A outer s H E) [] (start N vs) H s1 := inv_start S hr.hd e0 hl r x
  refine wpAny_mono (ht [] s1 (start N vs) H _ I hq) (fun fl s' hs => ?_) fun e s' hs => hs
  have fin : ∀ {σ' : St} {H' : Hp} {v : V} {u : Value}, Inv (cxOf CX P w K mg base N qual scope f cdv A outer s H E) [] σ' H' s' → RelV v u → Q v H' → CE outer P w H s Q u s' :=
    fun {σ' H' v u} J rv q => ⟨v, H', J.os, J.bare, J.base, J.hok, rv, q⟩
  cases fl with
  | ret u =>
    obtain ⟨v, σ', H', J, rv, q⟩ := hs
    exact fin J rv q
  | next =>
    obtain ⟨σ', H', J, q⟩ := hs
    exact fin (v := V.non) (u := Value.none) J rfl q
  | brk =>
    obtain ⟨_, _, _, q⟩ := hs
    exact False.elim q
  | cont =>
    obtain ⟨_, _, _, q⟩ := hs
    exact False.elim q
end L2
namespace L2
open PySem PySem.Spec PyProof.Rows
section
variable {X : Cx} {x : Str} {p pos : Pos} {e : Expr} {es : List Expr} {t : TA} {id T : String} {r : List V → Hp → VK → Prop}
def tCB (r : List V → Hp → VK → Prop) (t : TA) : TE := fun σ H Q => t σ H fun vs H1 => r vs H1 Q
theorem pe_callB (hc : CallR X (.builtin id) r) (hg : Gl X x) (hm : X.mg x = none) (hv : bootBuiltins x = some (.builtin id)) (ha : PA X (e :: es) t) (hn : x ≠ "__name__" := by decide) (hdb : (x == ("__debug__" : Str)) = false := by decide)
    (he : starEach (e :: es) X.env = (false, eval e X.env) :: starEach es X.env := by rfl) (hpl : (backTo pos (starEach es X.env)).any (·.1) = false := by rfl) : PE X (.Call (.Name x p) (e :: es) [] pos) (tCB r t) := by
  intro pins s σ H Q I h
  refine wpAny_Call_Name_kw (ld_blt I hg hm hv ?_ hn hdb)
  exact PyProof.Rows.callWith_builtin1 (thn (ha pos pins s σ H _ I h) fun us s1 ⟨vs, H1, I1, r1, q1⟩ => hc pins s1 σ H1 vs us Q I1 r1 q1) he hpl
theorem pe_callTy (hc : CallR X (.type T) r) (hg : Gl X x) (hm : X.mg x = none) (hv : bootBuiltins x = some (.type T)) (ha : PA X (e :: es) t) (hn : x ≠ "__name__" := by decide) (hdb : (x == ("__debug__" : Str)) = false := by decide)
    (he : starEach (e :: es) X.env = (false, eval e X.env) :: starEach es X.env := by rfl) (hpl : (backTo pos (starEach es X.env)).any (·.1) = false := by rfl) : PE X (.Call (.Name x p) (e :: es) [] pos) (tCB r t) := by
  intro pins s σ H Q I h
  refine wpAny_Call_Name_kw (ld_blt I hg hm hv ?_ hn hdb)
  exact PyProof.Rows.callWith_type1 (thn (ha pos pins s σ H _ I h) fun us s1 ⟨vs, H1, I1, r1, q1⟩ => hc pins s1 σ H1 vs us Q I1 r1 q1) he hpl
end
end L2
namespace HT
open PySem PyProof.Rows
section
open PySem.SeqAt
open PySem.AutoSeq1 (wpAny_loadPart')
open PySem.MeetsSeq PySem.MeetsSeq2 PySem.MeetsSeq3
end
section
variable {prog : Program} {w : World} {A : Around} {E : Value → Shared → Prop} {s : Shared}
def sIx (n d : Nat) : Option Int → Nat
  | none => d
  | some v => if v < 0 then (v + (n : Int)).toNat else min v.toNat n
theorem sIx_none (n d : Nat) : sIx n d none = d := rfl
theorem sIx_nat (n d k : Nat) : sIx n d (some (k : Int)) = min k n := by
  show (if (k : Int) < 0 then ((k : Int) + (n : Int)).toNat else min (k : Int).toNat n) = min k n
  rw [if_neg (by omega), Int.toNat_natCast]
theorem sIx_le (n d : Nat) (hd : d ≤ n) (o : Option Int) : sIx n d o ≤ n := by
  cases o with
  | none => exact hd
  | some v =>
    show (if v < 0 then (v + (n : Int)).toNat else min v.toNat n) ≤ n
    by_cases hv : v < 0
    · rw [if_pos hv]; omega
    · rw [if_neg hv]; exact Nat.min_le_right _ _
theorem clip_eq (v : Int) (n d : Nat) : (if v < 0 then max (v + (n : Int)) 0 else min v (n : Int)) = ((sIx n d (some v) : Nat) : Int) := by
  show (if v < 0 then max (v + (n : Int)) 0 else min v (n : Int)) = (((if v < 0 then (v + (n : Int)).toNat else min v.toNat n) : Nat) : Int)
  by_cases hv : v < 0
  · simp only [if_pos hv]; omega
  · simp only [if_neg hv]; omega
theorem adjust_gen (lo hi : Option Int) (n : Nat) : Builtin.Slice.sliceAdjust lo hi 1 (n : Int) = (((sIx n 0 lo : Nat) : Int), ((sIx n n hi : Nat) : Int)) := by
  have h1 : ¬ ((1 : Int) < 0) := by omega
  unfold Builtin.Slice.sliceAdjust
  simp only [h1, if_false]
  refine Prod.ext ?_ ?_
  · cases lo with
    | none => rfl
    | some v => exact clip_eq v n 0
  · cases hi with
    | none => rfl
    | some v => exact clip_eq v n n
theorem places_gen (i j : Nat) : Builtin.Slice.slicePlaces (i : Int) (j : Int) 1 = j - i := by
  unfold Builtin.Slice.slicePlaces
  have h1 : (1 : Int) > 0 := by omega
  simp only [h1, if_true, Int.ediv_one]
  split <;> omega
theorem slicePart_ {v : Value} {o : Option Int} {Q : Option Int → Shared → Prop} (p : IsPart v o) (h : Q o s) : wpAny (model prog w) A (Builtin.Slice.slicePartIndex v) Q E s := by
  cases p with
  | none => exact slicePart_none h
  | int i t => exact slicePart_int h
theorem sliceApplied_gen {sl : Addr} {vl vu : Value} {lo hi : Option Int} {n : Nat} {Q : Int × Int × Nat → Shared → Prop} (hs : s.heap.IsSliceOf sl vl vu .none) (pl : IsPart vl lo) (pu : IsPart vu hi)
    (h : Q (((sIx n 0 lo : Nat) : Int), 1, sIx n n hi - sIx n 0 lo) s) : wpAny (model prog w) A (Builtin.Slice.sliceApplied (.ref sl) (pure (n : Int))) Q E s := by
  obtain ⟨os, hos, hcs, hds⟩ := id hs
  unfold Builtin.Slice.sliceApplied Builtin.Slice.sliceFields
  refine wpAny_bind (wpAny_bind (wpAny_field hos hds (x := vl) rfl (wpAny_bind (wpAny_field hos hds (x := vu) rfl (wpAny_bind (wpAny_field hos hds (x := .none) rfl (wpAny_pure ?_)))))))
  refine wpAny_bind (slicePart_none ?_)
  show wpAny _ _ (if ((1 : Int) == 0) = true then _ else _) _ _ s
  rw [if_neg (by decide)]
  refine wpAny_bind (slicePart_ pl (wpAny_bind (slicePart_ pu (wpAny_bind (wpAny_pure ?_)))))
  show wpAny _ _ (match Builtin.Slice.sliceAdjust lo hi 1 (n : Int) with | (lo, hi) => pure (lo, (1 : Int), Builtin.Slice.slicePlaces lo hi 1)) _ _ s
  rw [adjust_gen lo hi n]
  show wpAny _ _ (pure (((sIx n 0 lo : Nat) : Int), (1 : Int), Builtin.Slice.slicePlaces ((sIx n 0 lo : Nat) : Int) ((sIx n n hi : Nat) : Int) 1)) _ _ s
  rw [places_gen]
  exact wpAny_pure h
theorem pick_gen (xs : Array Value) (i k : Nat) : ((List.range k).filterMap fun (m : Nat) => xs[((i : Int) + (m : Int) * 1).toNat]?).toArray = ((xs.toList.drop i).take k).toArray := by
  have e : (fun (m : Nat) => xs[((i : Int) + (m : Int) * 1).toNat]?) = fun m => xs[i + m]? := by
    funext m
    have : ((i : Int) + (m : Int) * 1).toNat = i + m := by omega
    rw [this]
  rw [e]
  have := pick_run xs i k
  rw [List.filterMap_map] at this
  have e2 : ((fun x => xs[x]?) ∘ fun x => i + x) = fun m => xs[i + m]? := rfl
  rw [e2] at this
  rw [this]
theorem getItem_tuple_cut {t sl : Addr} {items : Array Value} {vl vu : Value} {lo hi : Option Int} {Q : Value → Shared → Prop} (ht : IsTup s.heap t items) (hs : s.heap.IsSliceOf sl vl vu .none) (pl : IsPart vl lo) (pu : IsPart vu hi)
    (hw : ¬ (sIx items.size 0 lo = 0 ∧ sIx items.size items.size hi = items.size))
    (h : Q (.ref s.heap.objs.size) { s with heap := s.heap.push { cls := .type "tuple", data := .seq ((items.toList.drop (sIx items.size 0 lo)).take (sIx items.size items.size hi - sIx items.size 0 lo)).toArray } })
    (hsz : items.size ≤ sizeLine) : wpAny (model prog w) A (getItem (.ref t) (.ref sl)) Q E s := by
  have htake : sizeOk (.seq ((items.toList.drop (sIx items.size 0 lo)).take (sIx items.size items.size hi - sIx items.size 0 lo)).toArray) := by
    show ((items.toList.drop (sIx items.size 0 lo)).take (sIx items.size items.size hi - sIx items.size 0 lo)).toArray.size ≤ sizeLine
    rw [List.size_toArray, List.length_take, List.length_drop, Array.length_toList]
    omega
  have hj : sIx items.size items.size hi ≤ items.size := sIx_le _ _ (Nat.le_refl _) hi
  obtain ⟨os, hos, hcs, hds⟩ := id hs
  have hTs : s.TypeIs (.ref sl) "slice" := ⟨os, hos, hcs⟩
  unfold getItem
  try with_reducible refine wpAny_holding ?_
  first | refine wpAny_bind (wpAny_pure ?_) | skip
  refine wpAny_bind (wpAny_sequenceKey ht.typeIs (by decide) ?_)
  refine wpAny_bind (wpAny_callSpecial?_slot (name := Str.ofString "__getitem__") ht.typeIs PyProof.Rows.slot_tuple_getitem
    (wpAny_call_entry PyProof.Rows.slot_tuple_getitem ht.typeIs entry_tuple_getitem ?_ (args_tuple_getitem _ _)))
  show wpAny _ _ (Builtin.Tuple.tupleItemsOf (.ref t) >>= _) _ _ s
  refine wpAny_bind (tupleItemsOf_ ht ?_)
  refine wpAny_bind (wpAny_typeOf hTs ?_)
  rw [if_pos (by decide)]
  refine wpAny_bind (sliceApplied_gen hs pl pu ?_)
  have hno : ¬ ((((sIx items.size 0 lo : Nat) : Int) == 0 && (1 : Int) == 1 && (sIx items.size items.size hi - sIx items.size 0 lo) == items.size) = true) := by
    intro q
    rw [Bool.and_eq_true, Bool.and_eq_true] at q
    have q1 : ((sIx items.size 0 lo : Nat) : Int) = 0 := eq_of_beq q.1.1
    have q2 : sIx items.size items.size hi - sIx items.size 0 lo = items.size := eq_of_beq q.2
    exact hw ⟨by omega, by omega⟩
  show wpAny _ _ (if (((sIx items.size 0 lo : Nat) : Int) == 0 && (1 : Int) == 1 && (sIx items.size items.size hi - sIx items.size 0 lo) == items.size) = true then _ else _) _ _ s
  rw [if_neg hno, pick_gen]
  first
    | exact wpAny_bind (m := Builtin.Tuple.tupleExact _) (wpAny_newObj_type (wpAny_pure ⟨_, rfl, wpAny_pure h⟩) htake)
    | exact wpAny_bind (m := Builtin.Tuple.tupleExact _) (wpAny_newObj_type (wpAny_bind (wpAny_pure (wpAny_pure ⟨_, rfl, wpAny_pure h⟩))) htake)
    | exact wpAny_bind (wpAny_bind (m := Builtin.Tuple.tupleExact _) (wpAny_newObj_type (wpAny_pure (wpAny_pure ⟨_, rfl, wpAny_pure h⟩)) htake))
    | exact wpAny_bind (wpAny_bind (m := Builtin.Tuple.tupleExact _) (wpAny_newObj_type (wpAny_pure ⟨_, rfl, wpAny_pure h⟩) htake))
end
end HT
namespace L2
open PySem PySem.Spec PyProof.Rows
abbrev TO := St → Hp → (Option Int → Hp → Prop) → Prop
def PO (X : Cx) (e : Option Expr) (t : TO) : Prop :=
  ∀ (pins : List (Addr × Obj)) (s : Shared) (σ : St) (H : Hp) (Q : Option Int → Hp → Prop), Inv X pins σ H s → t σ H Q →
    wpAny (model X.prog X.w) X.A (evalPart e X.env) (fun u s' => ∃ o H', Inv X pins σ H' s' ∧ IsPart u o ∧ Q o H') X.xe s
def tNoPart : TO := fun _ H Q => Q none H
def tPart (t : TE) : TO := fun σ H Q => t σ H fun x H1 => ∃ i, x = .int i ∧ Q (some i) H1
section
variable {X : Cx} {e : Expr} {te : TE} {lo hi : Option Expr} {tl th : TO} {pos p2 : Pos}
theorem po_none : PO X none tNoPart := by
  intro pins s σ H Q I h
  rw [evalPart_none]
  exact wpAny_pure ⟨none, H, I, .none, h⟩
theorem po_some (h : PE X e te) : PO X (some e) (tPart te) := by
  intro pins s σ H Q I hw
  rw [evalPart_some]
  refine thn (h pins s σ H _ I hw) fun u s1 ⟨x, H1, I1, r1, q1⟩ => ?_
  obtain ⟨i, rfl, q⟩ := q1
  obtain ⟨t, rfl⟩ := r1
  exact ⟨some i, H1, I1, .int i t, q⟩
def SlR (X : Cx) (r : V → Option Int → Option Int → Hp → VK → Prop) : Prop :=
  ∀ (pins : List (Addr × Obj)) (s : Shared) (σ : St) (H : Hp) (x : V) (v vl vu : Value) (lo hi : Option Int) (sl : Addr) (Q : VK), Inv X pins σ H s → RelV x v → s.heap.IsSliceOf sl vl vu .none → IsPart vl lo → IsPart vu hi → r x lo hi H Q →
    ∃ T id, typeLookup (.type T) "__getitem__" = pure (some (.builtin id)) ∧ s.TypeIs v T ∧ wpAny (model X.prog X.w) X.A (getItem v (.ref sl)) (EP X pins σ Q) X.xe s
def tSl (r : V → Option Int → Option Int → Hp → VK → Prop) (te : TE) (tl th : TO) : TE := fun σ H Q => te σ H fun x H1 => tl σ H1 fun l H2 => th σ H2 fun u H3 => r x l u H3 Q
theorem pe_slice {r : V → Option Int → Option Int → Hp → VK → Prop} (hr : SlR X r) (he : PE X e te) (hl : PO X lo tl) (hu : PO X hi th) : PE X (.Subscript e (.Slice lo hi none p2) pos) (tSl r te tl th) := by
  intro pins s σ H Q I h
  refine Subscript_ (thn (he pins s σ H _ I h) fun v s1 ⟨x, H1, I1, r1, q1⟩ => ?_)
  refine wpAny_Slice (thn (hl pins s1 σ H1 _ I1 q1) fun vl s2 ⟨l, H2, I2, pl, q2⟩ => thn (hu pins s2 σ H2 _ I2 q2) fun vu s3 ⟨u, H3, I3, pu, q3⟩ => ?_)
  rw [evalPart_none]
  refine wpAny_pure ?_
  have I4 : Inv X pins σ H3 { s3 with heap := s3.heap.push { cls := .type "slice", data := .fields #[vl, vu, .none] } } := I3.kept (t' := s3.toks) fun b ob q => Heap.get?_push_of_some _ q
  obtain ⟨T, id, hT, ht, hg⟩ := hr pins { s3 with heap := s3.heap.push { cls := .type "slice", data := .fields #[vl, vu, .none] } } σ H3 x v vl vu l u s3.heap.objs.size Q I4 r1 (Heap.IsSliceOf.new ..) pl pu q3
  show wpAny (model X.prog X.w) X.A (subscriptTail e (.Slice lo hi none p2) v (.ref s3.heap.objs.size)) (EP X pins σ Q) X.xe { s3 with heap := s3.heap.push { cls := .type "slice", data := .fields #[vl, vu, .none] } }
  exact tail_any (ops := [.ref s3.heap.objs.size, v]) ht hT hg (by with_unfolding_all rfl)
def cutV (xs : List V) (lo hi : Option Int) : List V := (xs.drop (HT.sIx xs.length 0 lo)).take (HT.sIx xs.length xs.length hi - HT.sIx xs.length 0 lo)
theorem cutV_length (xs : List V) (lo hi : Option Int) : (cutV xs lo hi).length ≤ xs.length := by
  unfold cutV
  rw [List.length_take, List.length_drop]
  omega
def rSlT (K : PySem.W.Frag) : V → Option Int → Option Int → Hp → VK → Prop := fun x lo hi H Q => ∃ a xs, x = .ref a ∧ SqT K H a xs ∧
  ¬ (HT.sIx xs.length 0 lo = 0 ∧ HT.sIx xs.length xs.length hi = xs.length) ∧ ∀ p, H p = none → Q (.ref p) (upd H p (.tup (cutV xs lo hi)))
theorem sl_tup : SlR X (rSlT X.K) := by
  intro pins s σ H x v vl vu lo hi sl Q I rx hs pl pu h
  obtain ⟨a, xs, rfl, hx, hw, q⟩ := h
  cases rx
  obtain ⟨its, r, ht, hz⟩ := I.tuple hx
  have hlen : its.toArray.size = xs.length := by rw [List.size_toArray]; exact r.length.symm
  refine ⟨"tuple", _, PyProof.Rows.slot_tuple_getitem.lookup, ht.typeIs, ?_⟩
  refine HT.getItem_tuple_cut ht hs pl pu (by rw [hlen]; exact hw) ?_ (by rw [hlen]; exact hz)
  rw [hlen]
  refine ⟨.ref s.heap.objs.size, _, I.laid (t' := s.toks) (o := .tup (cutV xs lo hi)) (fun b ob q => Heap.get?_push_of_some _ q) (Nat.le_refl _) ?_, rfl, q _ (I.hok.fresh (Nat.le_refl _))⟩
  exact ⟨Nat.le_trans (cutV_length xs lo hi) hz, _, (r.drop (HT.sIx xs.length 0 lo)).take (HT.sIx xs.length xs.length hi - HT.sIx xs.length 0 lo), IsTup.new _ _⟩
end
end L2
namespace L2
open PySem PySem.Spec PyProof.Rows
def ixN (n : Nat) (i : Int) : Option Nat := if 0 ≤ i then (if i < n then some i.toNat else none) else if -(n : Int) ≤ i then some (i + n).toNat else none
def atI {α : Type} (xs : List α) (i : Int) : Option α := (ixN xs.length i).bind fun j => xs[j]?
theorem ixN_seq {n : Nat} {i : Int} {j : Nat} (h : ixN n i = some j) : seqIndex? i n = some j ∧ j < n ∧ -(n : Int) ≤ i ∧ i < n := by
  unfold ixN at h
  by_cases h0 : 0 ≤ i
  · rw [if_pos h0] at h
    by_cases h1 : i < n
    · rw [if_pos h1] at h
      have e : i.toNat = j := Option.some.inj h
      exact ⟨by rw [seqIndex_of h0 h1, e], by omega, by omega, h1⟩
    · rw [if_neg h1] at h; cases h
  · rw [if_neg h0] at h
    by_cases h1 : -(n : Int) ≤ i
    · rw [if_pos h1] at h
      have e : (i + n).toNat = j := Option.some.inj h
      exact ⟨by rw [seqIndex_neg (by omega) h1, e], by omega, h1, by omega⟩
    · rw [if_neg h1] at h; cases h
theorem atI_get {α : Type} {xs : List α} {i : Int} {v : α} (h : atI xs i = some v) : ∃ j, seqIndex? i xs.length = some j ∧ xs[j]? = some v ∧ j < xs.length ∧ -(xs.length : Int) ≤ i ∧ i < xs.length := by
  unfold atI at h
  cases e : ixN xs.length i with
  | none => rw [e] at h; cases h
  | some j =>
    rw [e] at h
    obtain ⟨h1, h2, h3, h4⟩ := ixN_seq e
    exact ⟨j, h1, h, h2, h3, h4⟩
theorem atI_nat {α : Type} {xs : List α} {j : Nat} {v : α} (h : xs[j]? = some v) : atI xs (j : Int) = some v := by
  have hj : j < xs.length := (List.getElem?_eq_some_iff.mp h).1
  have e : ixN xs.length (j : Int) = some j := by
    unfold ixN
    rw [if_pos (by omega), if_pos (by omega)]; simp
  unfold atI; rw [e]; exact h
def PlainIx (b : Expr) : Prop := ∀ o i, subscripted b false o i = operate [o, i] (getItem o i)
def IxR (X : Cx) (r : R2) : Prop :=
  ∀ (value slice : Expr) (pins : List (Addr × Obj)) (s : Shared) (σ : St) (H : Hp) (x y : V) (v u : Value) (Q : VK), Inv X pins σ H s → RelV x v → RelV y u → r x y H Q →
    subscripted slice false v u = operate [v, u] (getItem v u) → wpAny (model X.prog X.w) X.A (subscriptTail value slice v u) (EP X pins σ Q) X.xe s
def MtR (X : Cx) (id : String) (r : V → List V → Hp → VK → Prop) : Prop :=
  ∀ (pins : List (Addr × Obj)) (s : Shared) (σ : St) (H : Hp) (x : V) (xs : List V) (v : Value) (us : List Value) (Q : VK), Inv X pins σ H s → RelV x v → Vals xs us → r x xs H Q →
    wpAny (model X.prog X.w) X.A (call (.builtin id) (v :: us)) (EP X pins σ Q) X.xe s
section
variable {X : Cx} {a b : Expr} {ta tb : TE} {pos : Pos}
theorem pe_ix {r : R2} (hr : IxR X r) (ha : PE X a ta) (hb : PE X b tb) (hs : PlainIx b) : PE X (.Subscript a b pos) (tOp r ta tb) := by
  intro pins s σ H Q I h
  exact Subscript_ (binT ha hb I h fun v u s2 x y H2 I2 rx ry q => hr a b pins s2 σ H2 x y v u Q I2 rx ry q (hs _ _))
def rIxL (K : PySem.W.Frag) : R2 := fun x y H Q => ∃ p xs i v, x = .ref p ∧ y = .int i ∧ SqL K H p xs ∧ atI xs i = some v ∧ Q v H
def rIxT (K : PySem.W.Frag) : R2 := fun x y H Q => ∃ p xs i v, x = .ref p ∧ y = .int i ∧ SqT K H p xs ∧ atI xs i = some v ∧ Q v H
def rIxS : R2 := fun x y H Q => ∃ z i c, x = .str z ∧ y = .int i ∧ z.length ≤ sizeLine ∧ atI z.cps.toList i = some c ∧ Q (.str ⟨#[c]⟩) H
theorem ix_list : IxR X (rIxL X.K) := by
  intro value slice pins s σ H x y v u Q I rx ry h hs
  obtain ⟨p, xs, i, z, rfl, rfl, hq, he, q⟩ := h
  cases rx
  obtain ⟨t, rfl⟩ := ry
  obtain ⟨its, r, pl, hz⟩ := I.list hq
  obtain ⟨j, h1, h2, h3, h4, h5⟩ := atI_get he
  obtain ⟨w, ew, rw'⟩ := r.get h2
  have hl := r.length
  have hn := line63
  have fin : EP X pins σ Q w s := ⟨z, H, I, rw', q⟩
  by_cases h0 : 0 ≤ i
  · have hj : i.toNat = j := by
      rw [seqIndex_of h0 h5] at h1
      exact Option.some.inj h1
    exact item_listR pl.isList h0 (by omega) (by rw [hj]; simpa using ew) fin hs
  · have hj : (i + (its.toArray.size : Int)).toNat = j := by
      rw [seqIndex_neg (by omega) h4] at h1
      rw [List.size_toArray, ← hl]
      exact Option.some.inj h1
    exact subscriptTail_builtinR (x := w) pl.isList.typeIs slot_list_getitem.lookup
      (wpAny_getItem_list_neg (Q := fun r s' => r = w ∧ EP X pins σ Q r s') pl.isList (by omega) (by rw [List.size_toArray] <;> omega) (by omega) (by rw [hj]; simpa using ew) ⟨rfl, fin⟩) hs
theorem ix_tup : IxR X (rIxT X.K) := by
  intro value slice pins s σ H x y v u Q I rx ry h hs
  obtain ⟨p, xs, i, z, rfl, rfl, hq, he, q⟩ := h
  cases rx
  obtain ⟨t, rfl⟩ := ry
  obtain ⟨its, r, pl, hz⟩ := I.tuple hq
  obtain ⟨j, h1, h2, h3, h4, h5⟩ := atI_get he
  obtain ⟨w, ew, rw'⟩ := r.get h2
  have hl := r.length
  have hn := line63
  have fin : EP X pins σ Q w s := ⟨z, H, I, rw', q⟩
  exact subscriptTail_builtinR (x := w) pl.typeIs slot_tuple_getitem.lookup
    (getItem_tuple (j := j) (Q := fun r s' => r = w ∧ EP X pins σ Q r s') pl (by omega) (by omega) (by rw [List.size_toArray, ← hl]; exact h1) (by simpa using ew) ⟨rfl, fin⟩) hs
theorem ix_str : IxR X rIxS := by
  intro value slice pins s σ H x y v u Q I rx ry h hs
  obtain ⟨z, i, c, rfl, rfl, hz, he, q⟩ := h
  obtain ⟨t, rfl⟩ := rx
  obtain ⟨t', rfl⟩ := ry
  obtain ⟨j, h1, h2, h3, h4, h5⟩ := atI_get he
  have hl : z.cps.toList.length = z.length := by simp [Str.length]
  rw [hl] at h1 h4 h5
  have hn := line63
  exact tail_any (typeIs_str s z t) slot_str_getitem.lookup (getItem_str (c := c) (by
    have e1 : decide (i < -(2 ^ 63 : Int)) = false := decide_eq_false (by omega)
    have e2 : decide (i ≥ 2 ^ 63) = false := decide_eq_false (by omega)
    rw [e1, e2, Bool.or_false]) (by rw [h1]; simpa using h2) ⟨.str ⟨#[c]⟩, H, I.tok _, ⟨_, rfl⟩, q⟩) hs
theorem Inv.lst {pins : List (Addr × Obj)} {σ : St} {H : Hp} {s : Shared} {p : Addr} {xs : List V} (I : Inv X pins σ H s) (h : H p = some (.lst xs)) :
    ∃ (its : List Value) (n : Nat), Vals xs its ∧ s.heap.get? p = some { cls := .type "list", data := .seq its.toArray n } ∧ xs.length ≤ sizeLine := by
  obtain ⟨z, its, n, r, e⟩ := I.hok p _ h
  exact ⟨its, n, r, e, z⟩
theorem slice_bounds (lo hi : Option Int) (n : Nat) : (sliceBounds lo hi none n).1 = ((HT.sIx n 0 lo : Nat) : Int) ∧ (sliceBounds lo hi none n).2.1 = ((HT.sIx n n hi : Nat) : Int) ∧ (sliceBounds lo hi none n).2.2 = 1 := by
  refine ⟨?_, ?_, rfl⟩
  · cases lo with
    | none => simp [sliceBounds, HT.sIx]
    | some i =>
      simp only [sliceBounds, HT.sIx, Option.getD_none, show (1 : Int) > 0 by decide, if_true]
      by_cases h : i < 0
      · simp only [h, if_true] <;> omega
      · simp only [h, if_false] <;> omega
  · cases hi with
    | none => simp [sliceBounds, HT.sIx]
    | some i =>
      simp only [sliceBounds, HT.sIx, Option.getD_none, show (1 : Int) > 0 by decide, if_true]
      by_cases h : i < 0
      · simp only [h, if_true] <;> omega
      · simp only [h, if_false] <;> omega
theorem slicePick_cut (its : List Value) (lo hi : Option Int) : slicePick its.toArray lo hi none = ((its.drop (HT.sIx its.length 0 lo)).take (HT.sIx its.length its.length hi - HT.sIx its.length 0 lo)).toArray := by
  obtain ⟨h1, h2, h3⟩ := slice_bounds lo hi its.toArray.size
  unfold slicePick
  rw [h1, h2, h3]
  simp only [sliceRange_one, pick_run, List.size_toArray] <;> rfl
def rSlL (K : PySem.W.Frag) : V → Option Int → Option Int → Hp → VK → Prop := fun x lo hi H Q => ∃ a xs, x = .ref a ∧ SqL K H a xs ∧ ∀ p, H p = none → Q (.ref p) (upd H p (.lst (cutV xs lo hi)))
theorem sl_list : SlR X (rSlL X.K) := by
  intro pins s σ H x v vl vu lo hi sl Q I rx hs pl pu h
  obtain ⟨a, xs, rfl, hx, q⟩ := h
  cases rx
  obtain ⟨its, r, ht, hz⟩ := I.list hx
  have hlen := r.length
  refine ⟨"list", _, slot_list_getitem.lookup, ht.isList.typeIs, ?_⟩
  refine wpAny_getItem_list_slice ht.isList hs pl pu .none (by simp) ?_ (by rw [List.size_toArray] <;> omega)
  rw [slicePick_cut, ← hlen]
  refine ⟨.ref s.heap.objs.size, _, I.laid (t' := s.toks) (o := .lst (cutV xs lo hi)) (fun b ob q => Heap.get?_push_of_some _ q) (Nat.le_refl _) ?_, rfl, q _ (I.hok.fresh (Nat.le_refl _))⟩
  exact ⟨Nat.le_trans (cutV_length xs lo hi) hz, _, 0, (r.drop (HT.sIx xs.length 0 lo)).take (HT.sIx xs.length xs.length hi - HT.sIx xs.length 0 lo), Heap.get?_push_size _ rfl⟩
def flatV : V → Bool
  | .non => true
  | .bl _ => true
  | .int _ => true
  | .str _ => true
  | _ => false
def eqV : V → V → Bool
  | .non, .non => true
  | .bl a, .bl b => a == b
  | .bl a, .int b => (if a then 1 else 0) == b
  | .int a, .bl b => a == (if b then 1 else 0)
  | .int a, .int b => a == b
  | .str a, .str b => a == b
  | _, _ => false
theorem eqAt_V {A : Around} {s : Shared} {y x : V} {u v : Value} (ry : RelV y u) (rx : RelV x v) (fy : flatV y = true) (fx : flatV x = true) : SeqAt.EqAt A s u v (eqV y x) := by
  cases y with
  | non =>
    cases ry
    cases x with
    | non => cases rx; exact SeqAt.EqAt.same _
    | bl b => cases rx; exact SeqAt.EqAt.none_bool b
    | int b => obtain ⟨t, rfl⟩ := rx; exact SeqAt.EqAt.none_int b t
    | str b => obtain ⟨t, rfl⟩ := rx; exact SeqAt.EqAt.none_str b t
    | _ => exact absurd (show false = true from fx) Bool.false_ne_true
  | bl a =>
    cases ry
    cases x with
    | non => cases rx; exact SeqAt.EqAt.bool_none a
    | bl b => cases rx; exact SeqAt.EqAt.bool_bool a b
    | int b => obtain ⟨t, rfl⟩ := rx; exact SeqAt.EqAt.bool_int a b t
    | str b => obtain ⟨t, rfl⟩ := rx; exact SeqAt.EqAt.bool_str a b t
    | _ => exact absurd (show false = true from fx) Bool.false_ne_true
  | int a =>
    obtain ⟨t', rfl⟩ := ry
    cases x with
    | non => cases rx; exact SeqAt.EqAt.int_none a t'
    | bl b => cases rx; exact SeqAt.EqAt.int_bool a t' b
    | int b => obtain ⟨t, rfl⟩ := rx; exact SeqAt.EqAt.int_int a t' b t
    | str b => obtain ⟨t, rfl⟩ := rx; exact SeqAt.EqAt.int_str a t' b t
    | _ => exact absurd (show false = true from fx) Bool.false_ne_true
  | str a =>
    obtain ⟨t', rfl⟩ := ry
    cases x with
    | non => cases rx; exact SeqAt.EqAt.str_none a t'
    | bl b => cases rx; exact SeqAt.EqAt.str_bool a t' b
    | int b => obtain ⟨t, rfl⟩ := rx; exact SeqAt.EqAt.str_int a t' b t
    | str b => obtain ⟨t, rfl⟩ := rx; exact SeqAt.EqAt.str_str a t' b t
    | _ => exact absurd (show false = true from fx) Bool.false_ne_true
  | _ => exact absurd (show false = true from fy) Bool.false_ne_true
def eqU (x : V) (u : Value) : Bool := match u with
  | .none => eqV .non x
  | .bool b => eqV (.bl b) x
  | .int i _ => eqV (.int i) x
  | .str z _ => eqV (.str z) x
  | _ => false
theorem eqU_of {x y : V} {u : Value} (r : RelV y u) (f : flatV y = true) : eqU x u = eqV y x := by
  cases y with
  | non => cases r; rfl
  | bl b => cases r; rfl
  | int i => obtain ⟨t, rfl⟩ := r; rfl
  | str z => obtain ⟨t, rfl⟩ := r; rfl
  | _ => exact absurd (show false = true from f) Bool.false_ne_true
theorem any_eqU {x : V} : ∀ {xs : List V} {us : List Value}, Vals xs us → xs.all flatV = true → us.any (eqU x) = xs.any fun y => eqV y x
  | _, _, .nil, _ => rfl
  | y :: xs, u :: us, .cons r t, f => by
    rw [List.all_cons, Bool.and_eq_true] at f
    rw [List.any_cons, List.any_cons, eqU_of r f.1, any_eqU t f.2]
theorem mem_eqAt {A : Around} {s : Shared} {x : V} {v : Value} (rx : RelV x v) (fx : flatV x = true) : ∀ {xs : List V} {us : List Value}, Vals xs us → xs.all flatV = true → ∀ u ∈ us, SeqAt.EqAt A s u v (eqU x u)
  | _, _, .nil, _ => fun u hu => by cases hu
  | y :: xs, u :: us, .cons r t, f => fun u' hu => by
    rw [List.all_cons, Bool.and_eq_true] at f
    rcases List.mem_cons.mp hu with rfl | hu
    · rw [eqU_of r f.1]; exact eqAt_V r rx f.1 fx
    · exact mem_eqAt rx fx t f.2 u' hu
def inV (x : V) (xs : List V) : Bool := xs.any fun y => eqV y x
def rIn (K : PySem.W.Frag) (neg : Bool) : R2 := fun x y H Q => ∃ p xs, y = .ref p ∧ (SqL K H p xs ∨ SqT K H p xs) ∧ flatV x = true ∧ xs.all flatV = true ∧ Q (.bl (if neg then !inV x xs else inV x xs)) H
theorem op_in_seq : OpR X (compareOp .In) (rIn X.K false) := by
  intro pins s σ H x y v u Q I rx ry h
  obtain ⟨p, xs, rfl, hq, fx, fs, q⟩ := h
  cases ry
  rcases hq with hq | hq
  · obtain ⟨its, r, pl, hz⟩ := I.list hq
    refine SeqAt.in_listAt (eqU x) pl.isList (fun w hw => mem_eqAt rx fx r fs w (by simpa using hw)) ⟨.bl _, H, I, rfl, ?_⟩
    rw [show its.toArray.any (eqU x) = its.any (eqU x) by simp, any_eqU r fs]
    exact q
  · obtain ⟨its, r, pl, hz⟩ := I.tuple hq
    refine SeqAt.in_tupleAt (eqU x) pl (fun w hw => mem_eqAt rx fx r fs w (by simpa using hw)) ⟨.bl _, H, I, rfl, ?_⟩
    rw [show its.toArray.any (eqU x) = its.any (eqU x) by simp, any_eqU r fs]
    exact q
theorem call_len_seq : CallR X (.builtin "len") (fun xs H Q => ∃ p ys, xs = [.ref p] ∧ (SqL X.K H p ys ∨ SqT X.K H p ys) ∧ Q (.int ys.length) H) := by
  intro pins s σ H xs us Q I r h
  obtain ⟨p, ys, rfl, hq, q⟩ := h
  obtain ⟨u, rfl, rx⟩ := vals1 r
  cases rx
  have hn := line63
  rcases hq with hq | hq
  · obtain ⟨its, r', pl, hz⟩ := I.list hq
    have hlen := r'.length
    exact Calls.call_len_list pl.isList (by simp only [List.size_toArray] <;> omega) ⟨.int ys.length, H, I.tok _, ⟨s.toks + 1, by rw [List.size_toArray, hlen]⟩, q⟩
  · obtain ⟨its, r', pl, hz⟩ := I.tuple hq
    have hlen := r'.length
    exact len_tuple pl (by simp only [List.size_toArray] <;> omega) ⟨.int ys.length, H, I.tok _, ⟨s.toks + 1, by rw [List.size_toArray, hlen]⟩, q⟩
theorem call_len_str : CallR X (.builtin "len") (fun xs H Q => ∃ z, xs = [.str z] ∧ z.length ≤ sizeLine ∧ Q (.int z.length) H) := by
  intro pins s σ H xs us Q I r h
  obtain ⟨z, rfl, hz, q⟩ := h
  obtain ⟨u, rfl, t, rfl⟩ := vals1 r
  have hn := line63
  exact len_str (by omega) ⟨.int z.length, H, I.tok _, ⟨_, rfl⟩, q⟩
theorem call_list_of : CallR X (.type "list") (fun xs H Q => ∃ p ys, xs = [.ref p] ∧ (SqL X.K H p ys ∨ SqT X.K H p ys) ∧ ∀ l, H l = none → Q (.ref l) (upd H l (.lst ys))) := by
  intro pins s σ H xs us Q I r h
  obtain ⟨p, ys, rfl, hq, q⟩ := h
  obtain ⟨u, rfl, rx⟩ := vals1 r
  cases rx
  have fin : ∀ (its : List Value), Vals ys its → ys.length ≤ sizeLine → ∀ (h' : Heap) (c' : Nat), (∀ b o', s.heap.get? b = some o' → h'.get? b = some o') →
      h'.get? s.heap.objs.size = some { cls := .type "list", dict := none, data := .seq its.toArray c', slots := #[] } → EP X pins σ Q (.ref s.heap.objs.size) { s with heap := h' } := fun its r' hz h' c' kp e =>
    ⟨.ref s.heap.objs.size, _, I.laid (t' := s.toks) kp (Nat.le_refl _) (show ObjOk X.prog X.w _ h' _ (.lst ys) from ⟨hz, its, c', r', e⟩), rfl, q _ (I.hok.fresh (Nat.le_refl _))⟩
  rcases hq with hq | hq
  · obtain ⟨its, r', pl, hz⟩ := I.list hq
    have hlen := r'.length
    obtain ⟨o, ho, hc, n, hd⟩ := pl.isList
    exact call_list_seq p (.inl rfl) ho hc hd (fun h' c' kp e => fin its r' hz h' c' kp e) (by simp only [List.size_toArray] <;> omega)
  · obtain ⟨its, r', pl, hz⟩ := I.tuple hq
    have hlen := r'.length
    obtain ⟨o, ho, hc, n, hd⟩ := pl
    exact call_list_seq p (.inr rfl) ho hc hd (fun h' c' kp e => fin its r' hz h' c' kp e) (by simp only [List.size_toArray] <;> omega)
theorem call_tuple_of : CallR X (.type "tuple") (fun xs H Q => ∃ p ys, xs = [.ref p] ∧ ((SqL X.K H p ys ∧ ∀ l, H l = none → Q (.ref l) (upd H l (.tup ys))) ∨ (SqT X.K H p ys ∧ Q (.ref p) H))) := by
  intro pins s σ H xs us Q I r h
  obtain ⟨p, ys, rfl, h⟩ := h
  obtain ⟨u, rfl, rx⟩ := vals1 r
  cases rx
  rcases h with ⟨hq, q⟩ | ⟨hq, q⟩
  · obtain ⟨its, r', pl, hz⟩ := I.list hq
    have hlen := r'.length
    refine call_tuple_list pl.isList (fun h' kp => ?_) (by simp only [List.size_toArray] <;> omega)
    have I1 : Inv X pins σ H { s with heap := h' } := I.kept (t' := s.toks) kp
    have I2 : Inv X pins σ (upd H h'.objs.size (.tup ys)) { s with heap := h'.push { cls := .type "tuple", data := .seq its.toArray } } :=
      I1.laid (t' := s.toks) (fun b o e => Heap.get?_push_of_some _ e) (Nat.le_refl _) (show ObjOk X.prog X.w _ _ _ (.tup ys) from ⟨hz, its, r', IsTup.new _ _⟩)
    exact ⟨.ref h'.objs.size, _, I2, rfl, q _ (I1.hok.fresh (Nat.le_refl _))⟩
  · obtain ⟨its, r', pl, hz⟩ := I.tuple hq
    exact call_tuple_same pl ⟨.ref p, H, I, rfl, q⟩
def tyV (K : PySem.W.Frag) (T : String) (x : V) (H : Hp) : Prop := match x with
  | .str _ => T = "str"
  | .int _ => T = "int"
  | .ref p => (T = "list" ∧ ∃ xs, SqL K H p xs) ∨ (T = "tuple" ∧ ∃ o, K.lookup p = some o ∧ o.cls = .type "tuple" ∧ o.dict = none) ∨
      (T = "dict" ∧ ((∃ kvs, H p = some (.dK kvs)) ∨ ∃ kvs, H p = some (.dT kvs))) ∨ (T = "set" ∧ ∃ S n, H p = some (.set S n))
  | _ => False
theorem tyV_is {pins : List (Addr × Obj)} {σ : St} {H : Hp} {s : Shared} {T : String} {x : V} {v : Value} (I : Inv X pins σ H s) (r : RelV x v) (ty : tyV X.K T x H) :
    s.TypeIs v T ∧ ∀ a, v = .ref a → ∃ ob, s.heap.get? a = some ob ∧ ob.dict = none := by
  cases x with
  | str z =>
    obtain ⟨t, rfl⟩ := r
    cases (show T = "str" from ty)
    exact ⟨typeIs_str s z t, fun _ e => nomatch e⟩
  | int i =>
    obtain ⟨t, rfl⟩ := r
    cases (show T = "int" from ty)
    exact ⟨typeIs_int s i t, fun _ e => nomatch e⟩
  | ref p =>
    cases r
    rcases ty with ⟨rfl, xs, hq⟩ | ⟨rfl, o, hk, hc, hd⟩ | ⟨rfl, hk⟩ | ⟨rfl, S, n, hk⟩
    · obtain ⟨its, _, pl, _⟩ := I.list hq
      refine ⟨pl.isList.typeIs, fun a e => ?_⟩
      cases e
      obtain ⟨o, n, e, c, hd, _⟩ := pl
      exact ⟨o, e, hd⟩
    · refine ⟨⟨o, I.kIn p o hk, hc⟩, fun a e => ?_⟩
      cases e
      exact ⟨o, I.kIn _ o hk, hd⟩
    · have z : ∃ o, s.heap.get? p = some o ∧ o.ExactDict := by
        rcases hk with ⟨kvs, hk⟩ | ⟨kvs, hk⟩
        · obtain ⟨_, _, _, _, o, _, _, e, ex, _⟩ := I.hok p _ hk
          exact ⟨o, e, ex⟩
        · obtain ⟨_, _, _, _, o, _, _, e, ex, _⟩ := I.hok p _ hk
          exact ⟨o, e, ex⟩
      obtain ⟨o, e, ex⟩ := z
      refine ⟨⟨o, e, ex.1⟩, fun a e2 => ?_⟩
      cases e2
      exact ⟨o, e, ex.2.1⟩
    · obtain ⟨o, _, _, _, e, ex, _⟩ := I.hok p _ hk
      refine ⟨⟨o, e, ex.1⟩, fun a e2 => ?_⟩
      cases e2
      exact ⟨o, e, ex.2.1⟩
  | _ => exact False.elim ty
def tBM0 (K : PySem.W.Frag) (T : String) (r : V → List V → Hp → VK → Prop) (to : TE) : TE := fun σ H Q => to σ H fun x H1 => tyV K T x H1 ∧ r x [] H1 Q
def tBM (K : PySem.W.Frag) (T : String) (r : V → List V → Hp → VK → Prop) (to : TE) (t : TA) : TE := fun σ H Q => to σ H fun x H1 => tyV K T x H1 ∧ t σ H1 fun xs H2 => r x xs H2 Q
variable {o e : Expr} {es : List Expr} {to : TE} {t : TA} {name : Str} {apos cpos : Pos} {T id : String} {r : V → List V → Hp → VK → Prop}
theorem pe_bm (pa : PlainAttrs T) (slot : Slot T name id) (hty : typeOf (.builtin id) = pure (.type "method_descriptor")) (hm : MtR X id r) (ho : PE X o to) (ha : PA X (e :: es) t)
    (hbase : attributeBase o name X.env (eval o X.env) = eval o X.env := by rfl)
    (hfew : ((backTo cpos (starEach (e :: es) X.env)).all (fun x => !x.1) && (backToKw cpos (keywordEach [] X.env)).all (fun x => x.1.isSome)
      && decide ((e :: es).length + ([] : List Keyword).length + (if ([] : List Keyword).isEmpty then 0 else 1) < 30)) = true := by rfl)
    (hline : (apos.endLine == cpos.line) = true := by rfl) (hs : starEach (e :: es) X.env = (false, eval e X.env) :: starEach es X.env := by rfl) (hplain : (backTo cpos (starEach es X.env)).any (·.1) = false := by rfl) :
    PE X (.Call (.Attribute o name apos) (e :: es) [] cpos) (tBM X.K T r to t) := by
  intro pins s σ H Q I h
  refine wpAny_Call_method_late hbase hfew hline rfl (thn (ho pins s σ H _ I h) fun v s1 ⟨x, H1, I1, r1, ty, q1⟩ => ?_)
  obtain ⟨h1, h2⟩ := tyV_is I1 r1 ty
  refine ⟨T, id, pa, slot, hty, h1, h2, ?_⟩
  have hA := ha cpos pins s1 σ H1 _ I1 q1
  rw [hs] at hA ⊢
  refine Calls.callWith_builtin (by show (false || (backTo cpos (starEach es X.env)).any (·.1)) = false; rw [hplain] <;> rfl) (Calls.evalArgs_plain ?_)
  exact thn hA fun us s2 ⟨vs, H2, I2, r2, q2⟩ => hm pins s2 σ H2 x vs v us Q I2 r1 r2 q2
end
end L2
namespace L2
open PySem PySem.Spec PyProof.Rows
def MtM (X : Cx) (id : String) (r : V → List V → Hp → VK → Prop) : Prop :=
  ∀ (pins : List (Addr × Obj)) (s : Shared) (σ : St) (H : Hp) (x : V) (xs : List V) (v : Value) (us : List Value) (Q : VK), Inv X pins σ H s → RelV x v → Vals xs us → r x xs H Q →
    wpAny (model X.prog X.w) X.A (call (.builtin id) (v :: us)) (EP X pins σ Q) X.xe s
theorem Vals.one : ∀ {x : V} {us : List Value}, Vals [x] us → ∃ u, us = [u] ∧ RelV x u
  | _, _, .cons r .nil => ⟨_, rfl, r⟩
theorem Vals.two : ∀ {x y : V} {us : List Value}, Vals [x, y] us → ∃ u v, us = [u, v] ∧ RelV x u ∧ RelV y v
  | _, _, _, .cons r (.cons q .nil) => ⟨_, _, rfl, r, q⟩
theorem Vals.zero : ∀ {us : List Value}, Vals [] us → us = []
  | _, .nil => rfl
section
variable {X : Cx} {pins : List (Addr × Obj)} {σ : St} {H : Hp} {s : Shared} {l b : Addr} {xs ys zs : List V}
theorem Inv.lset {its its' : List Value} {n : Nat} {f : Array Value → Array Value} {t' : Nat} (I : Inv X pins σ H s) (hH : H l = some (.lst xs))
    (e : s.heap.get? l = some { cls := .type "list", data := .seq its.toArray n }) (hf : f its.toArray = its'.toArray) (hv : Vals ys its') (hz : ys.length ≤ sizeLine) :
    Inv X pins σ (upd H l (.lst ys)) { s with heap := s.heap.update l (Obj.mapSeq f), toks := t' } := by
  have q := PySem.IsL.update e f
  rw [hf] at q
  refine I.write (x := l) (e := l) (by rw [hH]; exact trivial) (.inl rfl) (fun b' u hb hu => (Heap.get?_update_other s.heap (Obj.mapSeq f) (Ne.symm hb)).trans hu) ⟨_, q⟩ ?_
  exact ⟨hz, its', _, hv, q⟩
theorem Inv.lnew {its : List Value} {t' : Nat} (I : Inv X pins σ H s) (hv : Vals ys its) (hz : ys.length ≤ sizeLine) :
    Inv X pins σ (upd H s.heap.objs.size (.lst ys)) { s with heap := s.heap.push { cls := .type "list", data := .seq its.toArray }, toks := t' } :=
  I.laid (fun _ _ q => Heap.get?_push_of_some _ q) (Nat.le_refl _) ⟨hz, its, 0, hv, Heap.get?_push_size _ rfl⟩
theorem Inv.fresh (I : Inv X pins σ H s) : H s.heap.objs.size = none := I.hok.fresh (Nat.le_refl _)
theorem Inv.lstM (I : Inv X pins σ H s) (hH : H l = some (.lst xs)) : xs.length ≤ sizeLine ∧ ∃ (its : List Value) (n : Nat), Vals xs its ∧ xs.length = its.length ∧ s.heap.get? l = some { cls := .type "list", data := .seq its.toArray n } := by
  obtain ⟨z, its, n, r, e⟩ := I.hok l _ hH
  exact ⟨z, its, n, r, r.length, e⟩
end
section
variable {X : Cx}
def rAppend : V → List V → Hp → VK → Prop := fun x vs H Q => ∃ l xs y, x = .ref l ∧ vs = [y] ∧ H l = some (.lst xs) ∧ xs.length < sizeLine ∧ Q .non (upd H l (.lst (xs ++ [y])))
theorem mt_append : MtM X "list.append" rAppend := by
  intro pins s σ H x vs v us Q I rx rv h
  obtain ⟨l, xs, y, rfl, rfl, hH, hz, q⟩ := h
  cases rx
  obtain ⟨u, rfl, ru⟩ := rv.one
  obtain ⟨z, its, n, r, hl, e⟩ := I.lstM hH
  refine call_meets F.slot_list_append ⟨_, e, rfl⟩ F.entry_list_append (F.args_list_append_2 _ _) (PySem.list_append l its.toArray n u (by rw [List.size_toArray]; omega)) ⟨e, ?_⟩
  refine ⟨.non, _, I.lset (its' := its ++ [u]) hH e (by simp) (r.append (.cons ru .nil)) ?_, rfl, q⟩
  rw [List.length_append, List.length_singleton]
  omega
end
section
variable {prog : Program} {w : World} {A : Around} {E : Value → Shared → Prop} {s : Shared}
set_option maxRecDepth 100000 in
end
section
variable {X : Cx}
end
end L2
namespace Att
open PySem PySem.W PySem.Calls PyProof.Rows
theorem ints_of_wellAll {P : Params} {h : Heap} : ∀ (ns : List Int) (vs : List Value), WellAll P h vs (ns.map WData.int) → IntsAre vs ns := by
  intro ns
  induction ns with
  | nil =>
    intro vs w
    rw [List.map_nil] at w
    cases w
    exact .nil
  | cons n ns ih =>
    intro vs w
    rw [List.map_cons] at w
    cases w with
    | cons a b =>
      cases a
      exact .cons _ _ (ih _ b)
theorem script_of {l : OpenLaw} {n : Nat} (hn : l.most = some n) {P : Params} {h : Heap} {args : List WData} {vals : List Value}
    (hpre : l.row.toRowW.claim.pre args = true) (hwl : WellAll P h vals args) :
    ∃ a vs ns, vals = [Value.ref a] ∧ args = [WData.list (ns.map WData.int)] ∧ h.get? a = some { cls := .type "list", data := .seq vs.toArray } ∧ IntsAre vs ns ∧ ns.length ≤ n := by
  have hsh : WShape.hasAll [] args [.list .int] = true := (pre_splitW hpre).1
  have hc : l.pre.holds [] { args := args } = true := (pre_splitW hpre).2
  obtain ⟨d, r, rfl, h1, h2⟩ := hasAllW_cons hsh
  obtain rfl := hasAllW_nil h2
  obtain ⟨xs, rfl, h3⟩ := hasW_list h1
  obtain ⟨ns, rfl⟩ := items_int h3
  have hlen : ns.length ≤ n := by
    unfold OpenLaw.pre at hc
    have h4 : (WTm.not (.lt (.lit (.int (n : Int))) (.len (.arg 0)))).holds [] { args := [.list (ns.map .int)] } = true := by
      have h4 := (holds_andW hc).1
      rw [hn] at h4
      exact h4
    have h5 := condW_of h4 (w_not (w_lt w_lit (w_len_list (w_arg rfl))))
    rw [List.length_map] at h5
    refine Nat.le_of_not_lt fun q => ?_
    have q' : (n : Int) < ((ns.length : Nat) : Int) := by omega
    first
      | (rw [decide_eq_true q'] at h5; exact absurd h5 (by decide))
      | (simp at h5; omega)
  cases hwl with
  | cons w1 w2 =>
    cases w2
    cases w1 with
    | list ho hall => exact ⟨_, _, ns, rfl, rfl, ho, ints_of_wellAll ns _ hall, hlen⟩
theorem post_true (l : OpenLaw) (args : List WData) : l.row.toRowW.claim.post args (.bool true) args = true :=
  postW_of (r := l.row.toRowW) (X := (true == true))
    (show WShape.has [] (.bool true) .bool = true by first | rfl | decide | simp [WShape.has, WShape.arms, WShape.armsAll])
    (show (WTm.eq .res (.lit (.bool true))).value [] { args := args, res := some (.bool true), after := args } = some (.bool (true == true)) from w_eq_bool (w_res rfl) w_lit) rfl
theorem attach_call {l : OpenLaw} {n : Nat} {q : Program} {loose : List Str} {XP : (Str → Option Value) → Heap → Prop} {YP : World → Heap → Prop} {d : DefRec}
    (hn : l.most = some n) (hdf : d.params.defaults = [])
    (call : ∀ (w : World) (s₀ s₁ : Shared) (mg mb : Str → Option Value) (fa : Addr) (o : Obj) (pm cd doc : Value) (a : Addr) (vs : List Value) (ns : List Int),
      Ground q loose [] XP w s₀ mg mb s₁.heap → YP w s₁.heap →
      s₁.heap.get? fa = some o → o.data = .func (docDef d.name d.params d.body d.scope pm cd doc) → s₁.heap.CodeRec cd d.name → mg d.name = some (.ref fa) →
      s₁.heap.get? a = some { cls := .type "list", data := .seq vs.toArray } → IntsAre vs ns → ns.length ≤ n → s₁.gens = #[] →
      codeAny (model l.prog w) callerA (.call (.ref fa) ⟨[.ref a], []⟩) (fun r s' => r = .ok (.ret (.bool true)) ∧ OldK s₁.heap s'.heap ∧ s'.os = s₁.os ∧ AllBare s'.gens) s₁) :
    WalkO q loose XP YP l.row.toRowW d [] (fun f vs => PySem.call f vs) := by
  intro w s₀ s₁ mg mb G Y fa o pm cd doc dV kV ho hd hcd hD hmg hg args vals as hpre hlay hrd hwl hlo
  obtain rfl : dV = .none := Dflts.none hD hdf
  obtain rfl : kV = .none := Dflts.noKw hD
  obtain ⟨a, vs, ns, rfl, rfl, hobj, hints, hlen⟩ := script_of hn hpre hwl
  refine enter_call (codeAny_mono (call w s₀ s₁ mg mb fa o pm cd doc a vs ns G Y ho (fd_plain hd) hcd hmg hobj hints hlen hg) fun r s' hq => ?_)
  obtain ⟨rfl, h2, h3, h4⟩ := hq
  exact ⟨.inl ⟨.bool true, .bool true, [], rfl, fun _ => rfl, .bool true, post_true l _, fun _ => ⟨List.Pairwise.nil, fun _ hm => (nomatch hm)⟩⟩, h2, h3, h4⟩
section
variable {prog : Program} {w : World} {A : Around} {E : Value → Shared → Prop} {s : Shared} {K : Frag}
end
end Att
namespace L2
open PySem PySem.Spec PyProof.Rows
theorem vals_ints : ∀ {vs : List Value} {ns : List Int}, IntsAre vs ns → Vals (ns.map V.int) vs
  | _, _, .nil => .nil
  | _, _, .cons n t h => .cons ⟨t, rfl⟩ (vals_ints h)
def Only (H : Hp) : Prop := ∀ b, H b = none ∨ ∃ o xs, H b = some (.frz o (.lst xs))
theorem law_call {P : Program} {w : World} {K : PySem.W.Frag} {mg mb : Str → Option Value} {CX : CXT} {k : Nat} {fa a : Addr} {fd : FuncData} {x : Str} {sp : Sp} {s₁ : Shared} {vs : List Value} {ns : List Int}
    (KX : K.In s₁.heap) (hns : s₁.heap.Ns mainGlobals mg) (hb : s₁.heap.Ns builtinsNs mb) (hbb : ∀ x : Str, x ≠ "__name__" → mb x = bootBuiltins x) (hlim : s₁.heap.NoLimit) (hg : s₁.gens = #[])
    (ha : s₁.heap.get? a = some { cls := .type "list", data := .seq vs.toArray }) (hi : IntsAre vs ns) (hl : ns.length ≤ sizeLine) (hr : Room k callerA)
    (F : ∀ base : Heap, K.In base → base.Ns mainGlobals mg → FnOk P w K mg base CX k fa fd [x] sp) (hbind : ∀ (s : Shared) (u : Value), BindsTo s fd ⟨[u], []⟩ [(x, u)])
    (hsp : ∀ H : Hp, Only H → SqL K H a (ns.map V.int) → sp [.ref a] H (fun v _ => v = .bl true) fun _ _ _ => False)
    (hCX : ∀ H e s', CX [] H s₁ (fun _ _ _ => False) e s' → False) :
    codeAny (model P w) callerA (.call (.ref fa) ⟨[.ref a], []⟩) (fun r s' => r = .ok (.ret (.bool true)) ∧ OldK s₁.heap s'.heap ∧ s'.os = s₁.os ∧ AllBare s'.gens) s₁ := by
  have rv := vals_ints hi
  have lenV := hi.length
  have core : ∀ H : Hp, Only H → SqL K H a (ns.map V.int) → HOk P w H s₁.heap → (∀ b, H b ≠ none → b = a) → (H a ≠ none → K.lookup a = none) →
      codeAny (model P w) callerA (.call (.ref fa) ⟨[.ref a], []⟩) (fun r s' => r = .ok (.ret (.bool true)) ∧ OldK s₁.heap s'.heap ∧ s'.os = s₁.os ∧ AllBare s'.gens) s₁ := by
    intro H hO hS hok hA hK
    have base_of : ∀ {b : Addr} {o : Obj}, s₁.heap.get? b = some o → H b = none → (hidT s₁.heap H).get? b = some o := fun e n => hidT_get e n
    have noA : ∀ {b : Addr} {o : Obj} {es : Array DictEntry} {ep : Nat}, s₁.heap.get? b = some o → o.data = .dict es ep → H b = none := fun {b o es ep} e d => by
      cases q : H b with
      | none => rfl
      | some u =>
        have e' : b = a := hA b (by rw [q]; simp)
        subst e'
        rw [ha] at e; cases e
        have d' : Data.seq vs.toArray _ = Data.dict es ep := d
        cases d'
    have nsK : ∀ {b : Addr} {m : Str → Option Value}, s₁.heap.Ns b m → (hidT s₁.heap H).Ns b m := fun {b m} ⟨o, es, ep, e, d, r⟩ => ⟨o, es, ep, base_of e (noA e d), d, r⟩
    have hKb : K.In (hidT s₁.heap H) := fun b o e => base_of (KX b o e) (by
      cases q : H b with
      | none => rfl
      | some u =>
        have e' : b = a := hA b (by rw [q]; simp)
        subst e'
        rw [hK (by rw [q]; simp)] at e; cases e)
    have hM : Mod K mg (hidT s₁.heap H) := ⟨hKb, nsK hns, ⟨mb, nsK hb, hbb⟩, let ⟨mc, h1, h2⟩ := hlim; ⟨mc, nsK h1, h2⟩⟩
    have e0 : Env0 P w K mg (hidT s₁.heap H) callerA [] s₁ H := ⟨rfl, hM, fun b o e => of_hidT e, Nat.le_of_eq (hidT_size _ _), trivial, fun b hb => absurd (show b ∈ ([] : List Addr) from hb) (by simp), hok, .of_eq hg⟩
    refine codeAny_mono ((F _ hKb (nsK hns)).run callerA [] s₁ H ⟨[.ref a], []⟩ [.ref a] [.ref a] _ _ hr e0 (hbind s₁ (.ref a)) (.cons rfl .nil) (hsp H hO hS)) fun r s' h => ?_
    cases r with
    | error e => exact (hCX H e s' h).elim
    | ok fl =>
      cases fl with
      | next => exact False.elim h
      | brk => exact False.elim h
      | cont => exact False.elim h
      | ret u =>
        obtain ⟨v, H', os, bare, un, hok', r', q⟩ := h
        have q' : v = .bl true := q
        subst q'
        obtain rfl : u = Value.bool true := r'
        refine ⟨rfl, OldK.of_keep fun b o e => ?_, os, bare⟩
        cases q : H b with
        | none => exact un.keep b o e q (by intro z; exact absurd (show b ∈ ([] : List Addr) from z) (by simp)) (by simp)
        | some u =>
          rcases hO b with z | ⟨ob, xs, z⟩
          · rw [q] at z; cases z
          · have z2 := un.frzs b ob _ z
            obtain ⟨e1, _⟩ := hok b _ z
            obtain ⟨e2, _⟩ := hok' b _ z2
            rw [e] at e1; cases e1
            exact e2
  cases hk : K.lookup a with
  | some o =>
    have e := KX a o hk
    rw [ha] at e
    cases e
    refine core (fun _ => none) (fun _ => .inl rfl) (.inr ⟨_, vs.toArray, _, hk, rfl, rfl, rfl, by rw [List.size_toArray, lenV]; exact hl, by simpa using rv⟩) (fun b u z => by have z' : (none : Option HO) = some u := z; cases z') (fun b z => absurd rfl z) fun z => absurd rfl z
  | none =>
    refine core (fun b => if b = a then some (.frz { cls := .type "list", data := .seq vs.toArray } (.lst (ns.map V.int))) else none) (fun b => ?_) (.inl (.inr ⟨{ cls := .type "list", data := .seq vs.toArray }, if_pos rfl⟩)) (fun b u z => ?_) (fun b z => ?_) fun _ => hk
    · by_cases hb : b = a
      · exact .inr ⟨_, _, if_pos hb⟩
      · exact .inl (if_neg hb)
    · by_cases hb : b = a
      · have z' := (if_pos hb).symm.trans z
        cases z'
        subst hb
        exact ⟨ha, by rw [List.length_map]; exact hl, vs, _, rv, ha⟩
      · have z' := (if_neg hb).symm.trans z
        cases z'
    · by_cases hb : b = a
      · exact hb
      · exact absurd (if_neg hb) z
end L2
namespace L2
open PySem PySem.Spec PyProof.Rows
theorem walk_of {l : PySem.W.OpenLaw} {n k : Nat} {q : Program} {loose : List Str} {XP : (Str → Option Value) → Heap → Prop} {YP : World → Heap → Prop} {d : DefRec} {K : Params → PySem.W.Frag} {CX : World → CXT} {sp : World → Sp} {x : Str}
    (hn : l.most = some n) (hn2 : n ≤ sizeLine) (hdf : d.params.defaults = []) (hr : Room k callerA)
    (hY : ∀ (w : World) (h : Heap), YP w h → (K w.params).In h)
    (F : ∀ (w : World) (mg : Str → Option Value) (fa : Addr) (h : Heap), (K w.params).In h → h.Ns mainGlobals mg → mg d.name = some (.ref fa) →
      ∃ fd : FuncData, (∀ (s : Shared) (u : Value), BindsTo s fd ⟨[u], []⟩ [(x, u)]) ∧
        ∀ base : Heap, (K w.params).In base → base.Ns mainGlobals mg → FnOk l.prog w (K w.params) mg base (CX w) k fa fd [x] (sp w))
    (hsp : ∀ (w : World) (H : Hp) (a : Addr) (ns : List Int), ns.length ≤ n → Only H → SqL (K w.params) H a (ns.map V.int) → sp w [.ref a] H (fun v _ => v = .bl true) fun _ _ _ => False)
    (hCX : ∀ (w : World) (H : Hp) (s : Shared) (e : Value) (s' : Shared), CX w [] H s (fun _ _ _ => False) e s' → False) :
    PySem.W.WalkO q loose XP YP l.row.toRowW d [] (fun f vs => PySem.call f vs) := by
  refine Att.attach_call hn hdf fun w s₀ s₁ mg mb fa o pm cd doc a vs ns G Y ho hd hcd hmg hobj hints hlen hg => ?_
  have KX := hY w _ Y
  obtain ⟨fd, hb, hF⟩ := F w mg fa _ KX G.T.g hmg
  exact law_call KX G.T.g G.T.b G.T.builtins G.T.nolimit hg hobj hints (Nat.le_trans hlen hn2) hr hF hb (fun H hO hS => hsp w H a ns hlen hO hS) fun H e s' => hCX w H s₁ e s'
end L2
namespace L2
open PySem PySem.Spec PyProof.Rows
def inClass (s : Stmt) (j : Nat) : Stmt := match s with
  | .ClassDef _ _ _ body _ _ _ _ _ _ _ => body.getD j (.Pass ⟨0, 0, 0, 0⟩)
  | _ => .Pass ⟨0, 0, 0, 0⟩
def defArgs (s : Stmt) : Arguments := match s with
  | .FunctionDef _ a _ _ _ _ _ _ _ _ => a
  | _ => { posonlyargs := [], args := [], vararg := none, kwonlyargs := [], kw_defaults := [], kwarg := none, defaults := [] }
def defBody (s : Stmt) : List Stmt := match s with
  | .FunctionDef _ _ b _ _ _ _ _ _ _ => b
  | _ => []
def defScope (s : Stmt) : Scope := match s with
  | .FunctionDef _ _ _ _ _ _ sc _ _ _ => sc
  | _ => { kind := .function, names := [], isGenerator := false, isCoroutine := false }
abbrev CX0 : CXT := fun _ _ _ _ _ _ => False
abbrev E0 : XK := fun _ _ _ => False
theorem pass0 {X : Cx} : Passes CX0 X E0 := fun _ _ _ _ _ _ _ h => h.elim
structure Fun (K : PySem.W.Frag) (x qual : Str) (st : Stmt) (f : Addr) (fd : FuncData) : Prop where
  ex : ∃ (oc : Value) (od : Option Addr) (kV doc pm : Value) (an : Option Addr) (cdv ct : Value) (osl : Array (Option Value)),
    fd = PySem.W.fnOf x qual (defArgs st) (defBody st) (defScope st) .none kV doc pm an cdv ct ∧ K.lookup f = some ⟨oc, od, .func fd, osl⟩ ∧ PySem.W.codeIn K cdv qual = true
  kp : PySem.W.keepIn K (.ref f) = true
section
variable {P : Program} {w : World} {K : PySem.W.Frag} {mg : Str → Option Value} {base : Heap}
theorem Fun.ok {x qual : Str} {st : Stmt} {f : Addr} {fd : FuncData} {N ps : List Str} {k : Nat} {sp : Sp} (F : Fun K x qual st f fd) (S : FnScope N ps (defScope st)) (len : ∀ vs H Q E, sp vs H Q E → vs.length = ps.length)
    (hbody : ∀ (cdv : Value) (A : Around) (outer : List Env) (s : Shared) (H : Hp) (vs : List V) (Q : VK) (E : XK), Room k (A.deeper (envOfC qual (defScope st) s.heap.objs.size f cdv)) → sp vs H Q E →
      ∃ t, PSs (cxOf CX0 P w K mg base N qual (defScope st) f cdv A outer s H E).nox (defBody st) t ∧ t { nx := fun _ H' => Q .non H', rt := Q } (start N vs) H) : FnOk P w K mg base CX0 (k + 1) f fd ps sp := by
  obtain ⟨oc, od, kV, doc, pm, an, cdv, ct, osl, rfl, lk, hcd⟩ := F.ex
  refine fn_of lk hcd S len fun A outer s H vs Q E hr hsp => ?_
  obtain ⟨t, h, q⟩ := hbody cdv A outer s H vs Q E hr hsp
  exact ⟨t, h.nox, q⟩
theorem Fun.binds {x qual : Str} {st : Stmt} {f : Addr} {fd : FuncData} {ps : List Str} (F : Fun K x qual st f fd)
    (h : ∀ (kV doc pm : Value) (an : Option Addr) (cdv ct : Value) (us : List Value), us.length = ps.length → bindArgs (PySem.W.fnOf x qual (defArgs st) (defBody st) (defScope st) .none kV doc pm an cdv ct) ⟨us, []⟩ = pure (ps.zip us)) : Binds K fd ps [] := by
  obtain ⟨oc, od, kV, doc, pm, an, cdv, ct, osl, rfl, lk, hcd⟩ := F.ex
  exact .all (h kV doc pm an cdv ct)
theorem fun_mk {x qual : Str} {st : Stmt} {f : Addr} {oc : Value} {od an : Option Addr} {osl : Array (Option Value)} {kV doc pm cdv ct : Value} (l : K.lookup f = some ⟨oc, od, .func (PySem.W.fnOf x qual (defArgs st) (defBody st) (defScope st) .none kV doc pm an cdv ct), osl⟩)
    (c : PySem.W.codeIn K cdv qual = true) (k : PySem.W.keepIn K (.ref f) = true) : Fun K x qual st f (PySem.W.fnOf x qual (defArgs st) (defBody st) (defScope st) .none kV doc pm an cdv ct) := ⟨⟨oc, od, kV, doc, pm, an, cdv, ct, osl, rfl, l, c⟩, k⟩
end
theorem small1000 {n : Nat} (h : n ≤ 1000) : n < sizeLine := Nat.lt_of_le_of_lt h (by decide)
section
variable {X : Cx}
theorem pv (i : Nat) {x : Str} {pos : Pos} (hN : X.N[i]? = some x := by rfl) (hv : Vis X.env.scope x := by first | exact Or.inl rfl | exact Or.inr (Or.inl rfl) | exact Or.inr (Or.inr rfl)) (hd : (x == ("__debug__" : Str)) = false := by decide)
    (hcd : (x == ("__classdict__" : Str)) = false := by decide) : PE X (.Name x pos) (tVar i) := pe_var hN hv hd hcd
end
theorem iteT {A B : Prop} (h : A) : if true = true then A else B := by
  rw [if_pos rfl]
  exact h
theorem ite2 {c A B : Prop} [Decidable c] (h1 : c → A) (h2 : ¬ c → B) : if c then A else B := by
  by_cases h : c
  · rw [if_pos h]
    exact h1 h
  · rw [if_neg h]
    exact h2 h
def Same (H H' : Hp) : Prop := ∀ b o, H b = some o → H' b = some o
theorem Same.refl (H : Hp) : Same H H := fun _ _ h => h
theorem Same.trans {H H1 H2 : Hp} (a : Same H H1) (b : Same H1 H2) : Same H H2 := fun c o h => b c o (a c o h)
theorem Same.free {H H' : Hp} (e : Same H H') {l : Addr} (h : H' l = Option.none) : H l = Option.none := by
  cases q : H l with
  | none => rfl
  | some o =>
    rw [e l o q] at h
    cases h
theorem Same.seq {K : PySem.W.Frag} {H H' : Hp} {a : Addr} {xs : List V} (e : Same H H') (h : SqL K H a xs) : SqL K H' a xs := by
  rcases h with (h | ⟨o, h⟩) | h
  · exact .inl (.inl (e _ _ h))
  · exact .inl (.inr ⟨o, e _ _ h⟩)
  · exact .inr h
end L2
set_option maxHeartbeats 4000000
namespace L2
open PySem PySem.Spec PyProof.Rows
theorem bt_abs : bootBuiltins "abs" = some (.builtin "abs") := by decide +kernel
theorem bt_len : bootBuiltins "len" = some (.builtin "len") := by decide +kernel
theorem bt_isinstance : bootBuiltins "isinstance" = some (.builtin "isinstance") := by decide +kernel
theorem bt_int : bootBuiltins "int" = some (.type "int") := by decide +kernel
theorem bt_bool : bootBuiltins "bool" = some (.type "bool") := by decide +kernel
theorem bt_str : bootBuiltins "str" = some (.type "str") := by decide +kernel
theorem bt_list : bootBuiltins "list" = some (.type "list") := by decide +kernel
theorem bt_tuple : bootBuiltins "tuple" = some (.type "tuple") := by decide +kernel
section
variable {X : Cx} {pos : Pos}
def DivOk (j : Int) : Prop := 0 < j ∧ (j < 1073741824 ∨ j.natAbs.log2 < 9000)
theorem DivOk.small {j : Int} (h : 0 < j) (h2 : j < 1073741824) : DivOk j := ⟨h, .inl h2⟩
theorem op_fdivL : OpR X (binaryOp .FloorDiv) (rI (fun _ j => DivOk j) fun i j => .int (i / j)) := opI fun i j _ _ _ _ _ hc q => by
  have h1 : (0 : Int) < j := hc.1
  refine floordiv_int (by omega) (by rw [Int.fdiv_eq_ediv_of_nonneg i (by omega)]; exact q) (.inl ?_)
  rcases hc.2 with h2 | h2
  · exact PyProof.noPylong_small (by omega)
  · exact PyProof.noPylong_of_log2 h2
def rCatS (K : PySem.W.Frag) : R2 := fun x y H Q => ∃ l b xs zs, x = .ref l ∧ y = .ref b ∧ SqL K H l xs ∧ SqL K H b zs ∧ xs.length + zs.length ≤ sizeLine ∧ ∀ p, H p = none → Q (.ref p) (upd H p (.lst (xs ++ zs)))
theorem op_catS : OpR X (binaryOp .Add) (rCatS X.K) := by
  intro pins s σ H x y v u Q I rx ry h
  obtain ⟨l, b, xs, zs, rfl, rfl, hH, hB, hz, q⟩ := h
  cases rx
  cases ry
  obtain ⟨its, r, hl, z⟩ := I.list hH
  obtain ⟨its2, r2, hl2, z2⟩ := I.list hB
  obtain ⟨⟨cls, dd, data, sl⟩, n, ho, hc, hdd, hd⟩ := hl
  obtain ⟨⟨cls2, dd2, data2, sl2⟩, n2, ho2, hc2, hdd2, hd2⟩ := hl2
  simp only at hc hd hc2 hd2
  subst hc hd hc2 hd2
  have l1 := r.length
  have l2 := r2.length
  have ea : its.toArray ++ its2.toArray = (its ++ its2).toArray := by simp
  refine concat_meets ⟨_, ho, rfl⟩ ⟨_, ho2, rfl⟩ noFill_list_add seq_list_add PySem.F.slot_list_add PySem.F.entry_list_add (PySem.F.args_list_add_2 _ _) (list_addW l b its.toArray its2.toArray n n2 dd dd2 sl sl2 (by rw [List.size_toArray, List.size_toArray]; omega)) ⟨ho, ho2, ?_⟩
  rw [ea]
  exact ⟨.ref _, _, I.lnew (t' := s.toks) (r.append r2) (by rw [List.length_append]; omega), rfl, q _ I.fresh⟩
def gLst (K : PySem.W.Frag) (n : Nat) (t : TGs) : TG := fun v σ H Q => ∃ a xs, v = .ref a ∧ SqL K H a xs ∧ xs.length = n ∧ t xs σ H Q
theorem pg_lst {es : List Expr} {k : Nat} {t : TGs} {n : Nat} (hc : X.calm = true) (h : PGs X es t)
    (hn : (assignEach es X.env).length = n := by rfl) (hst : (assignEach es X.env).findIdx? (·.1) = none := by rfl) : PG X (.Tuple es k pos) (gLst X.K n t) := by
  intro pins s σ H v u Q I r hw
  obtain ⟨a, xs, e1, hq, hl, hw⟩ := hw
  subst e1
  cases r
  obtain ⟨its, rv, ht, hz⟩ := I.list hq
  have hlist : s.heap.IsList a its.toArray := by
    obtain ⟨o, m, e, h1, _, h2⟩ := ht
    exact ⟨o, e, h1, m, h2⟩
  rw [assign_Tuple]
  refine wpAny_bind (wpAny_standAt ?_)
  unfold unpack
  have e2 : (assignEach es X.env).length = its.toArray.size := by rw [hn, ← hl, rv.length]; simp
  rw [e2, hst]
  refine wpAny_bind (wpAny_holding (PySem.W.kun_itemsOf (I.ok.hd hc) hlist fun h' hx => ?_))
  have I1 : Inv X pins σ H { s with heap := h' } := I.kept (t' := s.toks) fun b o e => hx b o (Nat.ne_of_lt (Heap.lt_size e)) e
  exact h pins _ σ H xs _ Q I1 (by simpa using rv) hw
theorem call_isinst : CallR X (.builtin "isinstance") (fun xs H Q => ∃ x n t b, xs = [x, .ty n] ∧ TyOf X.K H x t ∧ PySem.W.kitOne X.K t (.type n) = some b ∧ Q (.bl b) H) := by
  intro pins s σ H xs us Q I r h
  obtain ⟨x, n, t, b, rfl, ty, e, q⟩ := h
  obtain ⟨u, w', rfl, r1, r2⟩ := vals2 r
  cases (show w' = Value.type n from r2)
  exact isinst_ok I r1 ty e fun tk => ⟨.bl b, H, I.tok _, rfl, q⟩
end
end L2
namespace L2
open PySem PySem.Spec PyProof.Rows
section
variable {X : Cx}
end
end L2
namespace L2
open PySem PySem.Spec PyProof.Rows
theorem cut {X : Cx} {sts : List Stmt} {D : Ends} {σ : St} {H : Hp} (n : Nat) (M : St → Hp → Prop) (tail : ∃ t2, PSs X (sts.drop n) t2 ∧ ∀ σ' H', M σ' H' → t2 D σ' H')
    (head : ∀ t2, PSs X (sts.drop n) t2 → (∀ σ' H', M σ' H' → t2 D σ' H') → ∃ t, PSs X sts t ∧ t D σ H) : ∃ t, PSs X sts t ∧ t D σ H := by
  obtain ⟨t2, h1, h2⟩ := tail
  exact head t2 h1 h2
end L2
namespace L2
open PySem PySem.Spec PyProof.Rows
theorem cxOf_K (CX : CXT) (P : Program) (w : World) (K : PySem.W.Frag) (mg : Str → Option Value) (base : Heap) (N : List Str) (qual : Str) (scope : Scope) (f : Addr) (cd : Value) (A : Around) (outer : List Env) (s : Shared) (H : Hp) (E : XK) :
    (cxOf CX P w K mg base N qual scope f cd A outer s H E).K = K := rfl
end L2
namespace L2
open PySem PySem.Spec PyProof.Rows
theorem kit_same (K : PySem.W.Frag) (t : String) : PySem.W.kitOne K (.type t) (.type t) = some true := by
  unfold PySem.W.kitOne
  rw [if_pos (by simp)]
theorem kit_far (K : PySem.W.Frag) {t u : String} {b : Bool} (e1 : (Value.type t == Value.type u) = false) (e2 : PySem.W.kitMeta u = true) (e3 : (fastBuiltinMro t).map (·.contains (Value.type u)) = some b) : PySem.W.kitOne K (.type t) (.type u) = some b := by
  unfold PySem.W.kitOne
  rw [e1, if_neg Bool.false_ne_true]
  show (if PySem.W.kitMeta u = true then _ else _) = _
  rw [if_pos e2]
  exact e3
theorem kit_int_bool (K : PySem.W.Frag) : PySem.W.kitOne K (.type "int") (.type "bool") = some false := kit_far K (by decide +kernel) (by decide +kernel) (by decide +kernel)
end L2
namespace L2
open PySem PySem.Spec PyProof.Rows
theorem Same.put {H : Hp} {b : Addr} {o : HO} (h : H b = none) : Same H (upd H b o) := fun c u e => by
  rw [upd_ne (ne_of_none e h)]
  exact e
end L2
namespace L2
theorem scal_ii (i j : Int) : scal (.int i) (.int j) = true := rfl
theorem scal_bb (i j : Bool) : scal (.bl i) (.bl j) = true := rfl
theorem scal_ss (i j : PySem.Str) : scal (.str i) (.str j) = true := rfl
theorem scal_in (i : Int) : scal (.int i) .non = true := rfl
theorem scal_ni (i : Int) : scal .non (.int i) = true := rfl
end L2
namespace L2
open PySem PySem.Spec PyProof.Rows
def cxLc (X : Cx) (N : List Str) (scope : Scope) (cl : List (Str × Addr)) (C : Addr) (s : Shared) (H : Hp) (fp : List Addr) : Cx :=
  { X with N := N, s₀ := s, H₀ := H, env := compEnvC scope cl C X.env, outer := X.stack, stack := X.stack, ex := fp, fn := fun _ => false, pn := [], xe := fun _ _ => False }
def lcSlots (fr : List Nat) (σ : St) (v : Option V) : St := v :: fr.map fun j => (σ[j]?).join
structure LcOk (X : Cx) (x : Str) (ns : List Str) (fr : List Nat) (scope : Scope) (cl : List (Str × Addr)) : Prop where
  clos : closureFor scope X.env = pure cl
  nocell : ∀ y ∈ scope.names, y.2 ≠ .cell
  kind : scope.kind = .function
  own : ∀ y ∈ scope.names, y.2 = .local → scope.names.lookup y.1 = some .local
  var : scope.names.lookup x = some .local
  sub : ∀ z c, cl.lookup z = some c → X.env.cells.lookup z = some c
  has : ∀ z, ((relabel scope X.env).names.lookup z = some .cell ∨ (relabel scope X.env).names.lookup z = some .free) → ∃ c, cl.lookup z = some c
  len : ns.length = fr.length
  from_ : ∀ (k : Nat) z j, ns[k]? = some z → fr[k]? = some j → X.N[j]? = some z ∧ X.env.scope.names.lookup z = some .cell ∧ ((relabel scope X.env).names.lookup z = some .cell ∨ (relabel scope X.env).names.lookup z = some .free)
  nd : (x :: ns).Nodup
inductive LcIf (P : Expr → TT → Prop) : List Expr → TT → Prop where
  | nil : LcIf P [] fun _ H Q => Q true H
  | one {c : Expr} {t : TT} (h : P c t) : LcIf P [c] t
def lcLoop (J : It) (fr : List Nat) (tt : TT) (te : TE) (σ : St) (D : Addr) (Q : Hp → Prop) (H : Hp) : Prop :=
  ∃ W : Nat → Nat → Hp → Prop, (∃ m, W 0 m H) ∧ ∀ i m H2, W i m H2 → (J.stop i H2 ∧ Q H2) ∨ (J.go i H2 ∧ ∀ v H', J.yld i H2 v H' → tt (lcSlots fr σ (some v)) H' fun b H3 =>
    if b = true then te (lcSlots fr σ (some v)) H3 fun y H4 => ∃ ys, H4 D = some (.lst ys) ∧ ys.length < sizeLine ∧ ∃ m', m' < m ∧ W (i + 1) m' (upd H4 D (.lst (ys ++ [y]))) else ∃ m', m' < m ∧ W (i + 1) m' H3)
theorem iteT_inv {A B : Prop} (h : if true = true then A else B) : A := by
  rw [if_pos rfl] at h
  exact h
section
variable {X : Cx} {pins : List (Addr × Obj)} {σ : St} {H : Hp} {s : Shared} {x : Str} {ns : List Str} {fr : List Nat} {scope : Scope} {cl : List (Str × Addr)} {fp : List Addr}
theorem lc_ok (I : Inv X pins σ H s) (L : LcOk X x ns fr scope cl) (hf : ∀ b ∈ fp, FpOk X pins H b) (ho : ∀ b ∈ fp, b < s.heap.objs.size) : (cxLc X (x :: ns) scope cl s.heap.objs.size s H fp).Ok where
  mod := I.ok.mod
  kind := L.kind
  glob := I.ok.glob
  blt := I.ok.blt
  above := Nat.le_refl _
  inj := fun a b c h1 h2 => I.ok.inj a b c (L.sub a c h1) (L.sub b c h2)
  has := fun z h => L.has z h
  cab := fun _ _ h => nomatch h
  hd := I.ok.hd
  frames := I.ok.frames
  stk := .inl rfl
  exf := fun b hb => ⟨Nat.ne_of_lt (ho b hb), fun z c h => (hf b hb).2.2.2.2.1 z c (L.sub z c h)⟩
  bs := I.bs
  bsz := Nat.le_trans I.ok.bsz I.sz
  noex := fun b o e hb => by
    rcases (hf b hb).2.2.2.1 with h | h
    · exact I.ok.noex b o e h
    · exact absurd (Nat.lt_of_lt_of_le (Heap.lt_size e) (Nat.le_trans I.ok.bsz h)) (Nat.lt_irrefl _)
  exfs := fun b hb hs => by
    rcases List.mem_cons.mp (I.stkSub b hs) with h | h
    · exact (hf b hb).2.1 h
    · exact (hf b hb).2.2.1 h
  funs := I.stack
  frf := I.stkFree
theorem lc_slot {fr : List Nat} {σ : St} {v : Option V} {k : Nat} {u : V} (h : (lcSlots fr σ v)[k + 1]? = some (some u)) : ∃ j, fr[k]? = some j ∧ σ[j]? = some (some u) := by
  unfold lcSlots at h
  rw [List.getElem?_cons_succ, List.getElem?_map] at h
  cases e : fr[k]? with
  | none => rw [e] at h; cases h
  | some j =>
    rw [e] at h
    refine ⟨j, rfl, ?_⟩
    cases e2 : σ[j]? with
    | none => simp [e2] at h
    | some o => simp [e2] at h; rw [h]
theorem lc_start {h' : Heap} {t' : Nat} (I : Inv X pins σ H s) (L : LcOk X x ns fr scope cl) (hf : ∀ b ∈ fp, FpOk X pins H b) (ho : ∀ b ∈ fp, b < s.heap.objs.size)
    (hn : h'.Ns s.heap.objs.size fun _ => none) (hk : ∀ b o, s.heap.get? b = some o → h'.get? b = some o) :
    Inv (cxLc X (x :: ns) scope cl s.heap.objs.size s H fp) [] (lcSlots fr σ none) H { s with heap := h', toks := t' } where
  ok := lc_ok I L hf ho
  os := rfl
  bare := I.bare
  base := Un.kept hk
  loc := by
    refine ⟨_, hn, fun i z v e1 e2 e3 => ?_⟩
    cases i with
    | zero => cases e2
    | succ k =>
      have e1' : ns[k]? = some z := e1
      obtain ⟨j, ej, ev⟩ := lc_slot e2
      obtain ⟨hN, hc, hy⟩ := L.from_ k z j e1' ej
      obtain ⟨m, hm, hl⟩ := I.loc
      obtain ⟨u, r, l⟩ := hl j z v hN ev (.inr (.inl hc))
      refine ⟨u, r, .inr ⟨hy, ?_⟩⟩
      rcases l with ⟨l, _⟩ | ⟨_, c, hcl, ⟨o, ho2, hd⟩⟩
      · have : X.env.scope.names.lookup z = some .local := l
        rw [hc] at this
        cases this
      · obtain ⟨c', hc'⟩ := L.has z hy
        have e := L.sub z c' hc'
        rw [hcl] at e
        cases e
        exact ⟨c, hc', o, hk c o ho2, hd⟩
  cell := fun z c e => by
    obtain ⟨v, o, ho2, hd⟩ := I.cell z c (L.sub z c e)
    exact ⟨v, o, hk c o ho2, hd⟩
  free := I.fresh
  freeC := fun z c e => I.freeC z c (L.sub z c e)
  pin := fun p hp => nomatch hp
  hok := I.hok.kept hk
  len := by
    show (lcSlots fr σ none).length = (x :: ns).length
    unfold lcSlots
    rw [List.length_cons, List.length_map, List.length_cons, L.len]
theorem lc_block {elt iter : Expr} {px : Pos} {ifs : List Expr} {pos : Pos} {J : It} {it D : Addr} {tn : Nat → Heap → Prop} {tt : TT} {te : TE} {Qe : Hp → Prop} {R : Result → Shared → Prop} {s4 : Shared}
    (hc : X.calm = true) (L : LcOk X x ns fr scope cl) (T : Turn X.prog X.w X.K (.Name x px) J fp it tn) (hf : ∀ b ∈ fp, FpOk X pins H b) (ho : ∀ b ∈ fp, b < s.heap.objs.size) (I : Inv X pins σ H s)
    (hE : PE (cxLc X (x :: ns) scope cl s.heap.objs.size s H fp) elt te) (hT : LcIf (PT (cxLc X (x :: ns) scope cl s.heap.objs.size s H fp)) ifs tt) (hw : lcLoop J fr tt te σ D Qe H)
    (I4 : Inv (cxLc X (x :: ns) scope cl s.heap.objs.size s H fp) [] (lcSlots fr σ none) H s4) (st4 : tn 0 s4.heap)
    (hR : ∀ (s' : Shared) (H' : Hp) (v : Option V), Inv (cxLc X (x :: ns) scope cl s.heap.objs.size s H fp) [] (lcSlots fr σ v) H' s' → Qe H' → R (.ok .next) s') :
    codeAny (model X.prog X.w) X.A (.compStart (.ListComp elt [⟨.Name x px, iter, ifs, 0⟩] scope pos) 0 (.ref it) (.ref D) (compEnvC scope cl s.heap.objs.size X.env)) R s4 := by
  obtain ⟨W, ⟨m0, w0⟩, turn⟩ := hw
  have okY := lc_ok I L hf ho
  have hxl : Loc (cxLc X (x :: ns) scope cl s.heap.objs.size s H fp).env.scope x := .inl (lookup_relabel_local L.var)
  have stat : ∀ {H' : Hp}, (∀ b ∈ fp, H' b = none) → ∀ b ∈ fp, FpOk (cxLc X (x :: ns) scope cl s.heap.objs.size s H fp) [] H' b := fun hn b hb =>
    ⟨hn b hb, (okY.exf b hb).1, okY.exfs b hb, .inl hb, (okY.exf b hb).2, fun p hp => nomatch hp⟩
  have fr0 : ∀ b ∈ fp, H b = none := fun b hb => (hf b hb).1
  have loop : codeAny (model X.prog X.w) X.A (.compLoop (.ListComp elt [⟨.Name x px, iter, ifs, 0⟩] scope pos) 0 (.ref it) (.ref D) (compEnvC scope cl s.heap.objs.size X.env)) R s4 := by
    refine codeAny_loop rfl (fun n s' => ∃ i v H', Inv (cxLc X (x :: ns) scope cl s.heap.objs.size s H fp) [] (lcSlots fr σ v) H' s' ∧ tn i s'.heap ∧ (∀ b ∈ fp, H' b = none) ∧ W i n H') (fun n s3 hI => ?_) m0 ⟨0, none, H, I4, st4, fr0, w0⟩
    obtain ⟨i, v0, H3, I3, st3, fr3, w3⟩ := hI
    show wpAny _ X.A ((compTurn (.ListComp elt [⟨.Name x px, iter, ifs, 0⟩] scope pos) 0 (.ref it) (.ref D) (compEnvC scope cl s.heap.objs.size X.env)).onRaise (fun y => do noteFrame y (compEnvC scope cl s.heap.objs.size X.env); theTreesLotGoes y)) _ _ s3
    refine wpAny_noted ?_
    rw [compTurn_list]
    have low : ∀ {α : Type} {t : Sem α} {Q Q' : α → Shared → Prop} {E : Value → Shared → Prop} {s5 : Shared}, wpAny (model X.prog X.w) X.A t Q (fun _ _ => False) s5 → (∀ a s6, Q a s6 → Q' a s6) → wpAny (model X.prog X.w) X.A t Q' E s5 :=
      fun h hq => wpAny_mono h hq fun _ _ z => z.elim
    rcases turn i n H3 w3 with ⟨stop, q⟩ | ⟨go, step⟩
    · refine wpAny_bind (wpAny_standAt (wpAny_bind (low (T.done (cxLc X (x :: ns) scope cl s.heap.objs.size s H fp) rfl rfl rfl hc i [] s3 _ H3 (fun _ _ => False) I3 (stat fr3) st3 stop) fun r s5 hr => ?_)))
      obtain ⟨hr, I5⟩ := hr
      subst hr
      exact wpAny_pure (hR s5 H3 v0 I5 q)
    · refine wpAny_bind (wpAny_standAt (wpAny_bind (low (T.item (cxLc X (x :: ns) scope cl s.heap.objs.size s H fp) rfl rfl rfl hc i [] s3 _ H3 (fun _ _ => False) I3 (stat fr3) st3 go) fun r s5 hr => ?_)))
      obtain ⟨u, hr, h5⟩ := hr
      subst hr
      refine wpAny_bind (low h5 fun _ s6 h6 => ?_)
      obtain ⟨y, H6, I6, r6, y6, st6, fr6⟩ := h6
      have I6' := I6.pinned (stat fr6) (T.obj _ _ st6)
      have hg : PG (cxLc X (x :: ns) scope cl s.heap.objs.size s H fp) (.Name x px) (gName 0) := pg_name (i := 0) L.nd rfl hxl (.inr (lookup_relabel_local L.var))
      refine wpAny_bind (low (hg _ s6 _ H6 y u (fun σ' H' => σ' = lcSlots fr σ (some y) ∧ H' = H6) I6' r6 ⟨rfl, rfl⟩) fun _ s7 h7 => ?_)
      obtain ⟨σ7, H7, I7, e7, e7'⟩ := h7
      subst e7 e7'
      have back : ∀ {H8 : Hp} {s8 : Shared}, Inv (cxLc X (x :: ns) scope cl s.heap.objs.size s H fp) ([] ++ pinsAt fp s6.heap) (lcSlots fr σ (some y)) H8 s8 → (∃ m', m' < n ∧ W (i + 1) m' H8) →
          ∃ m, m < n ∧ ∃ i v H', Inv (cxLc X (x :: ns) scope cl s.heap.objs.size s H fp) [] (lcSlots fr σ v) H' s8 ∧ tn i s8.heap ∧ (∀ b ∈ fp, H' b = none) ∧ W i m H' := fun {H8 s8} I8 hm => by
        obtain ⟨m', hm, w8⟩ := hm
        refine ⟨m', hm, i + 1, some y, H8, I8.unpinned, T.keep _ _ _ st6 fun b hb o e => (I8.pin (b, o) (List.mem_append_right _ (List.mem_append_right _ (mem_pinsAt hb e)))).1, fun b hb => ?_, w8⟩
        obtain ⟨o, e, d⟩ := T.obj _ _ st6 b hb
        exact (I8.pin (b, o) (List.mem_append_right _ (List.mem_append_right _ (mem_pinsAt hb e)))).2.1
      have hstep := step y _ y6
      have emit : ∀ {H8 : Hp} {s8 : Shared}, Inv (cxLc X (x :: ns) scope cl s.heap.objs.size s H fp) ([] ++ pinsAt fp s6.heap) (lcSlots fr σ (some y)) H8 s8 →
          te (lcSlots fr σ (some y)) H8 (fun y H4 => ∃ ys, H4 D = some (.lst ys) ∧ ys.length < sizeLine ∧ ∃ m', m' < n ∧ W (i + 1) m' (upd H4 D (.lst (ys ++ [y])))) →
          wpAny (model X.prog X.w) X.A (do let _ ← call (.builtin "list.append") [.ref D, ← eval elt (compEnvC scope cl s.heap.objs.size X.env)]) (fun _ s9 => ∃ m, m < n ∧ ∃ i v H', Inv (cxLc X (x :: ns) scope cl s.heap.objs.size s H fp) [] (lcSlots fr σ v) H' s9 ∧ tn i s9.heap ∧ (∀ b ∈ fp, H' b = none) ∧ W i m H') (fun _ _ => False) s8 := fun {H8 s8} I8 h8 => by
        refine wpAny_bind (thn (hE _ s8 _ H8 _ I8 h8) fun v9 s9 h9 => ?_)
        obtain ⟨z, H9, I9, r9, ys, hD, hlen, hm⟩ := h9
        refine wpAny_bind (thn (mt_append (X := cxLc X (x :: ns) scope cl s.heap.objs.size s H fp) _ s9 _ H9 (.ref D) [z] (.ref D) [v9] (fun _ H' => ∃ m', m' < n ∧ W (i + 1) m' H') I9 rfl (.cons r9 .nil) ⟨D, ys, z, rfl, rfl, hD, hlen, hm⟩) fun v10 s10 h10 => ?_)
        obtain ⟨_, H10, I10, _, hm10⟩ := h10
        exact wpAny_pure (back I10 hm10)
      cases hT with
      | nil =>
        refine wpAny_bind (wpAny_tests_nil ?_)
        refine wpAny_bind (low (emit I7 (iteT_inv hstep)) fun _ s9 h9 => wpAny_pure ⟨rfl, h9⟩)
      | one hP =>
        refine wpAny_bind (wpAny_tests_one (low (hP _ s7 _ _ _ I7 hstep) fun b s8 h8 => ?_))
        obtain ⟨H8, I8, q8⟩ := h8
        cases b with
        | false =>
          have q9 : ∃ m', m' < n ∧ W (i + 1) m' H8 := q8
          exact wpAny_pure ⟨rfl, back I8 q9⟩
        | true =>
          exact wpAny_bind (low (emit I8 q8) fun _ s9 h9 => wpAny_pure ⟨rfl, h9⟩)
  exact codeAny_compStart_list loop (T.self X.A 0 _ _ _ st4 loop)
theorem lc_after {s' : Shared} {H' : Hp} {σ' : St} (I : Inv X pins σ H s) (hf : ∀ b ∈ fp, FpOk X pins H b) (I' : Inv (cxLc X (x :: ns) scope cl s.heap.objs.size s H fp) [] σ' H' s') : Inv X pins σ H' s' :=
  I.call' (ch := fp) I'.os I'.base I'.hok I'.bare fun b hb => ⟨(hf b hb).2.2.2.1, (hf b hb).2.1, (hf b hb).2.2.2.2.1, (hf b hb).2.2.2.2.2⟩
theorem lc_run {elt iter : Expr} {px : Pos} {ifs : List Expr} {pos : Pos} {J : It} {it : Addr} {tn : Nat → Heap → Prop} {tt : TT} {te : TE} {Qe : Addr → Hp → Prop} {R : Value → Addr → Result → Shared → Prop} {E : Value → Shared → Prop}
    (hc : X.calm = true) (L : LcOk X x ns fr scope cl) (T : Turn X.prog X.w X.K (.Name x px) J fp it tn) (hf : ∀ b ∈ fp, FpOk X pins H b) (I : Inv X pins σ H s) (st : tn 0 s.heap)
    (hE : ∀ C s H, PE (cxLc X (x :: ns) scope cl C s H fp) elt te) (hT : ∀ C s H, LcIf (PT (cxLc X (x :: ns) scope cl C s H fp)) ifs tt) (hw : ∀ D, H D = none → lcLoop J fr tt te σ D (Qe D) (upd H D (.lst [])))
    (hR : ∀ (D C : Addr) (s' : Shared) (H' : Hp), Inv X pins σ H' s' → Qe D H' → (∃ m o, s'.heap.get? C = some o ∧ (∀ v, o.data ≠ .cell v) ∧ ∀ h' : Heap, h'.get? C = some o → h'.Ns C m) → H' C = none → C ≠ X.env.locals → C ∉ X.fs → X.s₀.heap.objs.size ≤ C →
      (∀ z c, X.env.cells.lookup z = some c → c ≠ C) → (∀ p ∈ X.pn ++ pins, p.1 ≠ C) → R (.ref D) C (.ok .next) s') :
    wpAny (model X.prog X.w) X.A (newList []) (fun acc s₃ => wpAny (model X.prog X.w) X.A (newFunctionEnv scope X.env.globals cl [] X.env.qual none .none (some X.env)) (fun cenv s₄ =>
      codeAny (model X.prog X.w) X.A (.compStart (.ListComp elt [⟨.Name x px, iter, ifs, 0⟩] scope pos) 0 (.ref it) acc { cenv with scope := relabel scope X.env }) (R acc cenv.locals) s₄) E s₃) E s := by
  have ho : ∀ b ∈ fp, b < s.heap.objs.size := fun b hb => by
    obtain ⟨o, e, _⟩ := T.obj _ _ st b hb
    exact Heap.lt_size e
  have I3 : Inv X pins σ (upd H s.heap.objs.size (.lst [])) { s with heap := s.heap.push { cls := .type "list", dict := none, data := .seq ([] : List Value).toArray } } := I.lnew (t' := s.toks) (.nil) (Nat.zero_le _)
  refine wpAny_newObj_type (wpAny_newFunctionEnv L.nocell (by intro y hy; simp at hy) (fun h1 hns hsb => ?_) L.kind)
  dsimp only at hns hsb ⊢
  generalize hs3 : ({ s with heap := s.heap.push { cls := .type "list", dict := none, data := .seq ([] : List Value).toArray } } : Shared) = s3 at I3
  have eh : s.heap.push { cls := .type "list", dict := none, data := .seq ([] : List Value).toArray } = s3.heap := by rw [← hs3]
  rw [eh] at hns hsb ⊢
  have hz : s3.heap.objs.size = s.heap.objs.size + 1 := by rw [← eh, Heap.size_push]
  have hk : ∀ b o, s3.heap.get? b = some o → h1.get? b = some o := fun b o e => hsb.extBut b o (Nat.ne_of_lt (Heap.lt_size e)) (Heap.get?_push_of_some _ e)
  have hf3 : ∀ b ∈ fp, FpOk X pins (upd H s.heap.objs.size (.lst [])) b := fun b hb => ⟨by rw [upd_ne (Nat.ne_of_lt (ho b hb))]; exact (hf b hb).1, (hf b hb).2⟩
  have ho3 : ∀ b ∈ fp, b < s3.heap.objs.size := fun b hb => by rw [hz]; exact Nat.lt_succ_of_lt (ho b hb)
  have es : ∀ tk, ({ s with heap := h1, toks := tk } : Shared) = { s3 with heap := h1, toks := tk } := fun tk => by rw [← hs3]
  rw [es]
  have I4 := lc_start (t' := s.toks + ([] : List (Str × Value)).length) I3 L hf3 ho3 hns hk
  refine lc_block hc L T hf3 ho3 I3 (hE _ _ _) (hT _ _ _) (hw _ I.fresh) I4 ?_ fun s' H' v I' q => ?_
  · refine T.keep _ _ _ st fun b hb o e => hk b o ?_
    rw [← eh]
    exact Heap.get?_push_of_some _ e
  · have IX := lc_after I3 hf3 I'
    obtain ⟨m, ⟨o, es', ep, ho', hd', hr'⟩, _⟩ := I'.loc
    refine hR _ _ s' H' IX q ⟨m, o, ho', fun v z => ?_, fun h' e => ⟨o, es', ep, e, hd', hr'⟩⟩ I'.free (Nat.ne_of_gt I3.lt) (I3.nofs (Nat.le_refl _)) I3.sz (fun z c e => ?_) fun p hp => ?_
    · rw [hd'] at z
      cases z
    · obtain ⟨v, o2, e2, _⟩ := I3.cell z c e
      exact Nat.ne_of_lt (Heap.lt_size e2)
    · exact Nat.ne_of_lt (Heap.lt_size (I3.pin p hp).1)
def tLc (wi : TI) (fr : List Nat) (tt : TT) (te : TE) : TE := fun σ H Q => wi σ H fun J H1 => ∀ D, H1 D = none → lcLoop J fr tt te σ D (fun H2 => Q (.ref D) H2) (upd H1 D (.lst []))
theorem pe_lc {elt iter : Expr} {px pos : Pos} {ifs : List Expr} {wi : TI} {tt : TT} {te : TE} (hc : X.calm = true) (L : LcOk X x ns fr scope cl) (hi : PI X (.Name x px) iter wi)
    (hE : ∀ C s H fp, PE (cxLc X (x :: ns) scope cl C s H fp) elt te) (hT : ∀ C s H fp, LcIf (PT (cxLc X (x :: ns) scope cl C s H fp)) ifs tt)
    (hs : ∀ v, foldedSetIterable iter X.env v = pure v := by intro _; rfl) : PE X (.ListComp elt [⟨.Name x px, iter, ifs, 0⟩] scope pos) (tLc wi fr tt te) := by
  intro pins s σ H Q I h
  rw [eval_ListComp]
  refine wpAny_comprehension_free (use := none) rfl hs L.clos L.kind L.own (thn (hi pins s σ H _ I h) fun v s1 h1 => thn h1 fun itv s2 h2 => ?_)
  obtain ⟨it, fp, tn, J, H2, e, I2, T, st2, f2, q⟩ := h2
  subst e
  refine lc_run (R := fun acc C => compPost (model X.prog X.w) X.A X.xe none (EP X pins σ Q) acc C) hc L T f2 I2 st2 (fun C s H => hE C s H fp) (fun C s H => hT C s H fp) q ?_
  intro D C s' H' I' q' hns hn hl hfs hz hcell hpin
  obtain ⟨m, o, e, hd, hk⟩ := hns
  refine ⟨m, hk _ e, fun h' hsb => ?_⟩
  exact ⟨.ref D, H', I'.turned (t' := s'.toks) (fun b o hb e => hsb.extBut b o hb e) hn hl (.inr hz) hcell hpin, rfl, q'⟩
theorem ps_lc {elt iter : Expr} {y : Str} {j : Nat} {px py pos spos : Pos} {ifs : List Expr} {wi : TI} {tt : TT} {te : TE} (hc : X.calm = true) (hN : X.N.Nodup) (hj : X.N[j]? = some y) (hy : X.env.scope.names.lookup y = some .local) (L : LcOk X x ns fr scope cl) (hi : PI X (.Name x px) iter wi)
    (hE : ∀ C s H fp, PE (cxLc X (x :: ns) scope cl C s H fp) elt te) (hT : ∀ C s H fp, LcIf (PT (cxLc X (x :: ns) scope cl C s H fp)) ifs tt)
    (hsw : swapsWith (.ListComp elt [⟨.Name x px, iter, ifs, 0⟩] scope pos) (some (.Name y py)) spos.line X.env = pure true := by rfl)
    (hs : ∀ v, foldedSetIterable iter X.env v = pure v := by intro _; rfl) : PS X (.Assign [.Name y py] (.ListComp elt [⟨.Name x px, iter, ifs, 0⟩] scope pos) spos) (tAsg (tLc wi fr tt te) (gName j)) := by
  intro pins s σ H Dn I h
  rw [exec_Assign_Name_used _ _ _ _ hsw]
  refine wpAny_bind (wpAny_standAt (wpAny_bind ?_))
  show wpAny _ X.A (do let _ ← comprehension (.ListComp elt [⟨.Name x px, iter, ifs, 0⟩] scope pos) scope X.env _ (newList []) false (eval iter X.env) (some (assign (.Name y py) X.env))) _ _ s
  refine wpAny_bind (thn (wpAny_comprehension_free (use := some (assign (.Name y py) X.env)) (Q := fun _ s' => SP X pins Dn .next s') rfl hs L.clos L.kind L.own (thn (hi pins s σ H _ I h) fun v s1 h1 => thn h1 fun itv s2 h2 => ?_)) fun _ s' q => wpAny_pure (wpAny_pure q))
  obtain ⟨it, fp, tn, J, H2, e, I2, T, st2, f2, q⟩ := h2
  subst e
  refine lc_run (R := fun acc C => compPost (model X.prog X.w) X.A X.xe (some (assign (.Name y py) X.env)) (fun _ s' => SP X pins Dn .next s') acc C) hc L T f2 I2 st2 (fun C s H => hE C s H fp) (fun C s H => hT C s H fp) q ?_
  intro D C s' H' I' q' hns hn hl hfs hz hcell hpin
  obtain ⟨m, o, e, hd, hk⟩ := hns
  have I'' : Inv X (pins ++ [(C, o)]) σ H' s' := I'.pins_of fun p hp => by
    rcases List.mem_append.mp hp with h | h
    · exact I'.pin p (List.mem_append_right _ h)
    · have ep : p = (C, o) := by simpa using h
      subst ep
      exact ⟨e, hn, hl, hfs, hd⟩
  refine wpAny_assign_Name (store_ok I'' hN hj (.inl hy) (show RelV (.ref D) (.ref D) from rfl) (fun s2 I2 => ?_) (.inr hy))
  obtain ⟨e2, n2, _⟩ := I2.pin (C, o) (List.mem_append_right _ (List.mem_append_right _ (List.mem_singleton.mpr rfl)))
  refine ⟨m, hk _ e2, fun h' hsb => ?_⟩
  exact ⟨σ.set j (some (.ref D)), H', I2.unpinned.turned (t' := s2.toks) (fun b o hb e => hsb.extBut b o hb e) hn hl (.inr hz) hcell hpin, q'⟩
end
section
variable {X : Cx} {x : Str} {ns : List Str} {fr : List Nat} {scope : Scope} {cl : List (Str × Addr)}
theorem lk_mem {α : Type} {z : Str} {c : α} : ∀ {l : List (Str × α)}, l.lookup z = some c → (z, c) ∈ l
  | [], h => by simp at h
  | (y, d) :: l, h => by
    rw [List.lookup_cons] at h
    cases e : z == y with
    | true =>
      rw [e] at h
      have e2 : z = y := by simpa using e
      cases h
      rw [e2]
      exact List.mem_cons_self
    | false =>
      rw [e] at h
      exact List.mem_cons_of_mem _ (lk_mem h)
theorem lcok (clos : closureFor scope X.env = pure cl) (nocell : scope.names.all (fun y => y.2 != .cell) = true) (kind : scope.kind = .function)
    (own : scope.names.all (fun y => y.2 != .local || scope.names.lookup y.1 == some .local) = true) (var : scope.names.lookup x = some .local) (sub : ∀ p ∈ cl, X.env.cells.lookup p.1 = some p.2)
    (has : (relabel scope X.env).names.all (fun y => !(y.2 == .cell || y.2 == .free) || (cl.lookup y.1).isSome) = true) (len : ns.length = fr.length)
    (fr_ : ∀ p ∈ ns.zip fr, X.N[p.2]? = some p.1 ∧ X.env.scope.names.lookup p.1 = some .cell ∧ ((relabel scope X.env).names.lookup p.1 = some .cell ∨ (relabel scope X.env).names.lookup p.1 = some .free)) (nd : (x :: ns).Nodup) : LcOk X x ns fr scope cl where
  clos := clos
  nocell := fun y hy => by simpa using List.all_eq_true.mp nocell y hy
  kind := kind
  own := fun y hy h => by
    have := List.all_eq_true.mp own y hy
    rw [h] at this
    simpa using this
  var := var
  sub := fun z c h => sub _ (lk_mem h)
  has := fun z h => by
    have k : ∀ t, (relabel scope X.env).names.lookup z = some t → (t = .cell ∨ t = .free) → ∃ c, cl.lookup z = some c := fun t ht hk => by
      have := List.all_eq_true.mp has _ (lk_mem ht)
      rcases hk with rfl | rfl <;> simpa [Option.isSome_iff_exists] using this
    rcases h with h | h
    · exact k _ h (.inl rfl)
    · exact k _ h (.inr rfl)
  len := len
  from_ := fun k z j h1 h2 => fr_ (z, j) (List.mem_of_getElem? (i := k) (by rw [List.getElem?_zip_eq_some]; exact ⟨h1, h2⟩))
  nd := nd
end
end L2
namespace L2
end L2
namespace L2
open PySem PySem.Spec PyProof.Rows
end L2
namespace L2
open PySem PySem.Spec PyProof.Rows
open AutoSeq1 (wpAny_loadPart')
section
variable {prog : Program} {w : World} {A : Around} {E : Value → Shared → Prop} {s : Shared}
abbrev enKw (p : Int) (t : Tok) : List (Str × Value) := [("start", .int p t)]
theorem en_type (l : Value) (p : Int) (t : Tok) : checkTypeCall "enumerate" ⟨[l], enKw p t⟩ = pure () := by kernel_rfl
theorem en_newc (l : Value) (p : Int) (t : Tok) : checkBuiltinCall "enumerate.__new__" ⟨[.type "enumerate", l], enKw p t⟩ = pure () := by kernel_rfl
theorem en_init (o l : Value) (p : Int) (t : Tok) : argsOk "object.__init__" ⟨[o, l], enKw p t⟩ := by
  first | exact ⟨rfl⟩ | decide | (unfold argsOk; kernel_rfl) | trivial
theorem en_new (l : Addr) (xs : Array Value) (n : Nat) (dct : Option Addr) (sl : Array (Option Value)) (p : Int) (t : Tok) (hp : (!Builtin.SmallTypes.fitsIndex p) = false) :
    Meets (Builtin.«enumerate.__new__» ⟨[.type "enumerate", .ref l], enKw p t⟩) (fun _ R s => s.heap.get? l = some { cls := .type "list", dict := dct, data := .seq xs n, slots := sl } ∧
      R (.ok (.ret (.ref (s.heap.push { cls := .type "list_iterator", data := .fields #[.ref l, .int 0 0] }).objs.size)))
        { s with heap := (s.heap.push { cls := .type "list_iterator", data := .fields #[.ref l, .int 0 0] }).push { cls := .type "enumerate", data := .fields #[.none, .bool false, .ref s.heap.objs.size, rawInt p, .none, .none] } }) :=
  .of_wp fun prog w A R s h => by
    obtain ⟨hp0, g, d, tk, os⟩ := s
    obtain ⟨hl, h⟩ := h
    have sub := sub_enumerate
    have isl : Heap.IsList (Shared.heap ⟨hp0, g, d, tk, os⟩) l xs := ⟨_, hl, rfl, n, rfl⟩
    wp_walk using wpAny_loadPart' hl
    refine wpAny_stack_any fun st => wpAny_pure ?_
    split
    · rename_i c _ _ _ _ _
      cases (c == Value.type "enumerate") <;> (wp_walk using wpAny_loadPart' hl, wpAny_pyIter_list isl; exact ⟨_, rfl, h⟩)
    · wp_walk using wpAny_loadPart' hl, wpAny_pyIter_list isl
      exact ⟨_, rfl, h⟩
theorem en_made {T ni ii : String} {Bn Bi : Builtin} {as : List Value} {kw : List (Str × Value)} {S : PySem.Spec} {Q Q1 : Value → Shared → Prop} (ft : TypeCalled T ni ii) (c1 : checkTypeCall T ⟨as, kw⟩ = pure ())
    (c2 : checkBuiltinCall ni ⟨.type T :: as, kw⟩ = pure ()) (en : entryFor table ni = some Bn) (ei : entryFor table ii = some Bi) (g : Meets (Bn ⟨.type T :: as, kw⟩) S) (h : S A.in1 (wants Q1 E) s)
    (nx : ∀ o s1, Q1 o s1 → s1.TypeIs o T ∧ argsOk ii ⟨o :: as, kw⟩ ∧ ∃ Si, Meets (Bi ⟨o :: as, kw⟩) Si ∧ Si A.in1 (wants (fun r s2 => r = .none ∧ Q o s2) E) s1) : wpAny (model prog w) A (call (.type T) as kw) Q E s := by
  obtain ⟨c, tl, mr⟩ := ft.mro
  have made := ft.made; have sub := ft.sub; have nt := ft.notType; have cc := ft.canCreate
  refine wpAny_call (codeAny_of_tree ?_); show wpAny _ _ (callAny (.type T) _) _ _ _
  refine wpAny_pure ⟨Code.quiet_builtin _ (by decide +kernel), codeAny_builtin F.entry_type_call ?_⟩; rw [Around.under_plain (weight_type_call_type T as kw) (units_type_call_type T as kw)]
  repeat (any_goals (first | assumption | wp_step))
  refine codeAny_mono (codeAny_call_builtin ft.plain en (wpAny_of_eq c2 (g prog w A.in1 _ s h))) fun r s1 hr => ?_
  cases r with
  | error e => exact hr
  | ok fl =>
    cases fl with
    | ret o =>
      obtain ⟨hT, ok, Si, gi, hs⟩ := nx _ _ hr
      have li := ft.init.lookup; have bi := ft.init.bind o
      repeat (any_goals (first | assumption | wp_step))
      refine codeAny_mono (codeAny_call_builtin ft.init.plain ei (ft.init.check _ _ _ _ _ _ _ _ hT ok (gi prog w A.in1 _ s1 hs))) fun r2 s2 hr2 => ?_
      cases r2 with
      | error e => exact hr2
      | ok fl2 =>
        cases fl2 with
        | ret r =>
          obtain ⟨rfl, hq⟩ := hr2
          repeat (any_goals (first | assumption | wp_step))
        | _ => exact hr2.elim
    | _ => exact hr.elim
theorem en_obj {T ni : String} {o a : Value} {as : List Value} {kw : List (Str × Value)} (hl : typeLookup (.type T) "__init__" = pure (some (.builtin "object.__init__"))) (hm : Bind.madeBy (.type T) = pure (some ni)) (hne : (some ni != some "object.__new__") = true) :
    Meets (Builtin.«object.__init__» ⟨o :: a :: as, kw⟩) (fun _ R s => s.TypeIs o T ∧ R (.ok (.ret .none)) s) := by
  refine Meets.of_wp fun prog w A R s hs => ?_
  obtain ⟨hT, hq⟩ := hs
  repeat (any_goals (first | assumption | wp_step))
  exact ⟨_, rfl, hq⟩
theorem en_call {l : Addr} {xs : Array Value} {p : Int} {t : Tok} {Q : Value → Shared → Prop} (hL : s.heap.IsList l xs) (hp : (!Builtin.SmallTypes.fitsIndex p) = false)
    (h : ∀ h', IsEnum h' (s.heap.objs.size + 1) s.heap.objs.size p .none → h'.IsListIter s.heap.objs.size l 0 → h'.objs.size = s.heap.objs.size + 2 → (∀ b o, s.heap.get? b = some o → h'.get? b = some o) → Q (.ref (s.heap.objs.size + 1)) { s with heap := h' }) :
    wpAny (model prog w) A (call (.type "enumerate") [.ref l] (enKw p t)) Q E s := by
  obtain ⟨⟨c, dct, dt, sl⟩, hl, hc, n, hd⟩ := hL
  replace hc : c = .type "list" := hc
  replace hd : dt = .seq xs n := hd
  subst hc hd
  refine en_made (Q1 := fun o s1 => s1.TypeIs o "enumerate" ∧ Q o s1) F.called_enumerate (en_type _ _ _) (en_newc _ _ _) F.entry_enumerate_new F.entry_object_init (en_new l xs n dct sl p t hp) ⟨hl, ?_⟩ fun o s1 hq =>
    ⟨hq.1, en_init _ _ _ _, _, en_obj F.called_enumerate.init.lookup F.called_enumerate.made (by decide), hq.1, rfl, hq.2⟩
  have hz : (s.heap.push { cls := .type "list_iterator", data := .fields #[.ref l, .int 0 0] }).objs.size = s.heap.objs.size + 1 := Heap.size_push ..
  show _ ∧ _; rw [hz]
  have he := Heap.get?_push_size (s.heap.push { cls := .type "list_iterator", data := .fields #[.ref l, .int 0 0] }) (o := { cls := .type "enumerate", data := .fields #[.none, .bool false, .ref s.heap.objs.size, rawInt p, .none, .none] }) rfl
  rw [hz] at he
  exact ⟨⟨_, he, rfl⟩, h _ he ⟨_, Heap.get?_push_of_some _ (Heap.get?_push_size _ rfl), rfl, rfl⟩ (by rw [Heap.size_push, hz]) fun b o x => Heap.get?_push_of_some _ (Heap.get?_push_of_some _ x)⟩
theorem en_shift {it : Addr} {fp : List Addr} {n : Nat} {P : Nat → Value → Prop} {St : Nat → Heap → Prop} (p : Nat) (D : Draws prog w A it fp n P St) :
    Draws prog w A it fp (p + n) (fun j v => ∃ i, j = p + i ∧ P i v) (fun j h => ∃ i, j = p + i ∧ St i h) where
  live := fun j h ⟨i, _, st⟩ => D.live i h st
  frame := fun j h h' ⟨i, e, st⟩ k => ⟨i, e, D.frame i h h' st k⟩
  item := fun j s Q E hj ⟨i, e, st⟩ hQ => D.item i s Q E (by omega) st fun x h' tk hP st' hs => hQ x h' tk ⟨i, e, hP⟩ ⟨i + 1, by omega, st'⟩ hs
  done := fun s Q E ⟨i, e, st⟩ hE => by
    have ei : i = n := by omega
    subst ei
    exact D.done s Q E st hE
end
def Ite (K : PySem.W.Frag) (l : Addr) (p : Nat) : It :=
  ⟨fun i H => ∃ xs x, SqL K H l xs ∧ xs[i]? = some x, fun i H x H' => ∃ t v, H t = none ∧ x = .ref t ∧ (∀ xs, SqL K H l xs → xs[i]? = some v) ∧ H' = upd H t (.tup [.int ((p + i : Nat) : Int), v]), fun i H => ∃ xs, SqL K H l xs ∧ xs.length = i⟩
theorem turn_enum {P : Program} {w : World} {K : PySem.W.Frag} {es : List Expr} {k : Nat} {tp : Pos} (l e it : Addr) (p : Nat) (hei : e ≠ it) (hle : l ≠ e) (hli : l ≠ it) :
    Turn P w K (.Tuple es k tp) (Ite K l p) [e, it] e (fun i h => (∃ old, IsEnum h e it ((p + i : Nat) : Int) old) ∧ h.IsListIter it l i) where
  mem := by simp
  obj := fun i h st b hb => by
    obtain ⟨⟨old, he⟩, o, ho, hc, hd⟩ := st
    rcases List.mem_cons.mp hb with rfl | hb
    · exact ⟨_, he, fun v z => by cases z⟩
    · have eb : b = it := by simpa using hb
      subst eb
      exact ⟨o, ho, fun v z => by rw [hd] at z; cases z⟩
  keep := fun i h h' st kk => by
    obtain ⟨⟨old, he⟩, hit⟩ := st
    exact ⟨⟨old, kk e (by simp) _ he⟩, hit.at fun o z => kk it (by simp) o z⟩
  item := by
    intro X hP hw hK hc i pins s σ H E I hf st hg
    subst hP hw hK
    obtain ⟨xs, x, hq, hx⟩ := hg
    obtain ⟨its, rv, pl, hz⟩ := I.list hq
    obtain ⟨u, hu, ru⟩ := rv.get hx
    obtain ⟨⟨old, he⟩, hit⟩ := st
    have hlen := rv.length
    have hi : i < its.toArray.size := by
      have := (List.getElem?_eq_some_iff.mp hu).1
      simpa using this
    refine wpAny_pyNext_enum_itemD (en_shift p (Draws.list (prog := X.prog) (w := X.w) (A := X.A.in1) (I.ok.hd hc) it l hli its.toArray)) he ⟨i, rfl, hit, pl.isList⟩ (by omega) hei
      (by simp only [List.mem_cons, List.not_mem_nil, or_false]; rintro (z | z); exact hei z; exact hle z.symm) fun y h' tk hy ho hst hT hsz hk => ?_
    obtain ⟨i', ei, hy⟩ := hy
    have ei' : i' = i := by omega
    subst ei'
    have eu : y = u := by
      have h1 : its.toArray[i']? = some y := hy
      rw [List.getElem?_toArray, hu] at h1
      exact (Option.some.inj h1).symm
    subst eu
    refine ⟨_, rfl, wpAny_letOwnedTupleGo_enum (s := { s with heap := h', toks := tk + 1 }) ho fun h2 he2 hs2 => ?_⟩
    have hel : e < s.heap.objs.size := Heap.lt_size he
    have hn : H s.heap.objs.size = none := I.fresh
    have kp : ∀ b o, b ≠ e → b ≠ it → s.heap.get? b = some o → h2.get? b = some o := fun b o h1 h3 z => (hs2.2 b h1).trans (hk b o h1 h3 z)
    have hT2 : h2.get? s.heap.objs.size = some { cls := .type "tuple", data := .seq #[.int ((p + i' : Nat) : Int) tk, y] } := (hs2.2 _ (Nat.ne_of_gt hel)).trans hT
    have fe := hf e (by simp)
    have fi := hf it (by simp)
    have ne : ∀ b o, H b = some o → b ≠ e ∧ b ≠ it := fun b o z => ⟨fun z2 => (by subst z2; rw [fe.1] at z; cases z), fun z2 => (by subst z2; rw [fi.1] at z; cases z)⟩
    have lt : ∀ b o, H b = some o → b ≠ s.heap.objs.size := fun b o z => Nat.ne_of_lt (I.hok.lt z)
    have hok : HOk X.prog X.w (upd H s.heap.objs.size (.tup [.int ((p + i' : Nat) : Int), x])) h2 := fun b o z => by
      by_cases hb : b = s.heap.objs.size
      · subst hb
        rw [upd_same] at z
        cases z
        exact ⟨by show 2 ≤ _; decide, [.int ((p + i' : Nat) : Int) tk, y], .cons ⟨tk, rfl⟩ (.cons ru .nil), ⟨_, hT2, rfl, _, rfl⟩⟩
      · rw [upd_ne hb] at z
        refine (I.hok b o z).stay (fun c v hc q => ?_) (fun c q => by rw [upd_ne (lt c _ q)]; exact q) fun c ys q => by rw [upd_ne (lt c _ q)]; exact q
        rcases hc with rfl | hc
        · exact kp _ v (ne _ o z).1 (ne _ o z).2 q
        · exact kp c v (ne c _ hc).1 (ne c _ hc).2 q
    have old2 : ∀ b o, s.heap.get? b = some o → b ≠ s.heap.objs.size := fun b o z => Nat.ne_of_lt (Heap.lt_size z)
    have U : Un (frs X.stack) [e, it] H (upd H s.heap.objs.size (.tup [.int ((p + i' : Nat) : Int), x])) s.heap h2 := by
      have nch : ∀ b, b ∉ [e, it] → b ≠ e ∧ b ≠ it := fun b hb => ⟨fun z => hb (by simp [z]), fun z => hb (by simp [z])⟩
      refine ⟨fun b o z _ _ hb => kp b o (nch b hb).1 (nch b hb).2 z, fun b o z _ _ hb => ⟨o.slots, kp b o (nch b hb).1 (nch b hb).2 z⟩, fun b o z n hb => by rw [upd_ne (old2 b o z)]; exact n, fun b o z hb => ?_, fun b ys z => by rw [upd_ne (lt b _ z)]; exact z, fun b o u z => by rw [upd_ne (lt b _ z)]; exact z, fun b ps z => ⟨#[], by rw [upd_ne (lt b _ z), z]; simp⟩⟩
      exact ⟨o, kp b o (nch b hb).1 (nch b hb).2 z⟩
    have I2 : Inv X pins σ (upd H s.heap.objs.size (.tup [.int ((p + i' : Nat) : Int), x])) { s with heap := h2, toks := tk + 1 } := I.call (g' := s.gens) (t' := tk + 1) (d' := s.drawn) (ch := [e, it]) U hok I.bare fun b hb => by
      have f := hf b hb
      exact ⟨f.2.2.2.1, f.2.1, f.2.2.2.2.1, f.2.2.2.2.2⟩
    obtain ⟨i2, ei2, hit2, _⟩ := hst
    have ei3 : i2 = i' + 1 := by omega
    subst ei3
    refine ⟨.ref s.heap.objs.size, _, I2, rfl, ⟨s.heap.objs.size, x, hn, rfl, fun ys hy => by rw [I.list_inj hy hq]; exact hx, rfl⟩, ⟨⟨y, ?_⟩, hit2.at fun o z => (hs2.2 it hei.symm).trans z⟩, fun b hb => ?_⟩
    · have ec : (((p + i' : Nat) : Int) + 1) = ((p + (i' + 1) : Nat) : Int) := by omega
      rw [← ec]
      exact he2
    · have f := (hf b hb).1
      obtain ⟨ob, zb, _⟩ : ∃ o, s.heap.get? b = some o ∧ True := by
        rcases List.mem_cons.mp hb with rfl | hb
        · exact ⟨_, he, trivial⟩
        · have eb : b = it := by simpa using hb
          subst eb
          obtain ⟨o, ho2, _⟩ := hit
          exact ⟨o, ho2, trivial⟩
      rw [upd_ne (old2 b ob zb)]
      exact f
  done := by
    intro X hP hw hK hc i pins s σ H E I hf st hg
    subst hP hw hK
    obtain ⟨xs, hq, hx⟩ := hg
    obtain ⟨its, rv, pl, hz⟩ := I.list hq
    obtain ⟨⟨old, he⟩, hit⟩ := st
    have hlen := rv.length
    have fi := hf it (by simp)
    have ei : i = its.toArray.size := by simp; omega
    subst ei
    exact wpAny_pyNext_enum_endD (en_shift p (Draws.list (prog := X.prog) (w := X.w) (A := X.A.in1) (I.ok.hd hc) it l hli its.toArray)) he ⟨its.toArray.size, rfl, hit, pl.isList⟩
      fun h' eb => ⟨rfl, I.turned (t' := s.toks) (fun b o hb z => eb b o hb z) fi.1 fi.2.1 fi.2.2.2.1 fi.2.2.2.2.1 fi.2.2.2.2.2⟩
  self := fun _ _ _ _ _ st h => by
    obtain ⟨⟨old, he⟩, _⟩ := st
    exact wpAny_pyIter_enum he h
theorem bt_enumerate : bootBuiltins "enumerate" = some (.type "enumerate") := by decide +kernel
section
variable {M : Model} {A : Around} {E : Value → Shared → Prop} {s : Shared} {env : Env}
theorem en_with {pos : Pos} {T : String} {e : Expr} {kws : List Keyword} {Q : Value → Shared → Prop}
    (h : wpAny M A (spliced (backTo pos (starEach [e] env))) (fun vs s1 => wpAny M A (evalAll ((backToKw pos (keywordEach kws env)).map (·.2)))
      (fun kvs s2 => wpAny M A (call (.type T) vs (((backToKw pos (keywordEach kws env)).filterMap (·.1)).zip kvs)) Q E s2) E s1) E s)
    (he : starEach [e] env = [(false, eval e env)]) (hall : (backToKw pos (keywordEach kws env)).all (·.1.isSome) = true := by rfl)
    (hkw : (backToKw pos (keywordEach kws env)).any (·.1.isNone) = false := by rfl) :
    wpAny M A (callWith pos (.type T) [] (backTo pos (starEach [e] env)) (backToKw pos (keywordEach kws env))) Q E s := by
  rw [he] at h ⊢
  have hp : (backTo pos [(false, eval e env)]).any (·.1) = false := rfl
  unfold callWith
  have h2 : wpAny M A (evalArgs (.type T) true (backTo pos [(false, eval e env)]) (backToKw pos (keywordEach kws env))) (fun a s1 => wpAny M A (call (.type T) ([] ++ a.pos) a.kw) Q E s1) E s := evalArgs_kwB hall h
  refine wpAny_bind (wpAny_holding (thn h2 fun a s3 h3 => wpAny_bind (wpAny_standAt ?_)))
  simp only [hp, hkw, Bool.or_false]
  refine wpAny_bind (wpAny_pure ?_)
  exact wpAny_bind (thn h3 fun r s4 hr => wpAny_bind (wpAny_holding (wpAny_point (wpAny_pure hr))))
end
section
variable {X : Cx}
def iEnum (K : PySem.W.Frag) (tl tp : TE) : TI := fun σ H R => tl σ H fun x H1 => tp σ H1 fun y H2 => ∃ (a : Addr) (p : Nat), x = .ref a ∧ y = .int p ∧ (∃ xs, SqL K H2 a xs) ∧ p < 2 ^ 62 ∧ R (Ite K a p) H2
theorem fits_en {p : Nat} (h : p < 2 ^ 62) : (!Builtin.SmallTypes.fitsIndex (p : Int)) = false := by
  have h1 : (p : Int) < 2 ^ 62 := by exact_mod_cast h
  unfold Builtin.SmallTypes.fitsIndex
  simp
  omega
theorem pi_enum {l st : Expr} {tl tp : TE} {es : List Expr} {k : Nat} {tpos p kp pos : Pos} (hg : Gl X "enumerate") (hm : X.mg "enumerate" = none) (hl : PE X l tl) (hst : PE X st tp)
    (he : starEach [l] X.env = [(false, eval l X.env)] := by rfl) : PI X (.Tuple es k tpos) (.Call (.Name "enumerate" p) [l] [⟨some "start", st, kp⟩] pos) (iEnum X.K tl tp) := by
  intro pins s σ H R I h
  refine wpAny_Call_Name_kw (ld_blt I hg hm bt_enumerate (en_with ?_ he))
  have hA : PA X [l] (tCons tl tNil) := pa_cons hl pa_nil he
  refine thn (hA pos pins s σ H (fun vs H1 => match vs with
    | [x] => tp σ H1 fun y H2 => ∃ (a : Addr) (p : Nat), x = .ref a ∧ y = .int p ∧ (∃ xs, SqL X.K H2 a xs) ∧ p < 2 ^ 62 ∧ R (Ite X.K a p) H2
    | _ => False) I h) fun us s1 ⟨vs, H1, I1, r1, q1⟩ => ?_
  match vs, r1, q1 with
  | [x], .cons (b := u) ra .nil, q1 =>
    refine kws_cons (thn (hst pins s1 σ H1 _ I1 q1) fun v s2 ⟨y, H2, I2, r2, q2⟩ => kws_nil ?_)
    obtain ⟨a, p, e1, e2, ⟨xs, hq⟩, hp, qq⟩ := q2
    subst e1 e2
    cases ra
    obtain ⟨t, rfl⟩ := r2
    obtain ⟨its, rv, pl, hz⟩ := I2.list hq
    have hlt : a < s2.heap.objs.size := by
      obtain ⟨o, e, _⟩ := pl.isList
      exact Heap.lt_size e
    refine en_call pl.isList (fits_en hp) fun h' hen hit hsz hk => wpAny_pyIter_enum hen ?_
    refine ⟨s2.heap.objs.size + 1, [s2.heap.objs.size + 1, s2.heap.objs.size], _, _, H2, rfl, I2.kept (t' := s2.toks) hk, turn_enum a _ _ p (Nat.succ_ne_self _) (Nat.ne_of_lt (Nat.lt_succ_of_lt hlt)) (Nat.ne_of_lt hlt), ⟨⟨.none, hen⟩, hit⟩, fun b hb => ?_, qq⟩
    rcases List.mem_cons.mp hb with rfl | hb
    · exact I2.fpOk (Nat.le_succ _) (I2.hok.fresh (Nat.le_succ _))
    · have eb : b = s2.heap.objs.size := by simpa using hb
      subst eb
      exact I2.fpOk (Nat.le_refl _) (I2.hok.fresh (Nat.le_refl _))
theorem for_enum {K : PySem.W.Frag} {a : Addr} {p : Nat} {xs : List V} {g : TG} {tb : TS} {D : Ends} {σ : St} {H : Hp} (Pv : Nat → St → Hp → Prop) (h0 : Pv 0 σ H) (hl : ∀ i σ H, i ≤ xs.length → Pv i σ H → SqL K H a xs)
    (hs : ∀ i x t σ H, xs[i]? = some x → Pv i σ H → H t = none → g (.ref t) σ (upd H t (.tup [.int ((p + i : Nat) : Int), x])) fun σ2 H2 => tb { D with nx := Pv (i + 1), ct := Pv (i + 1), bk := D.nx } σ2 H2) (hd : ∀ σ H, Pv xs.length σ H → D.nx σ H) :
    ∃ W : Nat → Nat → St → Hp → Prop, (∃ m, W 0 m σ H) ∧ ∀ i m σ H, W i m σ H →
      ((Ite K a p).stop i H ∧ D.nx σ H) ∨ ((Ite K a p).go i H ∧ ∃ N : St → Hp → Prop, (∀ σ' H', N σ' H' → ∃ m', m' < m ∧ W (i + 1) m' σ' H') ∧ ∀ x H', (Ite K a p).yld i H x H' → g x σ H' fun σ2 H2 => tb { D with nx := N, ct := N, bk := D.nx } σ2 H2) := by
  refine ⟨fun i m σ H => m + i = xs.length ∧ Pv i σ H, ⟨xs.length, rfl, h0⟩, ?_⟩
  rintro i m σ H ⟨hm, pv⟩
  have q := hl i σ H (by omega) pv
  cases m with
  | zero =>
    have ei : i = xs.length := by omega
    subst ei
    exact .inl ⟨⟨xs, q, rfl⟩, hd σ H pv⟩
  | succ m =>
    have hlt : i < xs.length := by omega
    refine .inr ⟨⟨xs, xs[i], q, by simp [hlt]⟩, Pv (i + 1), fun σ' H' p' => ⟨m, by omega, by omega, p'⟩, fun x H' y => ?_⟩
    obtain ⟨t, v, hn, rfl, hv, rfl⟩ := y
    exact hs i v t σ H (hv xs q) pv hn
end
end L2
namespace L2
open PySem PySem.Spec PyProof.Rows
inductive D where
  | non | bl (b : Bool) | int (i : Int) | str (x : Str) | lst (ds : List D) | tup (ds : List D)
mutual
def deq : D → D → Bool
  | .non, .non => true
  | .bl a, .bl b => a == b
  | .bl a, .int b => (if a then 1 else 0) == b
  | .int a, .bl b => a == (if b then 1 else 0)
  | .int a, .int b => a == b
  | .str a, .str b => a == b
  | .lst a, .lst b => deqs a b
  | .tup a, .tup b => deqs a b
  | _, _ => false
def deqs : List D → List D → Bool
  | [], [] => true
  | a :: x, b :: y => deq a b && deqs x y
  | _, _ => false
end
mutual
def D.dep : D → Nat
  | .lst a => deps a + 1
  | .tup a => deps a + 1
  | _ => 0
def deps : List D → Nat
  | [] => 0
  | a :: x => max a.dep (deps x)
end
mutual
theorem deq_refl : ∀ d : D, deq d d = true
  | .non => by simp [deq]
  | .bl b => by simp [deq]
  | .int i => by simp [deq]
  | .str x => by simp [deq]
  | .lst ds => by rw [deq]; exact deqs_refl ds
  | .tup ds => by rw [deq]; exact deqs_refl ds
theorem deqs_refl : ∀ ds : List D, deqs ds ds = true
  | [] => by simp [deqs]
  | d :: ds => by rw [deqs, deq_refl d, deqs_refl ds]; rfl
end
theorem deps_le : ∀ {ds : List D} {i : Nat} {d : D}, ds[i]? = some d → d.dep ≤ deps ds
  | [], _, _, h => by simp at h
  | e :: ds, 0, d, h => by
    simp at h
    subst h
    rw [deps]
    exact Nat.le_max_left _ _
  | e :: ds, i + 1, d, h => by
    rw [deps]
    exact Nat.le_trans (deps_le (i := i) (by simpa using h)) (Nat.le_max_right _ _)
theorem deqs_len : ∀ {ds es : List D}, ds.length ≠ es.length → deqs ds es = false
  | [], [], h => absurd rfl h
  | [], _ :: _, _ => by simp [deqs]
  | _ :: _, [], _ => by simp [deqs]
  | d :: ds, e :: es, h => by rw [deqs, deqs_len (by simpa using h), Bool.and_false]
theorem deqs_all : ∀ {ds es : List D}, ds.length = es.length → deqs ds es = (List.range ds.length).all fun j => deq (ds.getD j .non) (es.getD j .non)
  | [], [], _ => by simp [deqs]
  | [], _ :: _, h => by simp at h
  | _ :: _, [], h => by simp at h
  | d :: ds, e :: es, h => by
    rw [deqs, deqs_all (by simpa using h), List.length_cons, List.range_succ_eq_map, List.all_cons, List.all_map]
    rfl
inductive IsD (K : PySem.W.Frag) (H : Hp) : V → D → Prop where
  | non : IsD K H .non .non
  | bl (b : Bool) : IsD K H (.bl b) (.bl b)
  | int (i : Int) : IsD K H (.int i) (.int i)
  | str (x : Str) : IsD K H (.str x) (.str x)
  | lst {a : Addr} {xs : List V} {ds : List D} (h : SqL K H a xs) (hl : xs.length = ds.length) (hi : ∀ (i : Nat) (x : V) (d : D), xs[i]? = some x → ds[i]? = some d → IsD K H x d) : IsD K H (.ref a) (.lst ds)
  | tup {a : Addr} {xs : List V} {ds : List D} (h : SqT K H a xs) (hl : xs.length = ds.length) (hi : ∀ (i : Nat) (x : V) (d : D), xs[i]? = some x → ds[i]? = some d → IsD K H x d) : IsD K H (.ref a) (.tup ds)
section
variable {X : Cx} {pins : List (Addr × Obj)} {s : Shared} {σ : St} {H : Hp}
theorem Inv.not_both (I : Inv X pins σ H s) {a : Addr} {xs ys : List V} (h : SqL X.K H a xs) (h' : SqT X.K H a ys) : False := by
  obtain ⟨its, _, p, _⟩ := I.list h
  obtain ⟨its2, _, q, _⟩ := I.tuple h'
  obtain ⟨o, e, c, _⟩ := p.isList
  obtain ⟨o2, e2, c2, _⟩ := q
  rw [e] at e2
  cases e2
  rw [c] at c2
  injection c2 with h3
  exact absurd h3 (by decide)
theorem ext_D {xs : List V} {ds es : List D} (hl : xs.length = ds.length) (hl2 : xs.length = es.length) (h : ∀ (i : Nat) x d e, xs[i]? = some x → ds[i]? = some d → es[i]? = some e → d = e) : ds = es := by
  refine List.ext_getElem (by omega) fun i h1 h2 => ?_
  exact h i _ _ _ (List.getElem?_eq_getElem (by omega)) (List.getElem?_eq_getElem h1) (List.getElem?_eq_getElem h2)
theorem IsD.one (I : Inv X pins σ H s) {x : V} {d : D} (h : IsD X.K H x d) : ∀ {e : D}, IsD X.K H x e → d = e := by
  induction h with
  | non => intro e h; cases h; rfl
  | bl b => intro e h; cases h; rfl
  | int b => intro e h; cases h; rfl
  | str b => intro e h; cases h; rfl
  | lst q hl hi ih =>
    intro e h
    cases h with
    | lst q2 hl2 hi2 =>
      cases I.list_inj q q2
      rw [ext_D hl hl2 fun i x d e h1 h2 h3 => ih i x d h1 h2 (hi2 i x e h1 h3)]
    | tup q2 hl2 hi2 => exact (I.not_both q q2).elim
  | tup q hl hi ih =>
    intro e h
    cases h with
    | tup q2 hl2 hi2 =>
      cases I.tuple_inj q q2
      rw [ext_D hl hl2 fun i x d e h1 h2 h3 => ih i x d h1 h2 (hi2 i x e h1 h3)]
    | lst q2 hl2 hi2 => exact (I.not_both q2 q).elim
theorem getD_of {ds : List D} {i : Nat} (h : i < ds.length) : ds[i]? = some (ds.getD i .non) := by simp [List.getD, h]
theorem items_D {xs ys : List V} {ds es : List D} {its its2 : List Value} {A : Around} (r1 : Vals xs its) (r2 : Vals ys its2) (hl : xs.length = ds.length) (hl2 : ys.length = es.length)
    (ih : ∀ (i : Nat) x d, xs[i]? = some x → ds[i]? = some d → ∀ {y : V} {e : D} {u v : Value}, IsD X.K H y e → RelV x u → RelV y v → SeqAt.EqAt A s u v (deq d e)) (hi2 : ∀ (i : Nat) y e, ys[i]? = some y → es[i]? = some e → IsD X.K H y e) :
    ∀ j (h1 : j < its.toArray.size) (h2 : j < its2.toArray.size), SeqAt.EqAt A s its.toArray[j] its2.toArray[j] (deq (ds.getD j .non) (es.getD j .non)) := by
  intro j h1 h2
  have l1 := r1.length
  have l2 := r2.length
  have j1 : j < xs.length := by simp at h1; omega
  have j2 : j < ys.length := by simp at h2; omega
  obtain ⟨u1, e1, q1⟩ := r1.get (List.getElem?_eq_getElem j1)
  obtain ⟨u2, e2, q2⟩ := r2.get (List.getElem?_eq_getElem j2)
  have i1 : its.toArray[j] = u1 := by
    obtain ⟨_, e⟩ := List.getElem?_eq_some_iff.mp e1
    simpa using e
  have i2 : its2.toArray[j] = u2 := by
    obtain ⟨_, e⟩ := List.getElem?_eq_some_iff.mp e2
    simpa using e
  rw [i1, i2]
  exact ih j _ _ (List.getElem?_eq_getElem j1) (getD_of (by omega)) (hi2 j _ _ (List.getElem?_eq_getElem j2) (getD_of (by omega))) q1 q2
theorem tup_D {ds es : List D} : (((List.range (min ds.length es.length)).all fun j => deq (ds.getD j .non) (es.getD j .non)) && (ds.length == es.length)) = deqs ds es := by
  by_cases h : ds.length = es.length
  · rw [deqs_all h, h]
    simp
  · rw [deqs_len h]
    have : (ds.length == es.length) = false := by simpa using h
    rw [this, Bool.and_false]
theorem eqAt_D (I : Inv X pins σ H s) {x : V} {d : D} (h : IsD X.K H x d) : ∀ {A : Around}, A.units + d.dep < cLine → ∀ {y : V} {e : D} {u v : Value}, IsD X.K H y e → RelV x u → RelV y v → SeqAt.EqAt A s u v (deq d e) := by
  induction h with
  | non =>
    intro A hu y e u v h2 r1 r2
    cases r1
    have hu0 : A.units < cLine := Nat.lt_of_le_of_lt (Nat.le_add_right _ _) hu
    cases h2 with
    | non =>
      cases r2
      first | exact SeqAt.EqAt.same _ | (rw [deq] <;> first | exact SeqAt.EqAt.same _ | nofun)
    | bl b2 =>
      cases r2
      first | exact SeqAt.EqAt.none_bool b2 | (rw [deq] <;> first | exact SeqAt.EqAt.none_bool b2 | nofun)
    | int b2 =>
      obtain ⟨t2, rfl⟩ := r2
      first | exact SeqAt.EqAt.none_int b2 t2 | (rw [deq] <;> first | exact SeqAt.EqAt.none_int b2 t2 | nofun)
    | str b2 =>
      obtain ⟨t2, rfl⟩ := r2
      first | exact SeqAt.EqAt.none_str b2 t2 | (rw [deq] <;> first | exact SeqAt.EqAt.none_str b2 t2 | nofun)
    | @lst a2 xs2 ds2 q2 l2 i2 =>
      cases r2
      obtain ⟨its2, v2, p2, z2⟩ := I.list q2
      first | exact SeqAt.EqAt.none_list p2.isList hu0 | (rw [deq] <;> first | exact SeqAt.EqAt.none_list p2.isList hu0 | nofun)
    | @tup a2 xs2 ds2 q2 l2 i2 =>
      cases r2
      obtain ⟨its2, v2, p2, z2⟩ := I.tuple q2
      first | exact SeqAt.EqAt.none_tuple p2 hu0 | (rw [deq] <;> first | exact SeqAt.EqAt.none_tuple p2 hu0 | nofun)
  | bl b1 =>
    intro A hu y e u v h2 r1 r2
    cases r1
    have hu0 : A.units < cLine := Nat.lt_of_le_of_lt (Nat.le_add_right _ _) hu
    cases h2 with
    | non =>
      cases r2
      first | exact SeqAt.EqAt.bool_none b1 | (rw [deq] <;> first | exact SeqAt.EqAt.bool_none b1 | nofun)
    | bl b2 =>
      cases r2
      first | exact SeqAt.EqAt.bool_bool b1 b2 | (rw [deq] <;> first | exact SeqAt.EqAt.bool_bool b1 b2 | nofun)
    | int b2 =>
      obtain ⟨t2, rfl⟩ := r2
      first | exact SeqAt.EqAt.bool_int b1 b2 t2 | (rw [deq] <;> first | exact SeqAt.EqAt.bool_int b1 b2 t2 | nofun)
    | str b2 =>
      obtain ⟨t2, rfl⟩ := r2
      first | exact SeqAt.EqAt.bool_str b1 b2 t2 | (rw [deq] <;> first | exact SeqAt.EqAt.bool_str b1 b2 t2 | nofun)
    | @lst a2 xs2 ds2 q2 l2 i2 =>
      cases r2
      obtain ⟨its2, v2, p2, z2⟩ := I.list q2
      first | exact SeqAt.EqAt.bool_list b1 p2.isList hu0 | (rw [deq] <;> first | exact SeqAt.EqAt.bool_list b1 p2.isList hu0 | nofun)
    | @tup a2 xs2 ds2 q2 l2 i2 =>
      cases r2
      obtain ⟨its2, v2, p2, z2⟩ := I.tuple q2
      first | exact SeqAt.EqAt.bool_tuple b1 p2 hu0 | (rw [deq] <;> first | exact SeqAt.EqAt.bool_tuple b1 p2 hu0 | nofun)
  | int b1 =>
    intro A hu y e u v h2 r1 r2
    obtain ⟨t1, rfl⟩ := r1
    have hu0 : A.units < cLine := Nat.lt_of_le_of_lt (Nat.le_add_right _ _) hu
    cases h2 with
    | non =>
      cases r2
      first | exact SeqAt.EqAt.int_none b1 t1 | (rw [deq] <;> first | exact SeqAt.EqAt.int_none b1 t1 | nofun)
    | bl b2 =>
      cases r2
      first | exact SeqAt.EqAt.int_bool b1 t1 b2 | (rw [deq] <;> first | exact SeqAt.EqAt.int_bool b1 t1 b2 | nofun)
    | int b2 =>
      obtain ⟨t2, rfl⟩ := r2
      first | exact SeqAt.EqAt.int_int b1 t1 b2 t2 | (rw [deq] <;> first | exact SeqAt.EqAt.int_int b1 t1 b2 t2 | nofun)
    | str b2 =>
      obtain ⟨t2, rfl⟩ := r2
      first | exact SeqAt.EqAt.int_str b1 t1 b2 t2 | (rw [deq] <;> first | exact SeqAt.EqAt.int_str b1 t1 b2 t2 | nofun)
    | @lst a2 xs2 ds2 q2 l2 i2 =>
      cases r2
      obtain ⟨its2, v2, p2, z2⟩ := I.list q2
      first | exact SeqAt.EqAt.int_list b1 t1 p2.isList hu0 | (rw [deq] <;> first | exact SeqAt.EqAt.int_list b1 t1 p2.isList hu0 | nofun)
    | @tup a2 xs2 ds2 q2 l2 i2 =>
      cases r2
      obtain ⟨its2, v2, p2, z2⟩ := I.tuple q2
      first | exact SeqAt.EqAt.int_tuple b1 t1 p2 hu0 | (rw [deq] <;> first | exact SeqAt.EqAt.int_tuple b1 t1 p2 hu0 | nofun)
  | str b1 =>
    intro A hu y e u v h2 r1 r2
    obtain ⟨t1, rfl⟩ := r1
    have hu0 : A.units < cLine := Nat.lt_of_le_of_lt (Nat.le_add_right _ _) hu
    cases h2 with
    | non =>
      cases r2
      first | exact SeqAt.EqAt.str_none b1 t1 | (rw [deq] <;> first | exact SeqAt.EqAt.str_none b1 t1 | nofun)
    | bl b2 =>
      cases r2
      first | exact SeqAt.EqAt.str_bool b1 t1 b2 | (rw [deq] <;> first | exact SeqAt.EqAt.str_bool b1 t1 b2 | nofun)
    | int b2 =>
      obtain ⟨t2, rfl⟩ := r2
      first | exact SeqAt.EqAt.str_int b1 t1 b2 t2 | (rw [deq] <;> first | exact SeqAt.EqAt.str_int b1 t1 b2 t2 | nofun)
    | str b2 =>
      obtain ⟨t2, rfl⟩ := r2
      first | exact SeqAt.EqAt.str_str b1 t1 b2 t2 | (rw [deq] <;> first | exact SeqAt.EqAt.str_str b1 t1 b2 t2 | nofun)
    | @lst a2 xs2 ds2 q2 l2 i2 =>
      cases r2
      obtain ⟨its2, v2, p2, z2⟩ := I.list q2
      first | exact SeqAt.EqAt.str_list b1 t1 p2.isList hu0 | (rw [deq] <;> first | exact SeqAt.EqAt.str_list b1 t1 p2.isList hu0 | nofun)
    | @tup a2 xs2 ds2 q2 l2 i2 =>
      cases r2
      obtain ⟨its2, v2, p2, z2⟩ := I.tuple q2
      first | exact SeqAt.EqAt.str_tuple b1 t1 p2 hu0 | (rw [deq] <;> first | exact SeqAt.EqAt.str_tuple b1 t1 p2 hu0 | nofun)
  | @lst a1 xs1 ds1 q1 l1 i1 ih =>
    intro A hu y e u v h2 r1 r2
    cases r1
    have hu0 : A.units < cLine := Nat.lt_of_le_of_lt (Nat.le_add_right _ _) hu
    obtain ⟨its1, v1, p1, z1⟩ := I.list q1
    have n1 : its1.toArray.size = ds1.length := by rw [List.size_toArray, ← v1.length, l1]
    have hu1 : ∀ (i : Nat) (d : D), ds1[i]? = some d → A.in1.units + d.dep < cLine := fun i d h => by
      have e1 := deps_le h
      have e2 : A.units + (deps ds1 + 1) < cLine := by simpa only [D.dep] using hu
      show A.units + 1 + d.dep < cLine
      omega
    cases h2 with
    | non =>
      cases r2
      first | exact SeqAt.EqAt.list_none p1.isList hu0 | (rw [deq] <;> first | exact SeqAt.EqAt.list_none p1.isList hu0 | nofun)
    | bl b2 =>
      cases r2
      first | exact SeqAt.EqAt.list_bool b2 p1.isList hu0 | (rw [deq] <;> first | exact SeqAt.EqAt.list_bool b2 p1.isList hu0 | nofun)
    | int b2 =>
      obtain ⟨t2, rfl⟩ := r2
      first | exact SeqAt.EqAt.list_int b2 t2 p1.isList hu0 | (rw [deq] <;> first | exact SeqAt.EqAt.list_int b2 t2 p1.isList hu0 | nofun)
    | str b2 =>
      obtain ⟨t2, rfl⟩ := r2
      first | exact SeqAt.EqAt.list_str b2 t2 p1.isList hu0 | (rw [deq] <;> first | exact SeqAt.EqAt.list_str b2 t2 p1.isList hu0 | nofun)
    | @lst a2 xs2 ds2 q2 l2 i2 =>
      cases r2
      obtain ⟨its2, v2, p2, z2⟩ := I.list q2
      have n2 : its2.toArray.size = ds2.length := by rw [List.size_toArray, ← v2.length, l2]
      have it := items_D (X := X) (A := A.in1) v1 v2 l1 l2 (fun i x d ha hb => ih i x d ha hb (hu1 i d hb)) i2
      by_cases hne : a1 = a2
      · subst hne
        cases (IsD.lst q1 l1 i1).one I (IsD.lst q2 l2 i2)
        rw [deq_refl]
        exact SeqAt.EqAt.same _
      refine SeqAt.EqAt.of_refs hne ?_
      rw [deq]
      by_cases hlen : its1.toArray.size = its2.toArray.size
      · rw [deqs_all (by omega), ← n1]
        exact SeqAt.RcAt.lists p1.isList p2.isList hlen hu0 it
      · rw [deqs_len (by omega)]
        exact SeqAt.RcAt.lists_lengths p1.isList p2.isList (by simpa using hlen) hu0
    | @tup a2 xs2 ds2 q2 l2 i2 =>
      cases r2
      obtain ⟨its2, v2, p2, z2⟩ := I.tuple q2
      first | exact SeqAt.EqAt.list_tuple p1.isList p2 hu0 | (rw [deq] <;> first | exact SeqAt.EqAt.list_tuple p1.isList p2 hu0 | nofun)
  | @tup a1 xs1 ds1 q1 l1 i1 ih =>
    intro A hu y e u v h2 r1 r2
    cases r1
    have hu0 : A.units < cLine := Nat.lt_of_le_of_lt (Nat.le_add_right _ _) hu
    obtain ⟨its1, v1, p1, z1⟩ := I.tuple q1
    have n1 : its1.toArray.size = ds1.length := by rw [List.size_toArray, ← v1.length, l1]
    have hu1 : ∀ (i : Nat) (d : D), ds1[i]? = some d → A.in1.units + d.dep < cLine := fun i d h => by
      have e1 := deps_le h
      have e2 : A.units + (deps ds1 + 1) < cLine := by simpa only [D.dep] using hu
      show A.units + 1 + d.dep < cLine
      omega
    cases h2 with
    | non =>
      cases r2
      first | exact SeqAt.EqAt.tuple_none p1 hu0 | (rw [deq] <;> first | exact SeqAt.EqAt.tuple_none p1 hu0 | nofun)
    | bl b2 =>
      cases r2
      first | exact SeqAt.EqAt.tuple_bool b2 p1 hu0 | (rw [deq] <;> first | exact SeqAt.EqAt.tuple_bool b2 p1 hu0 | nofun)
    | int b2 =>
      obtain ⟨t2, rfl⟩ := r2
      first | exact SeqAt.EqAt.tuple_int b2 t2 p1 hu0 | (rw [deq] <;> first | exact SeqAt.EqAt.tuple_int b2 t2 p1 hu0 | nofun)
    | str b2 =>
      obtain ⟨t2, rfl⟩ := r2
      first | exact SeqAt.EqAt.tuple_str b2 t2 p1 hu0 | (rw [deq] <;> first | exact SeqAt.EqAt.tuple_str b2 t2 p1 hu0 | nofun)
    | @lst a2 xs2 ds2 q2 l2 i2 =>
      cases r2
      obtain ⟨its2, v2, p2, z2⟩ := I.list q2
      first | exact SeqAt.EqAt.tuple_list p1 p2.isList hu0 | (rw [deq] <;> first | exact SeqAt.EqAt.tuple_list p1 p2.isList hu0 | nofun)
    | @tup a2 xs2 ds2 q2 l2 i2 =>
      cases r2
      obtain ⟨its2, v2, p2, z2⟩ := I.tuple q2
      have n2 : its2.toArray.size = ds2.length := by rw [List.size_toArray, ← v2.length, l2]
      have it := items_D (X := X) (A := A.in1) v1 v2 l1 l2 (fun i x d ha hb => ih i x d ha hb (hu1 i d hb)) i2
      by_cases hne : a1 = a2
      · subst hne
        cases (IsD.tup q1 l1 i1).one I (IsD.tup q2 l2 i2)
        rw [deq_refl]
        exact SeqAt.EqAt.same _
      refine SeqAt.EqAt.of_refs hne ?_
      rw [deq]
      rw [← tup_D, ← n1, ← n2]
      exact SeqAt.RcAt.tuples p1 p2 hu0 it
theorem rcAt_D (I : Inv X pins σ H s) {A : Around} {x y : V} {d e : D} {u v : Value} (h : IsD X.K H x d) (h2 : IsD X.K H y e) (hu : A.units + d.dep < cLine) (r1 : RelV x u) (r2 : RelV y v) : SeqAt.RcAt A s u v (deq d e) := by
  cases h with
  | non =>
    cases r1
    have hu0 : A.units < cLine := Nat.lt_of_le_of_lt (Nat.le_add_right _ _) hu
    cases h2 with
    | non =>
      cases r2
      first | exact SeqAt.RcAt.none_none | (rw [deq] <;> first | exact SeqAt.RcAt.none_none | nofun)
    | bl b2 =>
      cases r2
      first | exact SeqAt.RcAt.none_bool b2 | (rw [deq] <;> first | exact SeqAt.RcAt.none_bool b2 | nofun)
    | int b2 =>
      obtain ⟨t2, rfl⟩ := r2
      first | exact SeqAt.RcAt.none_int b2 t2 | (rw [deq] <;> first | exact SeqAt.RcAt.none_int b2 t2 | nofun)
    | str b2 =>
      obtain ⟨t2, rfl⟩ := r2
      first | exact SeqAt.RcAt.none_str b2 t2 | (rw [deq] <;> first | exact SeqAt.RcAt.none_str b2 t2 | nofun)
    | @lst a2 xs2 ds2 q2 l2 i2 =>
      cases r2
      obtain ⟨its2, v2, p2, z2⟩ := I.list q2
      first | exact SeqAt.RcAt.none_list p2.isList hu0 | (rw [deq] <;> first | exact SeqAt.RcAt.none_list p2.isList hu0 | nofun)
    | @tup a2 xs2 ds2 q2 l2 i2 =>
      cases r2
      obtain ⟨its2, v2, p2, z2⟩ := I.tuple q2
      first | exact SeqAt.RcAt.none_tuple p2 hu0 | (rw [deq] <;> first | exact SeqAt.RcAt.none_tuple p2 hu0 | nofun)
  | bl b1 =>
    cases r1
    have hu0 : A.units < cLine := Nat.lt_of_le_of_lt (Nat.le_add_right _ _) hu
    cases h2 with
    | non =>
      cases r2
      first | exact SeqAt.RcAt.bool_none b1 | (rw [deq] <;> first | exact SeqAt.RcAt.bool_none b1 | nofun)
    | bl b2 =>
      cases r2
      first | exact SeqAt.RcAt.bool_bool b1 b2 | (rw [deq] <;> first | exact SeqAt.RcAt.bool_bool b1 b2 | nofun)
    | int b2 =>
      obtain ⟨t2, rfl⟩ := r2
      first | exact SeqAt.RcAt.bool_int b1 b2 t2 | (rw [deq] <;> first | exact SeqAt.RcAt.bool_int b1 b2 t2 | nofun)
    | str b2 =>
      obtain ⟨t2, rfl⟩ := r2
      first | exact SeqAt.RcAt.bool_str b1 b2 t2 | (rw [deq] <;> first | exact SeqAt.RcAt.bool_str b1 b2 t2 | nofun)
    | @lst a2 xs2 ds2 q2 l2 i2 =>
      cases r2
      obtain ⟨its2, v2, p2, z2⟩ := I.list q2
      first | exact SeqAt.RcAt.bool_list b1 p2.isList hu0 | (rw [deq] <;> first | exact SeqAt.RcAt.bool_list b1 p2.isList hu0 | nofun)
    | @tup a2 xs2 ds2 q2 l2 i2 =>
      cases r2
      obtain ⟨its2, v2, p2, z2⟩ := I.tuple q2
      first | exact SeqAt.RcAt.bool_tuple b1 p2 hu0 | (rw [deq] <;> first | exact SeqAt.RcAt.bool_tuple b1 p2 hu0 | nofun)
  | int b1 =>
    obtain ⟨t1, rfl⟩ := r1
    have hu0 : A.units < cLine := Nat.lt_of_le_of_lt (Nat.le_add_right _ _) hu
    cases h2 with
    | non =>
      cases r2
      first | exact SeqAt.RcAt.int_none b1 t1 | (rw [deq] <;> first | exact SeqAt.RcAt.int_none b1 t1 | nofun)
    | bl b2 =>
      cases r2
      first | exact SeqAt.RcAt.int_bool b1 t1 b2 | (rw [deq] <;> first | exact SeqAt.RcAt.int_bool b1 t1 b2 | nofun)
    | int b2 =>
      obtain ⟨t2, rfl⟩ := r2
      first | exact SeqAt.RcAt.int_int b1 t1 b2 t2 | (rw [deq] <;> first | exact SeqAt.RcAt.int_int b1 t1 b2 t2 | nofun)
    | str b2 =>
      obtain ⟨t2, rfl⟩ := r2
      first | exact SeqAt.RcAt.int_str b1 t1 b2 t2 | (rw [deq] <;> first | exact SeqAt.RcAt.int_str b1 t1 b2 t2 | nofun)
    | @lst a2 xs2 ds2 q2 l2 i2 =>
      cases r2
      obtain ⟨its2, v2, p2, z2⟩ := I.list q2
      first | exact SeqAt.RcAt.int_list b1 t1 p2.isList hu0 | (rw [deq] <;> first | exact SeqAt.RcAt.int_list b1 t1 p2.isList hu0 | nofun)
    | @tup a2 xs2 ds2 q2 l2 i2 =>
      cases r2
      obtain ⟨its2, v2, p2, z2⟩ := I.tuple q2
      first | exact SeqAt.RcAt.int_tuple b1 t1 p2 hu0 | (rw [deq] <;> first | exact SeqAt.RcAt.int_tuple b1 t1 p2 hu0 | nofun)
  | str b1 =>
    obtain ⟨t1, rfl⟩ := r1
    have hu0 : A.units < cLine := Nat.lt_of_le_of_lt (Nat.le_add_right _ _) hu
    cases h2 with
    | non =>
      cases r2
      first | exact SeqAt.RcAt.str_none b1 t1 | (rw [deq] <;> first | exact SeqAt.RcAt.str_none b1 t1 | nofun)
    | bl b2 =>
      cases r2
      first | exact SeqAt.RcAt.str_bool b1 t1 b2 | (rw [deq] <;> first | exact SeqAt.RcAt.str_bool b1 t1 b2 | nofun)
    | int b2 =>
      obtain ⟨t2, rfl⟩ := r2
      first | exact SeqAt.RcAt.str_int b1 t1 b2 t2 | (rw [deq] <;> first | exact SeqAt.RcAt.str_int b1 t1 b2 t2 | nofun)
    | str b2 =>
      obtain ⟨t2, rfl⟩ := r2
      first | exact SeqAt.RcAt.str_str b1 t1 b2 t2 | (rw [deq] <;> first | exact SeqAt.RcAt.str_str b1 t1 b2 t2 | nofun)
    | @lst a2 xs2 ds2 q2 l2 i2 =>
      cases r2
      obtain ⟨its2, v2, p2, z2⟩ := I.list q2
      first | exact SeqAt.RcAt.str_list b1 t1 p2.isList hu0 | (rw [deq] <;> first | exact SeqAt.RcAt.str_list b1 t1 p2.isList hu0 | nofun)
    | @tup a2 xs2 ds2 q2 l2 i2 =>
      cases r2
      obtain ⟨its2, v2, p2, z2⟩ := I.tuple q2
      first | exact SeqAt.RcAt.str_tuple b1 t1 p2 hu0 | (rw [deq] <;> first | exact SeqAt.RcAt.str_tuple b1 t1 p2 hu0 | nofun)
  | @lst a1 xs1 ds1 q1 l1 i1 =>
    cases r1
    have hu0 : A.units < cLine := Nat.lt_of_le_of_lt (Nat.le_add_right _ _) hu
    obtain ⟨its1, v1, p1, z1⟩ := I.list q1
    have n1 : its1.toArray.size = ds1.length := by rw [List.size_toArray, ← v1.length, l1]
    have hu1 : ∀ (i : Nat) (d : D), ds1[i]? = some d → A.in1.units + d.dep < cLine := fun i d h => by
      have e1 := deps_le h
      have e2 : A.units + (deps ds1 + 1) < cLine := by simpa only [D.dep] using hu
      show A.units + 1 + d.dep < cLine
      omega
    cases h2 with
    | non =>
      cases r2
      first | exact SeqAt.RcAt.list_none p1.isList hu0 | (rw [deq] <;> first | exact SeqAt.RcAt.list_none p1.isList hu0 | nofun)
    | bl b2 =>
      cases r2
      first | exact SeqAt.RcAt.list_bool b2 p1.isList hu0 | (rw [deq] <;> first | exact SeqAt.RcAt.list_bool b2 p1.isList hu0 | nofun)
    | int b2 =>
      obtain ⟨t2, rfl⟩ := r2
      first | exact SeqAt.RcAt.list_int b2 t2 p1.isList hu0 | (rw [deq] <;> first | exact SeqAt.RcAt.list_int b2 t2 p1.isList hu0 | nofun)
    | str b2 =>
      obtain ⟨t2, rfl⟩ := r2
      first | exact SeqAt.RcAt.list_str b2 t2 p1.isList hu0 | (rw [deq] <;> first | exact SeqAt.RcAt.list_str b2 t2 p1.isList hu0 | nofun)
    | @lst a2 xs2 ds2 q2 l2 i2 =>
      cases r2
      obtain ⟨its2, v2, p2, z2⟩ := I.list q2
      have n2 : its2.toArray.size = ds2.length := by rw [List.size_toArray, ← v2.length, l2]
      have it := items_D (X := X) (A := A.in1) v1 v2 l1 l2 (fun i x d ha hb => eqAt_D I (i1 i x d ha hb) (hu1 i d hb)) i2
      rw [deq]
      by_cases hlen : its1.toArray.size = its2.toArray.size
      · rw [deqs_all (by omega), ← n1]
        exact SeqAt.RcAt.lists p1.isList p2.isList hlen hu0 it
      · rw [deqs_len (by omega)]
        exact SeqAt.RcAt.lists_lengths p1.isList p2.isList (by simpa using hlen) hu0
    | @tup a2 xs2 ds2 q2 l2 i2 =>
      cases r2
      obtain ⟨its2, v2, p2, z2⟩ := I.tuple q2
      first | exact SeqAt.RcAt.list_tuple p1.isList p2 hu0 | (rw [deq] <;> first | exact SeqAt.RcAt.list_tuple p1.isList p2 hu0 | nofun)
  | @tup a1 xs1 ds1 q1 l1 i1 =>
    cases r1
    have hu0 : A.units < cLine := Nat.lt_of_le_of_lt (Nat.le_add_right _ _) hu
    obtain ⟨its1, v1, p1, z1⟩ := I.tuple q1
    have n1 : its1.toArray.size = ds1.length := by rw [List.size_toArray, ← v1.length, l1]
    have hu1 : ∀ (i : Nat) (d : D), ds1[i]? = some d → A.in1.units + d.dep < cLine := fun i d h => by
      have e1 := deps_le h
      have e2 : A.units + (deps ds1 + 1) < cLine := by simpa only [D.dep] using hu
      show A.units + 1 + d.dep < cLine
      omega
    cases h2 with
    | non =>
      cases r2
      first | exact SeqAt.RcAt.tuple_none p1 hu0 | (rw [deq] <;> first | exact SeqAt.RcAt.tuple_none p1 hu0 | nofun)
    | bl b2 =>
      cases r2
      first | exact SeqAt.RcAt.tuple_bool b2 p1 hu0 | (rw [deq] <;> first | exact SeqAt.RcAt.tuple_bool b2 p1 hu0 | nofun)
    | int b2 =>
      obtain ⟨t2, rfl⟩ := r2
      first | exact SeqAt.RcAt.tuple_int b2 t2 p1 hu0 | (rw [deq] <;> first | exact SeqAt.RcAt.tuple_int b2 t2 p1 hu0 | nofun)
    | str b2 =>
      obtain ⟨t2, rfl⟩ := r2
      first | exact SeqAt.RcAt.tuple_str b2 t2 p1 hu0 | (rw [deq] <;> first | exact SeqAt.RcAt.tuple_str b2 t2 p1 hu0 | nofun)
    | @lst a2 xs2 ds2 q2 l2 i2 =>
      cases r2
      obtain ⟨its2, v2, p2, z2⟩ := I.list q2
      first | exact SeqAt.RcAt.tuple_list p1 p2.isList hu0 | (rw [deq] <;> first | exact SeqAt.RcAt.tuple_list p1 p2.isList hu0 | nofun)
    | @tup a2 xs2 ds2 q2 l2 i2 =>
      cases r2
      obtain ⟨its2, v2, p2, z2⟩ := I.tuple q2
      have n2 : its2.toArray.size = ds2.length := by rw [List.size_toArray, ← v2.length, l2]
      have it := items_D (X := X) (A := A.in1) v1 v2 l1 l2 (fun i x d ha hb => eqAt_D I (i1 i x d ha hb) (hu1 i d hb)) i2
      rw [deq]
      rw [← tup_D, ← n1, ← n2]
      exact SeqAt.RcAt.tuples p1 p2 hu0 it
theorem rcNeAt_D (I : Inv X pins σ H s) {A : Around} {x y : V} {d e : D} {u v : Value} (h : IsD X.K H x d) (h2 : IsD X.K H y e) (hu : A.units + d.dep < cLine) (r1 : RelV x u) (r2 : RelV y v) : SeqAt.RcNeAt A s u v (!deq d e) := by
  cases h with
  | non =>
    cases r1
    have hu0 : A.units < cLine := Nat.lt_of_le_of_lt (Nat.le_add_right _ _) hu
    cases h2 with
    | non =>
      cases r2
      first | exact SeqAt.RcNeAt.none_none | (rw [deq] <;> first | exact SeqAt.RcNeAt.none_none | nofun)
    | bl b2 =>
      cases r2
      first | exact SeqAt.RcNeAt.none_bool b2 | (rw [deq] <;> first | exact SeqAt.RcNeAt.none_bool b2 | nofun)
    | int b2 =>
      obtain ⟨t2, rfl⟩ := r2
      first | exact SeqAt.RcNeAt.none_int b2 t2 | (rw [deq] <;> first | exact SeqAt.RcNeAt.none_int b2 t2 | nofun)
    | str b2 =>
      obtain ⟨t2, rfl⟩ := r2
      first | exact SeqAt.RcNeAt.none_str b2 t2 | (rw [deq] <;> first | exact SeqAt.RcNeAt.none_str b2 t2 | nofun)
    | @lst a2 xs2 ds2 q2 l2 i2 =>
      cases r2
      obtain ⟨its2, v2, p2, z2⟩ := I.list q2
      first | exact SeqAt.RcNeAt.none_list p2.isList hu0 | (rw [deq] <;> first | exact SeqAt.RcNeAt.none_list p2.isList hu0 | nofun)
    | @tup a2 xs2 ds2 q2 l2 i2 =>
      cases r2
      obtain ⟨its2, v2, p2, z2⟩ := I.tuple q2
      first | exact SeqAt.RcNeAt.none_tuple p2 hu0 | (rw [deq] <;> first | exact SeqAt.RcNeAt.none_tuple p2 hu0 | nofun)
  | bl b1 =>
    cases r1
    have hu0 : A.units < cLine := Nat.lt_of_le_of_lt (Nat.le_add_right _ _) hu
    cases h2 with
    | non =>
      cases r2
      first | exact SeqAt.RcNeAt.bool_none b1 | (rw [deq] <;> first | exact SeqAt.RcNeAt.bool_none b1 | nofun)
    | bl b2 =>
      cases r2
      first | exact SeqAt.RcNeAt.bool_bool b1 b2 | (rw [deq] <;> first | exact SeqAt.RcNeAt.bool_bool b1 b2 | nofun)
    | int b2 =>
      obtain ⟨t2, rfl⟩ := r2
      first | exact SeqAt.RcNeAt.bool_int b1 b2 t2 | (rw [deq] <;> first | exact SeqAt.RcNeAt.bool_int b1 b2 t2 | nofun)
    | str b2 =>
      obtain ⟨t2, rfl⟩ := r2
      first | exact SeqAt.RcNeAt.bool_str b1 b2 t2 | (rw [deq] <;> first | exact SeqAt.RcNeAt.bool_str b1 b2 t2 | nofun)
    | @lst a2 xs2 ds2 q2 l2 i2 =>
      cases r2
      obtain ⟨its2, v2, p2, z2⟩ := I.list q2
      first | exact SeqAt.RcNeAt.bool_list b1 p2.isList hu0 | (rw [deq] <;> first | exact SeqAt.RcNeAt.bool_list b1 p2.isList hu0 | nofun)
    | @tup a2 xs2 ds2 q2 l2 i2 =>
      cases r2
      obtain ⟨its2, v2, p2, z2⟩ := I.tuple q2
      first | exact SeqAt.RcNeAt.bool_tuple b1 p2 hu0 | (rw [deq] <;> first | exact SeqAt.RcNeAt.bool_tuple b1 p2 hu0 | nofun)
  | int b1 =>
    obtain ⟨t1, rfl⟩ := r1
    have hu0 : A.units < cLine := Nat.lt_of_le_of_lt (Nat.le_add_right _ _) hu
    cases h2 with
    | non =>
      cases r2
      first | exact SeqAt.RcNeAt.int_none b1 t1 | (rw [deq] <;> first | exact SeqAt.RcNeAt.int_none b1 t1 | nofun)
    | bl b2 =>
      cases r2
      first | exact SeqAt.RcNeAt.int_bool b1 t1 b2 | (rw [deq] <;> first | exact SeqAt.RcNeAt.int_bool b1 t1 b2 | nofun)
    | int b2 =>
      obtain ⟨t2, rfl⟩ := r2
      first | exact SeqAt.RcNeAt.int_int b1 t1 b2 t2 | (rw [deq] <;> first | exact SeqAt.RcNeAt.int_int b1 t1 b2 t2 | nofun)
    | str b2 =>
      obtain ⟨t2, rfl⟩ := r2
      first | exact SeqAt.RcNeAt.int_str b1 t1 b2 t2 | (rw [deq] <;> first | exact SeqAt.RcNeAt.int_str b1 t1 b2 t2 | nofun)
    | @lst a2 xs2 ds2 q2 l2 i2 =>
      cases r2
      obtain ⟨its2, v2, p2, z2⟩ := I.list q2
      first | exact SeqAt.RcNeAt.int_list b1 t1 p2.isList hu0 | (rw [deq] <;> first | exact SeqAt.RcNeAt.int_list b1 t1 p2.isList hu0 | nofun)
    | @tup a2 xs2 ds2 q2 l2 i2 =>
      cases r2
      obtain ⟨its2, v2, p2, z2⟩ := I.tuple q2
      first | exact SeqAt.RcNeAt.int_tuple b1 t1 p2 hu0 | (rw [deq] <;> first | exact SeqAt.RcNeAt.int_tuple b1 t1 p2 hu0 | nofun)
  | str b1 =>
    obtain ⟨t1, rfl⟩ := r1
    have hu0 : A.units < cLine := Nat.lt_of_le_of_lt (Nat.le_add_right _ _) hu
    cases h2 with
    | non =>
      cases r2
      first | exact SeqAt.RcNeAt.str_none b1 t1 | (rw [deq] <;> first | exact SeqAt.RcNeAt.str_none b1 t1 | nofun)
    | bl b2 =>
      cases r2
      first | exact SeqAt.RcNeAt.str_bool b1 t1 b2 | (rw [deq] <;> first | exact SeqAt.RcNeAt.str_bool b1 t1 b2 | nofun)
    | int b2 =>
      obtain ⟨t2, rfl⟩ := r2
      first | exact SeqAt.RcNeAt.str_int b1 t1 b2 t2 | (rw [deq] <;> first | exact SeqAt.RcNeAt.str_int b1 t1 b2 t2 | nofun)
    | str b2 =>
      obtain ⟨t2, rfl⟩ := r2
      first | exact SeqAt.RcNeAt.str_str b1 t1 b2 t2 | (rw [deq] <;> first | exact SeqAt.RcNeAt.str_str b1 t1 b2 t2 | nofun)
    | @lst a2 xs2 ds2 q2 l2 i2 =>
      cases r2
      obtain ⟨its2, v2, p2, z2⟩ := I.list q2
      first | exact SeqAt.RcNeAt.str_list b1 t1 p2.isList hu0 | (rw [deq] <;> first | exact SeqAt.RcNeAt.str_list b1 t1 p2.isList hu0 | nofun)
    | @tup a2 xs2 ds2 q2 l2 i2 =>
      cases r2
      obtain ⟨its2, v2, p2, z2⟩ := I.tuple q2
      first | exact SeqAt.RcNeAt.str_tuple b1 t1 p2 hu0 | (rw [deq] <;> first | exact SeqAt.RcNeAt.str_tuple b1 t1 p2 hu0 | nofun)
  | @lst a1 xs1 ds1 q1 l1 i1 =>
    cases r1
    have hu0 : A.units < cLine := Nat.lt_of_le_of_lt (Nat.le_add_right _ _) hu
    obtain ⟨its1, v1, p1, z1⟩ := I.list q1
    have n1 : its1.toArray.size = ds1.length := by rw [List.size_toArray, ← v1.length, l1]
    have hu1 : ∀ (i : Nat) (d : D), ds1[i]? = some d → A.in1.units + d.dep < cLine := fun i d h => by
      have e1 := deps_le h
      have e2 : A.units + (deps ds1 + 1) < cLine := by simpa only [D.dep] using hu
      show A.units + 1 + d.dep < cLine
      omega
    cases h2 with
    | non =>
      cases r2
      first | exact SeqAt.RcNeAt.list_none p1.isList hu0 | (rw [deq] <;> first | exact SeqAt.RcNeAt.list_none p1.isList hu0 | nofun)
    | bl b2 =>
      cases r2
      first | exact SeqAt.RcNeAt.list_bool b2 p1.isList hu0 | (rw [deq] <;> first | exact SeqAt.RcNeAt.list_bool b2 p1.isList hu0 | nofun)
    | int b2 =>
      obtain ⟨t2, rfl⟩ := r2
      first | exact SeqAt.RcNeAt.list_int b2 t2 p1.isList hu0 | (rw [deq] <;> first | exact SeqAt.RcNeAt.list_int b2 t2 p1.isList hu0 | nofun)
    | str b2 =>
      obtain ⟨t2, rfl⟩ := r2
      first | exact SeqAt.RcNeAt.list_str b2 t2 p1.isList hu0 | (rw [deq] <;> first | exact SeqAt.RcNeAt.list_str b2 t2 p1.isList hu0 | nofun)
    | @lst a2 xs2 ds2 q2 l2 i2 =>
      cases r2
      obtain ⟨its2, v2, p2, z2⟩ := I.list q2
      have n2 : its2.toArray.size = ds2.length := by rw [List.size_toArray, ← v2.length, l2]
      have it := items_D (X := X) (A := A.in1) v1 v2 l1 l2 (fun i x d ha hb => eqAt_D I (i1 i x d ha hb) (hu1 i d hb)) i2
      rw [deq]
      by_cases hlen : its1.toArray.size = its2.toArray.size
      · rw [deqs_all (by omega), ← n1]
        exact SeqAt.RcNeAt.lists p1.isList p2.isList hlen hu0 it
      · rw [deqs_len (by omega)]
        exact SeqAt.RcNeAt.lists_lengths p1.isList p2.isList (by simpa using hlen) hu0
    | @tup a2 xs2 ds2 q2 l2 i2 =>
      cases r2
      obtain ⟨its2, v2, p2, z2⟩ := I.tuple q2
      first | exact SeqAt.RcNeAt.list_tuple p1.isList p2 hu0 | (rw [deq] <;> first | exact SeqAt.RcNeAt.list_tuple p1.isList p2 hu0 | nofun)
  | @tup a1 xs1 ds1 q1 l1 i1 =>
    cases r1
    have hu0 : A.units < cLine := Nat.lt_of_le_of_lt (Nat.le_add_right _ _) hu
    obtain ⟨its1, v1, p1, z1⟩ := I.tuple q1
    have n1 : its1.toArray.size = ds1.length := by rw [List.size_toArray, ← v1.length, l1]
    have hu1 : ∀ (i : Nat) (d : D), ds1[i]? = some d → A.in1.units + d.dep < cLine := fun i d h => by
      have e1 := deps_le h
      have e2 : A.units + (deps ds1 + 1) < cLine := by simpa only [D.dep] using hu
      show A.units + 1 + d.dep < cLine
      omega
    cases h2 with
    | non =>
      cases r2
      first | exact SeqAt.RcNeAt.tuple_none p1 hu0 | (rw [deq] <;> first | exact SeqAt.RcNeAt.tuple_none p1 hu0 | nofun)
    | bl b2 =>
      cases r2
      first | exact SeqAt.RcNeAt.tuple_bool b2 p1 hu0 | (rw [deq] <;> first | exact SeqAt.RcNeAt.tuple_bool b2 p1 hu0 | nofun)
    | int b2 =>
      obtain ⟨t2, rfl⟩ := r2
      first | exact SeqAt.RcNeAt.tuple_int b2 t2 p1 hu0 | (rw [deq] <;> first | exact SeqAt.RcNeAt.tuple_int b2 t2 p1 hu0 | nofun)
    | str b2 =>
      obtain ⟨t2, rfl⟩ := r2
      first | exact SeqAt.RcNeAt.tuple_str b2 t2 p1 hu0 | (rw [deq] <;> first | exact SeqAt.RcNeAt.tuple_str b2 t2 p1 hu0 | nofun)
    | @lst a2 xs2 ds2 q2 l2 i2 =>
      cases r2
      obtain ⟨its2, v2, p2, z2⟩ := I.list q2
      first | exact SeqAt.RcNeAt.tuple_list p1 p2.isList hu0 | (rw [deq] <;> first | exact SeqAt.RcNeAt.tuple_list p1 p2.isList hu0 | nofun)
    | @tup a2 xs2 ds2 q2 l2 i2 =>
      cases r2
      obtain ⟨its2, v2, p2, z2⟩ := I.tuple q2
      have n2 : its2.toArray.size = ds2.length := by rw [List.size_toArray, ← v2.length, l2]
      have it := items_D (X := X) (A := A.in1) v1 v2 l1 l2 (fun i x d ha hb => eqAt_D I (i1 i x d ha hb) (hu1 i d hb)) i2
      rw [deq]
      rw [← tup_D, ← n1, ← n2]
      exact SeqAt.RcNeAt.tuples p1 p2 hu0 it
def rEqD (K : PySem.W.Frag) (neg : Bool) : R2 := fun x y H Q => ∃ d e, IsD K H x d ∧ IsD K H y e ∧ d.dep ≤ 60 ∧ Q (.bl (if neg = true then !deq d e else deq d e)) H
theorem op_eqD (hu : X.A.units + 64 < cLine) : OpR X (compareOp .Eq) (rEqD X.K false) := by
  intro pins s σ H x y v u Q I rx ry h
  obtain ⟨d, e, h1, h2, hd, q⟩ := h
  exact rcAt_D I h1 h2 (by omega) rx ry _ _ _ _ (fin_bl I q rfl)
theorem op_neD (hu : X.A.units + 64 < cLine) : OpR X (compareOp .NotEq) (rEqD X.K true) := by
  intro pins s σ H x y v u Q I rx ry h
  obtain ⟨d, e, h1, h2, hd, q⟩ := h
  exact rcNeAt_D I h1 h2 (by omega) rx ry _ _ _ _ (fin_bl I q rfl)
def fD : V → D
  | .non => .non
  | .bl b => .bl b
  | .int i => .int i
  | .str x => .str x
  | _ => .non
theorem IsD.flat {K : PySem.W.Frag} {x : V} (h : flatV x = true) : IsD K H x (fD x) := by
  cases x with
  | non => exact .non
  | bl b => exact .bl b
  | int i => exact .int i
  | str z => exact .str z
  | _ => exact absurd (show false = true from h) Bool.false_ne_true
theorem IsD.flatL {K : PySem.W.Frag} {a : Addr} {xs : List V} (h : SqL K H a xs) (hf : ∀ x ∈ xs, flatV x = true) : IsD K H (.ref a) (.lst (xs.map fD)) := by
  refine .lst h (by simp) fun i x d h1 h2 => ?_
  rw [List.getElem?_map, h1] at h2
  cases h2
  exact .flat (hf x (List.mem_of_getElem? h1))
theorem IsD.flatT {K : PySem.W.Frag} {a : Addr} {xs : List V} (h : SqT K H a xs) (hf : ∀ x ∈ xs, flatV x = true) : IsD K H (.ref a) (.tup (xs.map fD)) := by
  refine .tup h (by simp) fun i x d h1 h2 => ?_
  rw [List.getElem?_map, h1] at h2
  cases h2
  exact .flat (hf x (List.mem_of_getElem? h1))
theorem dep_flat (x : V) : (fD x).dep = 0 := by cases x <;> rfl
theorem deps_flat (xs : List V) : deps (xs.map fD) = 0 := by
  induction xs with
  | nil => rfl
  | cons x xs ih => rw [List.map_cons, deps, dep_flat, ih]; rfl
end
end L2
namespace L2
open PySem PySem.Spec PyProof.Rows
structure Ends.Le (D D' : Ends) : Prop where
  nx : ∀ σ H, D.nx σ H → D'.nx σ H
  rt : ∀ v H, D.rt v H → D'.rt v H
  bk : ∀ σ H, D.bk σ H → D'.bk σ H
  ct : ∀ σ H, D.ct σ H → D'.ct σ H
theorem Ends.Le.refl (D : Ends) : D.Le D := ⟨fun _ _ h => h, fun _ _ h => h, fun _ _ h => h, fun _ _ h => h⟩
theorem Ends.Le.trans {D E F : Ends} (a : D.Le E) (b : E.Le F) : D.Le F := ⟨fun σ H h => b.nx σ H (a.nx σ H h), fun σ H h => b.rt σ H (a.rt σ H h), fun σ H h => b.bk σ H (a.bk σ H h), fun σ H h => b.ct σ H (a.ct σ H h)⟩
def bodyT (X : Cx) (sts : List Stmt) : TS := fun D σ H => ∃ t D', PSs X sts t ∧ t D' σ H ∧ D'.Le D
theorem pss_bodyT {X : Cx} {sts : List Stmt} : PSs X sts (bodyT X sts) := fun pins s σ H D I h => by
  obtain ⟨t, D', h1, h2, le⟩ := h
  refine thn (h1 pins s σ H D' I h2) fun f s' h => ?_
  cases f with
  | next => obtain ⟨a, b, c, d⟩ := h; exact ⟨a, b, c, le.nx _ _ d⟩
  | brk => obtain ⟨a, b, c, d⟩ := h; exact ⟨a, b, c, le.bk _ _ d⟩
  | cont => obtain ⟨a, b, c, d⟩ := h; exact ⟨a, b, c, le.ct _ _ d⟩
  | ret u => obtain ⟨v, a, b, c, r, d⟩ := h; exact ⟨v, a, b, c, r, le.rt _ _ d⟩
theorem bodyT.of {X : Cx} {sts : List Stmt} {D : Ends} {σ : St} {H : Hp} {t : TS} (h : PSs X sts t) (q : t D σ H) : bodyT X sts D σ H := ⟨t, D, h, q, .refl D⟩
theorem bodyT.mono {X : Cx} {sts : List Stmt} {D D' : Ends} {σ : St} {H : Hp} (h : bodyT X sts D σ H) (le : D.Le D') : bodyT X sts D' σ H := by
  obtain ⟨t, E, h1, h2, l⟩ := h
  exact ⟨t, E, h1, h2, l.trans le⟩
def testT (X : Cx) (e : Expr) : TT := fun σ H Q => ∃ t Q', PT X e t ∧ t σ H Q' ∧ ∀ b H1, Q' b H1 → Q b H1
theorem testT.of {X : Cx} {e : Expr} {σ : St} {H : Hp} {Q : Bool → Hp → Prop} {t : TT} (h : PT X e t) (q : t σ H Q) : testT X e σ H Q := ⟨t, Q, h, q, fun _ _ h => h⟩
def forW (J : It) (g : TG) (tb : TS) (D : Ends) (σ : St) (H : Hp) : Prop := ∃ W : Nat → Nat → St → Hp → Prop, (∃ m, W 0 m σ H) ∧ ∀ i m σ H, W i m σ H →
  (J.stop i H ∧ D.nx σ H) ∨ (J.go i H ∧ ∃ N : St → Hp → Prop, (∀ σ' H', N σ' H' → ∃ m', m' < m ∧ W (i + 1) m' σ' H') ∧ ∀ x H', J.yld i H x H' → g x σ H' fun σ2 H2 => tb { D with nx := N, ct := N, bk := D.nx } σ2 H2)
def tForW (wi : TI) (g : TG) (tb : TS) : TS := fun D σ H => wi σ H fun J H1 => forW J g tb D σ H1
theorem ps_forW {X : Cx} {tg iter : Expr} {body : List Stmt} {wi : TI} {g : TG} {tb : TS} {pos : Pos} (hp : PassesOwn (model X.prog X.w) X.A X.env X.xe) (hc : X.calm = true) (hi : PI X tg iter wi) (hg : PG X tg g) (hb : PSs X body tb)
    (hs : ∀ x, foldedSetIterable iter X.env x = pure x := by intro _; rfl) : PS X (.For tg iter body [] pos) (tForW wi g tb) := ps_for hp hc hi hg hb hs
section
variable {K : PySem.W.Frag} {a : Addr} {p : Nat} {xs : List V} {lo : Int} {n : Nat} {g : TG} {tb : TS} {D : Ends} {σ : St} {H : Hp}
theorem fw_list (xs : List V) (Pv : Nat → St → Hp → Prop) (h0 : Pv 0 σ H) (hl : ∀ i σ H, i ≤ xs.length → Pv i σ H → SqL K H a xs)
    (hs : ∀ i x σ H, xs[i]? = some x → Pv i σ H → g x σ H fun σ2 H2 => tb { D with nx := Pv (i + 1), ct := Pv (i + 1), bk := D.nx } σ2 H2) (hd : ∀ σ H, Pv xs.length σ H → D.nx σ H) : forW (Itl K a) g tb D σ H := for_list Pv h0 hl hs hd
theorem fw_tup (xs : List V) (Pv : Nat → St → Hp → Prop) (h0 : Pv 0 σ H) (hl : ∀ i σ H, i ≤ xs.length → Pv i σ H → SqT K H a xs)
    (hs : ∀ i x σ H, xs[i]? = some x → Pv i σ H → g x σ H fun σ2 H2 => tb { D with nx := Pv (i + 1), ct := Pv (i + 1), bk := D.nx } σ2 H2) (hd : ∀ σ H, Pv xs.length σ H → D.nx σ H) : forW (Itt K a) g tb D σ H := for_tup Pv h0 hl hs hd
theorem fw_range (Pv : Nat → St → Hp → Prop) (h0 : Pv 0 σ H) (hs : ∀ i σ H, i < n → Pv i σ H → g (.int (lo + i)) σ H fun σ2 H2 => tb { D with nx := Pv (i + 1), ct := Pv (i + 1), bk := D.nx } σ2 H2) (hd : ∀ σ H, Pv n σ H → D.nx σ H) : forW (Itr lo n) g tb D σ H := for_range Pv h0 hs hd
theorem fw_enum (xs : List V) (Pv : Nat → St → Hp → Prop) (h0 : Pv 0 σ H) (hl : ∀ i σ H, i ≤ xs.length → Pv i σ H → SqL K H a xs)
    (hs : ∀ i x t σ H, xs[i]? = some x → Pv i σ H → H t = none → g (.ref t) σ (upd H t (.tup [.int ((p + i : Nat) : Int), x])) fun σ2 H2 => tb { D with nx := Pv (i + 1), ct := Pv (i + 1), bk := D.nx } σ2 H2) (hd : ∀ σ H, Pv xs.length σ H → D.nx σ H) : forW (Ite K a p) g tb D σ H := for_enum Pv h0 hl hs hd
end
def whileW (c : TT) (tb : TS) (D : Ends) (σ : St) (H : Hp) : Prop := tWhile c tb D σ H
def tWhileW (c : TT) (tb : TS) : TS := fun D σ H => whileW c tb D σ H
def stT (X : Cx) (st : Stmt) : TS := fun D σ H => ∃ t D', PS X st t ∧ t D' σ H ∧ D'.Le D
theorem ps_stT {X : Cx} {st : Stmt} : PS X st (stT X st) := fun pins s σ H D I h => by
  obtain ⟨t, D', h1, h2, le⟩ := h
  refine thn (h1 pins s σ H D' I h2) fun f s' h => ?_
  cases f with
  | next => obtain ⟨a, b, c, d⟩ := h; exact ⟨a, b, c, le.nx _ _ d⟩
  | brk => obtain ⟨a, b, c, d⟩ := h; exact ⟨a, b, c, le.bk _ _ d⟩
  | cont => obtain ⟨a, b, c, d⟩ := h; exact ⟨a, b, c, le.ct _ _ d⟩
  | ret u => obtain ⟨v, a, b, c, r, d⟩ := h; exact ⟨v, a, b, c, r, le.rt _ _ d⟩
theorem stT.of {X : Cx} {st : Stmt} {D : Ends} {σ : St} {H : Hp} {t : TS} (h : PS X st t) (q : t D σ H) : stT X st D σ H := ⟨t, D, h, q, .refl D⟩
theorem joinW {X : Cx} {st : Stmt} {D : Ends} {σ : St} {H : Hp} (M : St → Hp → Prop) (h : stT X st { D with nx := M } σ H) (q : ∀ σ H, M σ H → D.nx σ H) : stT X st D σ H := by
  obtain ⟨t, D', h1, h2, le⟩ := h
  exact ⟨t, D', h1, h2, fun σ H z => q σ H (le.nx σ H z), le.rt, le.bk, le.ct⟩
end L2
namespace L2
open PySem PySem.Spec PyProof.Rows
structure ClsFn (K : PySem.W.Frag) (C : Addr) (m : Str) (f : Addr) : Prop where
  sp : PySem.W.specialIn K (.ref C) "__getattribute__" = some (some (.builtin "type.__getattribute__"))
  rd : PySem.W.readsIn K C (.type "type") = true
  fd : PySem.W.findCls K (.ref C) (.type "type") m = some (.val (.ref f))
  kp : PySem.W.keepIn K (.ref f) = true
structure Tyc (K : PySem.W.Frag) (C : Addr) : Prop where
  ha : PySem.W.findIn K (.ref C) "__class__" = some (some (.builtin "object.__class__"))
  hn : PySem.W.specialIn K (.builtin "object.__class__") "__get__" = some (some (.builtin "getset_descriptor.__get__"))
  htk : PySem.W.takesIn K (.builtin "object.__class__") = some true
  hm : PySem.W.mroIn K C (.type "object") = some true
theorem Tyc.ty {K : PySem.W.Frag} {C a dx : Addr} {H : Hp} {fs : List (Str × V)} (t : Tyc K C) (c : Cls K C) (e : H a = some (.ins C dx fs)) : TyOf K H (.ref a) (.ref C) := .ins e c t.ha t.hn t.htk t.hm
def tMethV (L : List (Addr × Sp)) (m : Str) (dvs : List V) (E : XK) (ta : TE) (t : TA) : TE := fun σ H Q => ta σ H fun x H1 => ∃ a C dx fs, x = .ref a ∧ H1 a = some (.ins C dx fs) ∧ fs.lookup m = none ∧ ∃ sp, (C, sp) ∈ L ∧
  t σ H1 fun vs H2 => sp (x :: (vs ++ dvs)) H2 Q E
section
variable {X : Cx} {CX : CXT} {k : Nat} {f C : Addr} {fd : FuncData} {ps : List Str} {sp : Sp} {dvs : List V} {ds : List Value} {E : XK} {x m : Str} {p pos apos : Pos} {e o : Expr} {es : List Expr} {ta : TE} {t : TA} {L : List (Addr × Sp)}
end
theorem gN {i : Nat} {v : V} {σ : St} {H : Hp} {Q : St → Hp → Prop} (h : Q (σ.set i (some v)) H) : gName i v σ H Q := h
section
variable {K : PySem.W.Frag} {a D : Addr} {fr : List Nat} {tt : TT} {te : TE} {σ : St} {Q : Hp → Prop} {H : Hp}
def lcS (D : Addr) (Pv : Nat → List V → Hp → Prop) (n m i : Nat) : VK := fun y H4 => ∃ ys, H4 D = some (.lst ys) ∧ ys.length < sizeLine ∧ ∃ m', m' < m ∧ (m' + (i + 1) = n ∧ ∃ zs, Pv (i + 1) zs (upd H4 D (.lst (ys ++ [y]))))
def lcK (Pv : Nat → List V → Hp → Prop) (n m i : Nat) (H3 : Hp) : Prop := ∃ m', m' < m ∧ (m' + (i + 1) = n ∧ ∃ zs, Pv (i + 1) zs H3)
theorem lcS.mk {Pv : Nat → List V → Hp → Prop} {n m i : Nat} {y : V} {H4 : Hp} {ys : List V} (hm : m + 1 + i = n) (h : H4 D = some (.lst ys)) (hz : ys.length ≤ 1000) (p : Pv (i + 1) (ys ++ [y]) (upd H4 D (.lst (ys ++ [y])))) : lcS D Pv n (m + 1) i y H4 :=
  ⟨ys, h, small1000 hz, m, by omega, by omega, _, p⟩
theorem lcK.mk {Pv : Nat → List V → Hp → Prop} {n m i : Nat} {H3 : Hp} {ys : List V} (hm : m + 1 + i = n) (p : Pv (i + 1) ys H3) : lcK Pv n (m + 1) i H3 := ⟨m, by omega, by omega, _, p⟩
end
end L2
namespace L2
open PySem PySem.Spec PyProof.Rows
inductive TyS (K : PySem.W.Frag) (H : Hp) : V → Value → Prop where
  | ty {x : V} {t : Value} (h : TyOf K H x t) : TyS K H x t
  | lst {a : Addr} {xs : List V} (h : SqL K H a xs) : TyS K H (.ref a) (.type "list")
  | tup {a : Addr} {xs : List V} (h : SqT K H a xs) : TyS K H (.ref a) (.type "tuple")
end L2
namespace L2
open PySem PySem.Spec PyProof.Rows
section
variable {κ : Type} [DecidableEq κ]
def valV (kvs : List (κ × V)) (k : κ) : Option V := (kvs.find? fun kv => decide (kv.1 = k)).map (·.2)
def putK (kvs : List (κ × V)) (k : κ) (v : V) : List (κ × V) :=
  if (kvs.any fun kv => decide (kv.1 = k)) = true then kvs.map (fun kv => if kv.1 = k then (kv.1, v) else kv) else kvs ++ [(k, v)]
def dropK (kvs : List (κ × V)) (k : κ) : List (κ × V) := kvs.filter fun kv => decide (kv.1 ≠ k)
theorem valV_pos {p : κ × V} {r : List (κ × V)} {k : κ} (e : p.1 = k) : valV (p :: r) k = some p.2 := by simp [valV, List.find?_cons, e]
theorem valV_neg {p : κ × V} {r : List (κ × V)} {k : κ} (e : ¬ p.1 = k) : valV (p :: r) k = valV r k := by simp [valV, List.find?_cons, e]
theorem valV_any (k : κ) : ∀ kvs : List (κ × V), (kvs.any fun kv => decide (kv.1 = k)) = (valV kvs k).isSome
  | [] => rfl
  | p :: r => by
    rw [List.any_cons]
    by_cases e : p.1 = k
    · simp only [valV_pos e, decide_eq_true e, Bool.true_or, Option.isSome_some]
    · rw [valV_neg e, decide_eq_false e, Bool.false_or]; exact valV_any k r
theorem RelO.isSome_eq {o : Option V} {u : Option Value} (r : RelO o u) : o.isSome = u.isSome := by
  cases o with
  | none => cases u with
    | none => rfl
    | some _ => exact (show False from r).elim
  | some _ => cases u with
    | none => exact (show False from r).elim
    | some _ => rfl
theorem RelO.getD {o : Option V} {u : Option Value} {d : V} {d' : Value} (r : RelO o u) (rd : RelV d d') : RelV (o.getD d) (u.getD d') := by
  cases o with
  | none => cases u with
    | none => exact rd
    | some _ => exact (show False from r).elim
  | some _ => cases u with
    | none => exact (show False from r).elim
    | some _ => exact r
theorem KV.val {kvs : List (κ × V)} {vs : List (κ × Value)} (r : KV kvs vs) (k : κ) : RelO (valV kvs k) (valueAt vs k) := by
  unfold KV at r
  induction r with
  | nil => exact True.intro
  | @cons p q ps qs h t ih =>
    obtain ⟨h1, h2⟩ := h
    by_cases e : p.1 = k
    · have e' : q.1 = k := h1.symm.trans e
      have b : valueAt (q :: qs) k = some q.2 := by simp [valueAt, List.find?_cons, e']
      rw [valV_pos e, b]; exact h2
    · have e' : ¬ q.1 = k := fun z => e (h1.trans z)
      have b : valueAt (q :: qs) k = valueAt qs k := by simp [valueAt, List.find?_cons, e']
      rw [valV_neg e, b]; exact ih
theorem KV.any {kvs : List (κ × V)} {vs : List (κ × Value)} (r : KV kvs vs) (k : κ) : (kvs.any fun kv => decide (kv.1 = k)) = vs.any fun kv => decide (kv.1 = k) := by
  unfold KV at r
  induction r with
  | nil => rfl
  | cons h t ih => rw [List.any_cons, List.any_cons, ih, h.1]
theorem KV.repl {kvs : List (κ × V)} {vs : List (κ × Value)} (r : KV kvs vs) (k : κ) {y : V} {u : Value} (ry : RelV y u) :
    KV (kvs.map fun kv => if kv.1 = k then (kv.1, y) else kv) (vs.map fun kv => if kv.1 = k then (kv.1, u) else kv) := by
  unfold KV at r ⊢
  induction r with
  | nil => exact .nil
  | @cons p q ps qs h t ih =>
    rw [List.map_cons, List.map_cons]
    refine .cons ?_ ih
    obtain ⟨h1, h2⟩ := h
    by_cases e : p.1 = k
    · rw [if_pos e, if_pos (h1.symm.trans e)]; exact ⟨h1, ry⟩
    · rw [if_neg e, if_neg (fun z => e (h1.trans z))]; exact ⟨h1, h2⟩
theorem KV.put {kvs : List (κ × V)} {vs : List (κ × Value)} (r : KV kvs vs) (k : κ) {y : V} {u : Value} (ry : RelV y u) : KV (putK kvs k y) (stored vs k u) := by
  unfold putK stored
  rw [r.any k]
  by_cases e : (vs.any fun kv => decide (kv.1 = k)) = true
  · rw [if_pos e, if_pos e]; exact r.repl k ry
  · rw [if_neg e, if_neg e]; exact Paired.snoc r ⟨rfl, ry⟩
theorem KV.drop {kvs : List (κ × V)} {vs : List (κ × Value)} (r : KV kvs vs) (k : κ) : KV (dropK kvs k) (without vs k) := by
  unfold KV at r ⊢
  unfold dropK without
  induction r with
  | nil => exact .nil
  | @cons p q ps qs h t ih =>
    obtain ⟨h1, h2⟩ := h
    rw [List.filter_cons, List.filter_cons]
    by_cases e : p.1 = k
    · have a : ¬ decide (p.1 ≠ k) = true := by simp [e]
      have b : ¬ decide (q.1 ≠ k) = true := by simp [h1.symm.trans e]
      rw [if_neg a, if_neg b]; exact ih
    · have e' : ¬ q.1 = k := fun z => e (h1.trans z)
      have a : decide (p.1 ≠ k) = true := by simp [e]
      have b : decide (q.1 ≠ k) = true := by simp [e']
      rw [if_pos a, if_pos b]; exact .cons ⟨h1, h2⟩ ih
theorem KV.length {kvs : List (κ × V)} {vs : List (κ × Value)} (r : KV kvs vs) : kvs.length = vs.length := Paired.length r
end
abbrev KT (H : Hp) : List (List Key × V) → List (List Key × Addr × Value) → Prop := Paired fun p q => p.1 = q.1 ∧ H q.2.1 = some (.tup (p.1.map kV)) ∧ RelV p.2 q.2.2
theorem KT.val {H : Hp} {kvs : List (List Key × V)} {xs : List (List Key × Addr × Value)} (r : KT H kvs xs) (k : List Key) : RelO (valV kvs k) ((atKey xs k).map (·.2)) := by
  induction r with
  | nil => exact True.intro
  | @cons p q ps qs h t ih =>
    obtain ⟨h1, _, h2⟩ := h
    by_cases e : p.1 = k
    · have e' : q.1 = k := h1.symm.trans e
      have b : atKey (q :: qs) k = some q.2 := by simp [atKey, List.find?_cons, e']
      rw [valV_pos e, b]; exact h2
    · have e' : ¬ q.1 = k := fun z => e (h1.trans z)
      have b : atKey (q :: qs) k = atKey qs k := by simp [atKey, List.find?_cons, e']
      rw [valV_neg e, b]; exact ih
theorem KT.repl {H : Hp} {kvs : List (List Key × V)} {xs : List (List Key × Addr × Value)} (r : KT H kvs xs) (k : List Key) {y : V} {u : Value} (ry : RelV y u) :
    KT H (kvs.map fun kv => if kv.1 = k then (kv.1, y) else kv) (xs.map (putAt k u)) := by
  induction r with
  | nil => exact .nil
  | @cons p q ps qs h t ih =>
    rw [List.map_cons, List.map_cons]
    refine .cons ?_ ih
    obtain ⟨h1, h2, h3⟩ := h
    unfold putAt
    by_cases e : p.1 = k
    · rw [if_pos e, if_pos (h1.symm.trans e)]; exact ⟨h1, h2, ry⟩
    · rw [if_neg e, if_neg (fun z => e (h1.trans z))]; exact ⟨h1, h2, h3⟩
theorem KT.put {H : Hp} {kvs : List (List Key × V)} {xs : List (List Key × Addr × Value)} (r : KT H kvs xs) (k : List Key) {b : Addr} {y : V} {u : Value} (hb : H b = some (.tup (k.map kV))) (ry : RelV y u) :
    KT H (putK kvs k y) (storedH xs k b u) := by
  have e : (kvs.any fun kv => decide (kv.1 = k)) = (atKey xs k).isSome := by
    rw [valV_any, (r.val k).isSome_eq, Option.isSome_map]
  unfold putK storedH
  rw [e]
  by_cases q : (atKey xs k).isSome = true
  · rw [if_pos q, if_pos q]; exact r.repl k ry
  · rw [if_neg q, if_neg q]; exact Paired.snoc r ⟨rfl, hb, ry⟩
theorem KT.keeps {H H' : Hp} {kvs : List (List Key × V)} {xs : List (List Key × Addr × Value)} (r : KT H kvs xs) (ht : ∀ b ys, H b = some (.tup ys) → H' b = some (.tup ys)) : KT H' kvs xs :=
  Paired.mapP r fun _ _ z => ⟨z.1, ht _ _ z.2.1, z.2.2⟩
section
variable {P : Program} {w : World} {H : Hp} {h : Heap} {a : Addr}
end
def DGet (H : Hp) (a : Addr) (y : V) (r : Option V) : Prop :=
  (∃ kvs k, Rd H a (.dK kvs) ∧ y = kV k ∧ r = valV kvs k) ∨ ∃ kvs k b, Rd H a (.dT kvs) ∧ y = .ref b ∧ H b = some (.tup (k.map kV)) ∧ r = valV kvs k
def DPut (H : Hp) (a : Addr) (y v : V) (H' : Hp) : Prop :=
  (∃ kvs k, H a = some (.dK kvs) ∧ y = kV k ∧ kvs.length < sizeLine ∧ H' = upd H a (.dK (putK kvs k v))) ∨
  ∃ kvs k b, H a = some (.dT kvs) ∧ y = .ref b ∧ H b = some (.tup (k.map kV)) ∧ kvs.length < sizeLine ∧ H' = upd H a (.dT (putK kvs k v))
theorem DGet.k {H : Hp} {a : Addr} {kvs : List (Key × V)} {k : Key} (e : H a = some (.dK kvs)) : DGet H a (kV k) (valV kvs k) := .inl ⟨kvs, k, .inl e, rfl, rfl⟩
theorem DGet.t {H : Hp} {a b : Addr} {kvs : List (List Key × V)} {k : List Key} (e : H a = some (.dT kvs)) (eb : H b = some (.tup (k.map kV))) : DGet H a (.ref b) (valV kvs k) := .inr ⟨kvs, k, b, .inl e, rfl, eb, rfl⟩
theorem DPut.k {H : Hp} {a : Addr} {kvs : List (Key × V)} {k : Key} {v : V} (e : H a = some (.dK kvs)) (hl : kvs.length < sizeLine) : DPut H a (kV k) v (upd H a (.dK (putK kvs k v))) := .inl ⟨kvs, k, e, rfl, hl, rfl⟩
theorem DPut.t {H : Hp} {a b : Addr} {kvs : List (List Key × V)} {k : List Key} {v : V} (e : H a = some (.dT kvs)) (eb : H b = some (.tup (k.map kV))) (hl : kvs.length < sizeLine) :
    DPut H a (.ref b) v (upd H a (.dT (putK kvs k v))) := .inr ⟨kvs, k, b, e, rfl, eb, hl, rfl⟩
section
variable {X : Cx} {pins : List (Addr × Obj)} {σ : St} {H : Hp} {s : Shared} {a : Addr} {y v : V} {u r : Value} {o : Option V} {A : Around} {E : Value → Shared → Prop}
end
section
variable {X : Cx} {pins : List (Addr × Obj)} {σ : St} {H : Hp} {s : Shared} {a : Addr} {kvs : List (Key × V)} {k : Key} {u : Value} {A : Around} {E : Value → Shared → Prop}
end
def tDGet (td ty : TE) : TE := fun σ H Q => td σ H fun x H1 => ty σ H1 fun y H2 => ∃ a v, x = .ref a ∧ DGet H2 a y (some v) ∧ Q v H2
def tDIn (ty td : TE) : TE := fun σ H Q => ty σ H fun y H1 => td σ H1 fun x H2 => ∃ a o, x = .ref a ∧ DGet H2 a y o ∧ Q (.bl o.isSome) H2
def tDNotIn (ty td : TE) : TE := fun σ H Q => ty σ H fun y H1 => td σ H1 fun x H2 => ∃ a o, x = .ref a ∧ DGet H2 a y o ∧ Q (.bl (!o.isSome)) H2
def sDPut (td ty tv : TE) : TS := fun D σ H => tv σ H fun v H1 => td σ H1 fun x H2 => ty σ H2 fun y H3 => ∃ a H4, x = .ref a ∧ DPut H3 a y v H4 ∧ D.nx σ H4
section
variable {X : Cx} {o i e value : Expr} {pos pos' tpos : Pos} {td ty tv : TE}
end
def tDNewK : TE := fun _ H Q => ∀ p, H p = none → Q (.ref p) (upd H p (.dK []))
section
variable {X : Cx} {pos : Pos}
end
def tPairs : List (TE × TE) → St → Hp → (List (V × V) → Hp → Prop) → Prop
  | [], _, H, Q => Q [] H
  | (tk, tv) :: r, σ, H, Q => tk σ H fun x H1 => tv σ H1 fun y H2 => tPairs r σ H2 fun ps H3 => Q ((x, y) :: ps) H3
def mergeK (kvs more : List (Key × V)) : List (Key × V) := more.foldl (fun acc kv => putK acc kv.1 kv.2) kvs
def tDisp (trs : List (TE × TE)) : TE := fun σ H Q => ∀ p, H p = none → tPairs trs σ (upd H p (.dK [])) fun ps H2 => H2 p = some (.dK []) ∧ ∃ kvs : List (Key × V), ps = kvs.map (fun kv => (kV kv.1, kv.2)) ∧ kvs.length ≤ 15 ∧ Q (.ref p) (upd H2 p (.dK (mergeK [] kvs)))
structure M1 (X : Cx) (o : Expr) (m : Str) (apos : Pos) (e : Expr) (cpos : Pos) : Prop where
  base : attributeBase o m X.env (eval o X.env) = eval o X.env
  few : ((backTo cpos (starEach [e] X.env)).all (fun x => !x.1) && (backToKw cpos (keywordEach [] X.env)).all (fun x => x.1.isSome)
    && decide (([e] : List Expr).length + ([] : List Keyword).length + (if ([] : List Keyword).isEmpty then 0 else 1) < 30)) = true
  line : (apos.endLine == cpos.line) = true
  trees : backTo cpos (starEach [e] X.env) = [(false, eval e X.env)]
structure M2 (X : Cx) (o : Expr) (m : Str) (apos : Pos) (e f : Expr) (cpos : Pos) : Prop where
  base : attributeBase o m X.env (eval o X.env) = eval o X.env
  few : ((backTo cpos (starEach [e, f] X.env)).all (fun x => !x.1) && (backToKw cpos (keywordEach [] X.env)).all (fun x => x.1.isSome)
    && decide (([e, f] : List Expr).length + ([] : List Keyword).length + (if ([] : List Keyword).isEmpty then 0 else 1) < 30)) = true
  line : (apos.endLine == cpos.line) = true
  trees : backTo cpos (starEach [e, f] X.env) = [(false, eval e X.env), (false, eval f X.env)]
def IsDic (H : Hp) (a : Addr) : Prop := (∃ kvs, Rd H a (.dK kvs)) ∨ ∃ kvs, Rd H a (.dT kvs)
section
variable {X : Cx} {pins : List (Addr × Obj)} {σ : St} {H : Hp} {s : Shared} {a : Addr} {y d : V} {u r : Value} {o : Option V} {A : Around} {E : Value → Shared → Prop}
end
def tDGet1 (td ty : TE) : TE := fun σ H Q => td σ H fun x H1 => ∃ a, x = .ref a ∧ IsDic H1 a ∧ ty σ H1 fun y H2 => ∃ o, DGet H2 a y o ∧ Q (o.getD .non) H2
def tDGet2 (td ty tx : TE) : TE := fun σ H Q => td σ H fun x H1 => ∃ a, x = .ref a ∧ IsDic H1 a ∧ ty σ H1 fun y H2 => tx σ H2 fun z H3 => ∃ o, DGet H3 a y o ∧ Q (o.getD z) H3
def tDPop1 (td ty : TE) : TE := fun σ H Q => td σ H fun x H1 => ∃ a, x = .ref a ∧ IsDic H1 a ∧ ty σ H1 fun y H2 => ∃ kvs k v, H2 a = some (.dK kvs) ∧ y = kV k ∧ valV kvs k = some v ∧ Q v (upd H2 a (.dK (dropK kvs k)))
def tDPop2 (td ty tx : TE) : TE := fun σ H Q => td σ H fun x H1 => ∃ a, x = .ref a ∧ IsDic H1 a ∧ ty σ H1 fun y H2 => tx σ H2 fun z H3 => ∃ kvs k, H3 a = some (.dK kvs) ∧ y = kV k ∧
  (∀ v, valV kvs k = some v → Q v (upd H3 a (.dK (dropK kvs k)))) ∧ (valV kvs k = none → Q z H3)
section
variable {X : Cx} {o e f : Expr} {apos cpos : Pos} {td ty tx : TE}
end
section
variable {X : Cx} {pins : List (Addr × Obj)} {σ : St} {H : Hp} {s : Shared} {a : Addr} {kvs : List (Key × V)} {A : Around} {E : Value → Shared → Prop}
end
section
variable {X : Cx} {pins : List (Addr × Obj)} {σ : St} {H : Hp} {s : Shared} {a : Addr} {y : V} {u : Value} {A : Around} {E : Value → Shared → Prop}
end
end L2
namespace L2
open PySem PySem.Spec PyProof.Rows
section
variable {X : Cx}
end
section
variable {κ : Type} [DecidableEq κ]
end
end L2
namespace L2
open PySem PySem.Spec PyProof.Rows
theorem bt_any : bootBuiltins "any" = some (.builtin "any") := by decide +kernel
theorem bt_all : bootBuiltins "all" = some (.builtin "all") := by decide +kernel
theorem KV.get : ∀ {kvs : List (Key × V)} {vs : List (Key × Value)} {i : Nat} {p : Key × V} {q : Key × Value}, KV kvs vs → kvs[i]? = some p → vs[i]? = some q → p.1 = q.1
  | _, _, _, _, _, .nil, h, _ => by simp at h
  | _, _, 0, _, _, .cons r _, h, h' => by
    simp at h h'
    subst h h'
    exact r.1
  | _, _, i + 1, _, _, .cons _ t, h, h' => KV.get (i := i) t (by simpa using h) (by simpa using h')
section
variable {X : Cx}
end
section
variable {X : Cx} {pins : List (Addr × Obj)} {σ : St} {H : Hp} {s : Shared} {a : Addr} {kvs : List (Key × V)} {o : Obj}
def Thaw (H₀ : Hp) (a : Addr) (kvs : List (Key × V)) (H H' : Hp) : Prop := (∀ o u, H₀ a ≠ some (.frz o u)) ∧ (∃ o, H a = some (.frz o (.dK kvs))) ∧ H' = upd H a (.dK kvs)
end
def Itd (a : Addr) (o : Obj) (kvs : List (Key × V)) : It :=
  ⟨fun i H => i < kvs.length ∧ H a = some (.frz o (.dK kvs)), fun i H x H' => H' = H ∧ ∃ kv, kvs[i]? = some kv ∧ x = kV kv.1, fun i H => kvs.length ≤ i ∧ H a = some (.frz o (.dK kvs))⟩
def iDict (tl : TE) : TI := fun σ H R => tl σ H fun x H1 => ∃ a kvs, x = .ref a ∧ H1 a = some (.dK kvs) ∧ ∀ o, R (Itd a o kvs) (upd H1 a (.frz o (.dK kvs)))
def thawE (H₀ : Hp) (D : Ends) : Ends := { nx := fun σ H => D.nx σ H ∨ ∃ a kvs H', Thaw H₀ a kvs H H' ∧ D.nx σ H', rt := fun v H => D.rt v H ∨ ∃ a kvs H', Thaw H₀ a kvs H H' ∧ D.rt v H', bk := D.bk, ct := D.ct }
def tThaw (H₀ : Hp) (t : TS) : TS := fun D σ H => t (thawE H₀ D) σ H
end L2
namespace L2
open PySem PySem.Spec PyProof.Rows
section
variable {prog : Program} {w : World} {A : Around} {E : Value → Shared → Prop} {s : Shared}
end
section
variable {X : Cx}
end
section
variable {X : Cx}
end
end L2
namespace L2
open PySem PySem.Spec PyProof.Rows
section
variable {X : Cx}
end
end L2
namespace L2
open PySem PySem.Spec PyProof.Rows
def thawV (H₀ : Hp) (Q : VK) : VK := fun v H => Q v H ∨ ∃ a kvs H', Thaw H₀ a kvs H H' ∧ Q v H'
def tThawV (H₀ : Hp) (t : TE) : TE := fun σ H Q => t σ H (thawV H₀ Q)
section
variable {a D : Addr} {o : Obj} {kvs : List (Key × V)} {fr : List Nat} {tt : TT} {te : TE} {σ : St} {H : Hp} {Q : Hp → Prop}
end
end L2
namespace L2
open PySem PySem.Spec PyProof.Rows
section
variable {X : Cx}
end
end L2
namespace L2
open PySem PySem.Spec PyProof.Rows
section
variable {X : Cx}
end
end L2
namespace L2
open PySem PySem.Spec PyProof.Rows
theorem FnOk.no {P : Program} {w : World} {K : PySem.W.Frag} {mg : Str → Option Value} {base : Heap} {CX : CXT} {k : Nat} {f : Addr} {fd : FuncData} {ps : List Str} : FnOk P w K mg base CX k f fd ps (fun _ _ _ _ => False) :=
  ⟨fun _ _ _ _ h => h.elim, fun _ _ _ _ _ _ _ _ _ _ => by
    intros
    exact False.elim (by assumption)⟩
def tyD : D → String
  | .non => "NoneType"
  | .bl _ => "bool"
  | .int _ => "int"
  | .str _ => "str"
  | .lst _ => "list"
  | .tup _ => "tuple"
theorem IsD.ty {K : PySem.W.Frag} {H : Hp} {x : V} {d : D} (h : IsD K H x d) : TyS K H x (.type (tyD d)) := by
  cases h with
  | non => exact .ty .non
  | bl b => exact .ty (.bl b)
  | int i => exact .ty (.int i)
  | str x => exact .ty (.str x)
  | lst h _ _ => exact .lst h
  | tup h _ _ => exact .tup h
end L2
namespace L2
open PySem PySem.Spec PyProof.Rows
open AutoSeq1 (wpAny_loadPart')
section
variable {X : Cx}
end
section
variable {prog : Program} {w : World} {A : Around} {E : Value → Shared → Prop} {s : Shared}
end
section
variable {X : Cx}
end
section
variable {prog : Program} {w : World} {A : Around} {E : Value → Shared → Prop} {s : Shared}
end
section
variable {X : Cx}
def iEnum0 (K : PySem.W.Frag) (tl : TE) : TI := fun σ H R => tl σ H fun x H1 => ∃ a : Addr, x = .ref a ∧ (∃ xs, SqL K H1 a xs) ∧ R (Ite K a 0) H1
end
end L2
namespace L2
open PySem PySem.Spec PyProof.Rows
def lcSlots2 (fr : List Nat) (σ : St) (v v2 : Option V) : St := v :: v2 :: fr.map fun j => (σ[j]?).join
structure LcOk2 (X : Cx) (x x2 : Str) (ns : List Str) (fr : List Nat) (scope : Scope) (cl : List (Str × Addr)) : Prop where
  clos : closureFor scope X.env = pure cl
  nocell : ∀ y ∈ scope.names, y.2 ≠ .cell
  kind : scope.kind = .function
  own : ∀ y ∈ scope.names, y.2 = .local → scope.names.lookup y.1 = some .local
  var : scope.names.lookup x = some .local
  var2 : scope.names.lookup x2 = some .local
  sub : ∀ z c, cl.lookup z = some c → X.env.cells.lookup z = some c
  has : ∀ z, ((relabel scope X.env).names.lookup z = some .cell ∨ (relabel scope X.env).names.lookup z = some .free) → ∃ c, cl.lookup z = some c
  len : ns.length = fr.length
  from_ : ∀ (k : Nat) z j, ns[k]? = some z → fr[k]? = some j → X.N[j]? = some z ∧ X.env.scope.names.lookup z = some .cell ∧ ((relabel scope X.env).names.lookup z = some .cell ∨ (relabel scope X.env).names.lookup z = some .free)
  nd : (x :: x2 :: ns).Nodup
def lcLoop2 (K : PySem.W.Frag) (J : It) (fr : List Nat) (tt : TT) (te : TE) (σ : St) (D : Addr) (Q : Hp → Prop) (H : Hp) : Prop :=
  ∃ W : Nat → Nat → Hp → Prop, (∃ m, W 0 m H) ∧ ∀ i m H2, W i m H2 → (J.stop i H2 ∧ Q H2) ∨ (J.go i H2 ∧ ∀ v H', J.yld i H2 v H' → ∃ t va vb, v = .ref t ∧ SqT K H' t [va, vb] ∧ tt (lcSlots2 fr σ (some va) (some vb)) H' fun b H3 =>
    if b = true then te (lcSlots2 fr σ (some va) (some vb)) H3 fun y H4 => ∃ ys, H4 D = some (.lst ys) ∧ ys.length < sizeLine ∧ ∃ m', m' < m ∧ W (i + 1) m' (upd H4 D (.lst (ys ++ [y]))) else ∃ m', m' < m ∧ W (i + 1) m' H3)
section
variable {X : Cx} {pins : List (Addr × Obj)} {σ : St} {H : Hp} {s : Shared} {x x2 : Str} {ns : List Str} {fr : List Nat} {scope : Scope} {cl : List (Str × Addr)} {fp : List Addr}
theorem lc_ok2 (I : Inv X pins σ H s) (L : LcOk2 X x x2 ns fr scope cl) (hf : ∀ b ∈ fp, FpOk X pins H b) (ho : ∀ b ∈ fp, b < s.heap.objs.size) : (cxLc X (x :: x2 :: ns) scope cl s.heap.objs.size s H fp).Ok where
  mod := I.ok.mod
  kind := L.kind
  glob := I.ok.glob
  blt := I.ok.blt
  above := Nat.le_refl _
  inj := fun a b c h1 h2 => I.ok.inj a b c (L.sub a c h1) (L.sub b c h2)
  has := fun z h => L.has z h
  cab := fun _ _ h => nomatch h
  hd := I.ok.hd
  frames := I.ok.frames
  stk := .inl rfl
  exf := fun b hb => ⟨Nat.ne_of_lt (ho b hb), fun z c h => (hf b hb).2.2.2.2.1 z c (L.sub z c h)⟩
  bs := I.bs
  bsz := Nat.le_trans I.ok.bsz I.sz
  noex := fun b o e hb => by
    rcases (hf b hb).2.2.2.1 with h | h
    · exact I.ok.noex b o e h
    · exact absurd (Nat.lt_of_lt_of_le (Heap.lt_size e) (Nat.le_trans I.ok.bsz h)) (Nat.lt_irrefl _)
  exfs := fun b hb hs => by
    rcases List.mem_cons.mp (I.stkSub b hs) with h | h
    · exact (hf b hb).2.1 h
    · exact (hf b hb).2.2.1 h
  funs := I.stack
  frf := I.stkFree
theorem lc_slot2 {fr : List Nat} {σ : St} {v v2 : Option V} {k : Nat} {u : V} (h : (lcSlots2 fr σ v v2)[k + 2]? = some (some u)) : ∃ j, fr[k]? = some j ∧ σ[j]? = some (some u) := by
  unfold lcSlots2 at h
  rw [List.getElem?_cons_succ, List.getElem?_cons_succ, List.getElem?_map] at h
  cases e : fr[k]? with
  | none => rw [e] at h; cases h
  | some j =>
    rw [e] at h
    refine ⟨j, rfl, ?_⟩
    cases e2 : σ[j]? with
    | none => simp [e2] at h
    | some o => simp [e2] at h; rw [h]
theorem lc_start2 {h' : Heap} {t' : Nat} (I : Inv X pins σ H s) (L : LcOk2 X x x2 ns fr scope cl) (hf : ∀ b ∈ fp, FpOk X pins H b) (ho : ∀ b ∈ fp, b < s.heap.objs.size)
    (hn : h'.Ns s.heap.objs.size fun _ => none) (hk : ∀ b o, s.heap.get? b = some o → h'.get? b = some o) :
    Inv (cxLc X (x :: x2 :: ns) scope cl s.heap.objs.size s H fp) [] (lcSlots2 fr σ none none) H { s with heap := h', toks := t' } where
  ok := lc_ok2 I L hf ho
  os := rfl
  bare := I.bare
  base := Un.kept hk
  loc := by
    refine ⟨_, hn, fun i z v e1 e2 e3 => ?_⟩
    match i, e1, e2 with
    | 0, _, e2 => cases e2
    | 1, _, e2 => cases e2
    | k + 2, e1, e2 =>
      have e1' : ns[k]? = some z := e1
      obtain ⟨j, ej, ev⟩ := lc_slot2 e2
      obtain ⟨hN, hc, hy⟩ := L.from_ k z j e1' ej
      obtain ⟨m, hm, hl⟩ := I.loc
      obtain ⟨u, r, l⟩ := hl j z v hN ev (.inr (.inl hc))
      refine ⟨u, r, .inr ⟨hy, ?_⟩⟩
      rcases l with ⟨l, _⟩ | ⟨_, c, hcl, ⟨o, ho2, hd⟩⟩
      · have : X.env.scope.names.lookup z = some .local := l
        rw [hc] at this
        cases this
      · obtain ⟨c', hc'⟩ := L.has z hy
        have e := L.sub z c' hc'
        rw [hcl] at e
        cases e
        exact ⟨c, hc', o, hk c o ho2, hd⟩
  cell := fun z c e => by
    obtain ⟨v, o, ho2, hd⟩ := I.cell z c (L.sub z c e)
    exact ⟨v, o, hk c o ho2, hd⟩
  free := I.fresh
  freeC := fun z c e => I.freeC z c (L.sub z c e)
  pin := fun p hp => nomatch hp
  hok := I.hok.kept hk
  len := by
    show (lcSlots2 fr σ none none).length = (x :: x2 :: ns).length
    unfold lcSlots2
    rw [List.length_cons, List.length_cons, List.length_map, List.length_cons, List.length_cons, L.len]
theorem lc_block2 {elt iter : Expr} {px px2 tp : Pos} {kt : Nat} {ifs : List Expr} {pos : Pos} {J : It} {it D : Addr} {tn : Nat → Heap → Prop} {tt : TT} {te : TE} {Qe : Hp → Prop} {R : Result → Shared → Prop} {s4 : Shared}
    (hc : X.calm = true) (L : LcOk2 X x x2 ns fr scope cl) (T : Turn X.prog X.w X.K (.Tuple [.Name x px, .Name x2 px2] kt tp) J fp it tn) (hf : ∀ b ∈ fp, FpOk X pins H b) (ho : ∀ b ∈ fp, b < s.heap.objs.size) (I : Inv X pins σ H s)
    (hE : PE (cxLc X (x :: x2 :: ns) scope cl s.heap.objs.size s H fp) elt te) (hT : LcIf (PT (cxLc X (x :: x2 :: ns) scope cl s.heap.objs.size s H fp)) ifs tt) (hw : lcLoop2 X.K J fr tt te σ D Qe H)
    (I4 : Inv (cxLc X (x :: x2 :: ns) scope cl s.heap.objs.size s H fp) [] (lcSlots2 fr σ none none) H s4) (st4 : tn 0 s4.heap)
    (hR : ∀ (s' : Shared) (H' : Hp) (v v2 : Option V), Inv (cxLc X (x :: x2 :: ns) scope cl s.heap.objs.size s H fp) [] (lcSlots2 fr σ v v2) H' s' → Qe H' → R (.ok .next) s') :
    codeAny (model X.prog X.w) X.A (.compStart (.ListComp elt [⟨.Tuple [.Name x px, .Name x2 px2] kt tp, iter, ifs, 0⟩] scope pos) 0 (.ref it) (.ref D) (compEnvC scope cl s.heap.objs.size X.env)) R s4 := by
  obtain ⟨W, ⟨m0, w0⟩, turn⟩ := hw
  have okY := lc_ok2 I L hf ho
  have hxl : Loc (cxLc X (x :: x2 :: ns) scope cl s.heap.objs.size s H fp).env.scope x := .inl (lookup_relabel_local L.var)
  have stat : ∀ {H' : Hp}, (∀ b ∈ fp, H' b = none) → ∀ b ∈ fp, FpOk (cxLc X (x :: x2 :: ns) scope cl s.heap.objs.size s H fp) [] H' b := fun hn b hb =>
    ⟨hn b hb, (okY.exf b hb).1, okY.exfs b hb, .inl hb, (okY.exf b hb).2, fun p hp => nomatch hp⟩
  have fr0 : ∀ b ∈ fp, H b = none := fun b hb => (hf b hb).1
  have loop : codeAny (model X.prog X.w) X.A (.compLoop (.ListComp elt [⟨.Tuple [.Name x px, .Name x2 px2] kt tp, iter, ifs, 0⟩] scope pos) 0 (.ref it) (.ref D) (compEnvC scope cl s.heap.objs.size X.env)) R s4 := by
    refine codeAny_loop rfl (fun n s' => ∃ i v v2 H', Inv (cxLc X (x :: x2 :: ns) scope cl s.heap.objs.size s H fp) [] (lcSlots2 fr σ v v2) H' s' ∧ tn i s'.heap ∧ (∀ b ∈ fp, H' b = none) ∧ W i n H') (fun n s3 hI => ?_) m0 ⟨0, none, none, H, I4, st4, fr0, w0⟩
    obtain ⟨i, v0, v02, H3, I3, st3, fr3, w3⟩ := hI
    show wpAny _ X.A ((compTurn (.ListComp elt [⟨.Tuple [.Name x px, .Name x2 px2] kt tp, iter, ifs, 0⟩] scope pos) 0 (.ref it) (.ref D) (compEnvC scope cl s.heap.objs.size X.env)).onRaise (fun y => do noteFrame y (compEnvC scope cl s.heap.objs.size X.env); theTreesLotGoes y)) _ _ s3
    refine wpAny_noted ?_
    rw [compTurn_list]
    have low : ∀ {α : Type} {t : Sem α} {Q Q' : α → Shared → Prop} {E : Value → Shared → Prop} {s5 : Shared}, wpAny (model X.prog X.w) X.A t Q (fun _ _ => False) s5 → (∀ a s6, Q a s6 → Q' a s6) → wpAny (model X.prog X.w) X.A t Q' E s5 :=
      fun h hq => wpAny_mono h hq fun _ _ z => z.elim
    rcases turn i n H3 w3 with ⟨stop, q⟩ | ⟨go, step⟩
    · refine wpAny_bind (wpAny_standAt (wpAny_bind (low (T.done (cxLc X (x :: x2 :: ns) scope cl s.heap.objs.size s H fp) rfl rfl rfl hc i [] s3 _ H3 (fun _ _ => False) I3 (stat fr3) st3 stop) fun r s5 hr => ?_)))
      obtain ⟨hr, I5⟩ := hr
      subst hr
      exact wpAny_pure (hR s5 H3 v0 v02 I5 q)
    · refine wpAny_bind (wpAny_standAt (wpAny_bind (low (T.item (cxLc X (x :: x2 :: ns) scope cl s.heap.objs.size s H fp) rfl rfl rfl hc i [] s3 _ H3 (fun _ _ => False) I3 (stat fr3) st3 go) fun r s5 hr => ?_)))
      obtain ⟨u, hr, h5⟩ := hr
      subst hr
      refine wpAny_bind (low h5 fun _ s6 h6 => ?_)
      obtain ⟨y, H6, I6, r6, y6, st6, fr6⟩ := h6
      have I6' := I6.pinned (stat fr6) (T.obj _ _ st6)
      obtain ⟨t, va, vb, ey, hsq, hstep⟩ := step y _ y6
      subst ey
      have hxl2 : Loc (cxLc X (x :: x2 :: ns) scope cl s.heap.objs.size s H fp).env.scope x2 := .inl (lookup_relabel_local L.var2)
      have hg : PG (cxLc X (x :: x2 :: ns) scope cl s.heap.objs.size s H fp) (.Tuple [.Name x px, .Name x2 px2] kt tp) (gTup X.K 2 (gCons (gName 0) (gCons (gName 1) gNil))) :=
        pg_tup (X := cxLc X (x :: x2 :: ns) scope cl s.heap.objs.size s H fp) hc (pgs_cons (pg_name (i := 0) L.nd rfl hxl (.inr (lookup_relabel_local L.var))) (pgs_cons (pg_name (i := 1) L.nd rfl hxl2 (.inr (lookup_relabel_local L.var2))) pgs_nil))
      refine wpAny_bind (low (hg _ s6 _ H6 (.ref t) u (fun σ' H' => σ' = lcSlots2 fr σ (some va) (some vb) ∧ H' = H6) I6' r6 ⟨t, [va, vb], rfl, hsq, rfl, va, [vb], rfl, vb, [], rfl, rfl, rfl, rfl⟩) fun _ s7 h7 => ?_)
      obtain ⟨σ7, H7, I7, e7, e7'⟩ := h7
      subst e7 e7'
      have back : ∀ {H8 : Hp} {s8 : Shared}, Inv (cxLc X (x :: x2 :: ns) scope cl s.heap.objs.size s H fp) ([] ++ pinsAt fp s6.heap) (lcSlots2 fr σ (some va) (some vb)) H8 s8 → (∃ m', m' < n ∧ W (i + 1) m' H8) →
          ∃ m, m < n ∧ ∃ i v v2 H', Inv (cxLc X (x :: x2 :: ns) scope cl s.heap.objs.size s H fp) [] (lcSlots2 fr σ v v2) H' s8 ∧ tn i s8.heap ∧ (∀ b ∈ fp, H' b = none) ∧ W i m H' := fun {H8 s8} I8 hm => by
        obtain ⟨m', hm, w8⟩ := hm
        refine ⟨m', hm, i + 1, some va, some vb, H8, I8.unpinned, T.keep _ _ _ st6 fun b hb o e => (I8.pin (b, o) (List.mem_append_right _ (List.mem_append_right _ (mem_pinsAt hb e)))).1, fun b hb => ?_, w8⟩
        obtain ⟨o, e, d⟩ := T.obj _ _ st6 b hb
        exact (I8.pin (b, o) (List.mem_append_right _ (List.mem_append_right _ (mem_pinsAt hb e)))).2.1
      have emit : ∀ {H8 : Hp} {s8 : Shared}, Inv (cxLc X (x :: x2 :: ns) scope cl s.heap.objs.size s H fp) ([] ++ pinsAt fp s6.heap) (lcSlots2 fr σ (some va) (some vb)) H8 s8 →
          te (lcSlots2 fr σ (some va) (some vb)) H8 (fun y H4 => ∃ ys, H4 D = some (.lst ys) ∧ ys.length < sizeLine ∧ ∃ m', m' < n ∧ W (i + 1) m' (upd H4 D (.lst (ys ++ [y])))) →
          wpAny (model X.prog X.w) X.A (do let _ ← call (.builtin "list.append") [.ref D, ← eval elt (compEnvC scope cl s.heap.objs.size X.env)]) (fun _ s9 => ∃ m, m < n ∧ ∃ i v v2 H', Inv (cxLc X (x :: x2 :: ns) scope cl s.heap.objs.size s H fp) [] (lcSlots2 fr σ v v2) H' s9 ∧ tn i s9.heap ∧ (∀ b ∈ fp, H' b = none) ∧ W i m H') (fun _ _ => False) s8 := fun {H8 s8} I8 h8 => by
        refine wpAny_bind (thn (hE _ s8 _ H8 _ I8 h8) fun v9 s9 h9 => ?_)
        obtain ⟨z, H9, I9, r9, ys, hD, hlen, hm⟩ := h9
        refine wpAny_bind (thn (mt_append (X := cxLc X (x :: x2 :: ns) scope cl s.heap.objs.size s H fp) _ s9 _ H9 (.ref D) [z] (.ref D) [v9] (fun _ H' => ∃ m', m' < n ∧ W (i + 1) m' H') I9 rfl (.cons r9 .nil) ⟨D, ys, z, rfl, rfl, hD, hlen, hm⟩) fun v10 s10 h10 => ?_)
        obtain ⟨_, H10, I10, _, hm10⟩ := h10
        exact wpAny_pure (back I10 hm10)
      cases hT with
      | nil =>
        refine wpAny_bind (wpAny_tests_nil ?_)
        refine wpAny_bind (low (emit I7 (iteT_inv hstep)) fun _ s9 h9 => wpAny_pure ⟨rfl, h9⟩)
      | one hP =>
        refine wpAny_bind (wpAny_tests_one (low (hP _ s7 _ _ _ I7 hstep) fun b s8 h8 => ?_))
        obtain ⟨H8, I8, q8⟩ := h8
        cases b with
        | false =>
          have q9 : ∃ m', m' < n ∧ W (i + 1) m' H8 := q8
          exact wpAny_pure ⟨rfl, back I8 q9⟩
        | true =>
          exact wpAny_bind (low (emit I8 q8) fun _ s9 h9 => wpAny_pure ⟨rfl, h9⟩)
  exact codeAny_compStart_list loop (T.self X.A 0 _ _ _ st4 loop)
theorem lc_after2 {s' : Shared} {H' : Hp} {σ' : St} (I : Inv X pins σ H s) (hf : ∀ b ∈ fp, FpOk X pins H b) (I' : Inv (cxLc X (x :: x2 :: ns) scope cl s.heap.objs.size s H fp) [] σ' H' s') : Inv X pins σ H' s' :=
  I.call' (ch := fp) I'.os I'.base I'.hok I'.bare fun b hb => ⟨(hf b hb).2.2.2.1, (hf b hb).2.1, (hf b hb).2.2.2.2.1, (hf b hb).2.2.2.2.2⟩
theorem lc_run2 {elt iter : Expr} {px px2 tp : Pos} {kt : Nat} {ifs : List Expr} {pos : Pos} {J : It} {it : Addr} {tn : Nat → Heap → Prop} {tt : TT} {te : TE} {Qe : Addr → Hp → Prop} {R : Value → Addr → Result → Shared → Prop} {E : Value → Shared → Prop}
    (hc : X.calm = true) (L : LcOk2 X x x2 ns fr scope cl) (T : Turn X.prog X.w X.K (.Tuple [.Name x px, .Name x2 px2] kt tp) J fp it tn) (hf : ∀ b ∈ fp, FpOk X pins H b) (I : Inv X pins σ H s) (st : tn 0 s.heap)
    (hE : ∀ C s H, PE (cxLc X (x :: x2 :: ns) scope cl C s H fp) elt te) (hT : ∀ C s H, LcIf (PT (cxLc X (x :: x2 :: ns) scope cl C s H fp)) ifs tt) (hw : ∀ D, H D = none → lcLoop2 X.K J fr tt te σ D (Qe D) (upd H D (.lst [])))
    (hR : ∀ (D C : Addr) (s' : Shared) (H' : Hp), Inv X pins σ H' s' → Qe D H' → (∃ m o, s'.heap.get? C = some o ∧ (∀ v, o.data ≠ .cell v) ∧ ∀ h' : Heap, h'.get? C = some o → h'.Ns C m) → H' C = none → C ≠ X.env.locals → C ∉ X.fs → X.s₀.heap.objs.size ≤ C →
      (∀ z c, X.env.cells.lookup z = some c → c ≠ C) → (∀ p ∈ X.pn ++ pins, p.1 ≠ C) → R (.ref D) C (.ok .next) s') :
    wpAny (model X.prog X.w) X.A (newList []) (fun acc s₃ => wpAny (model X.prog X.w) X.A (newFunctionEnv scope X.env.globals cl [] X.env.qual none .none (some X.env)) (fun cenv s₄ =>
      codeAny (model X.prog X.w) X.A (.compStart (.ListComp elt [⟨.Tuple [.Name x px, .Name x2 px2] kt tp, iter, ifs, 0⟩] scope pos) 0 (.ref it) acc { cenv with scope := relabel scope X.env }) (R acc cenv.locals) s₄) E s₃) E s := by
  have ho : ∀ b ∈ fp, b < s.heap.objs.size := fun b hb => by
    obtain ⟨o, e, _⟩ := T.obj _ _ st b hb
    exact Heap.lt_size e
  have I3 : Inv X pins σ (upd H s.heap.objs.size (.lst [])) { s with heap := s.heap.push { cls := .type "list", dict := none, data := .seq ([] : List Value).toArray } } := I.lnew (t' := s.toks) (.nil) (Nat.zero_le _)
  refine wpAny_newObj_type (wpAny_newFunctionEnv L.nocell (by intro y hy; simp at hy) (fun h1 hns hsb => ?_) L.kind)
  dsimp only at hns hsb ⊢
  generalize hs3 : ({ s with heap := s.heap.push { cls := .type "list", dict := none, data := .seq ([] : List Value).toArray } } : Shared) = s3 at I3
  have eh : s.heap.push { cls := .type "list", dict := none, data := .seq ([] : List Value).toArray } = s3.heap := by rw [← hs3]
  rw [eh] at hns hsb ⊢
  have hz : s3.heap.objs.size = s.heap.objs.size + 1 := by rw [← eh, Heap.size_push]
  have hk : ∀ b o, s3.heap.get? b = some o → h1.get? b = some o := fun b o e => hsb.extBut b o (Nat.ne_of_lt (Heap.lt_size e)) (Heap.get?_push_of_some _ e)
  have hf3 : ∀ b ∈ fp, FpOk X pins (upd H s.heap.objs.size (.lst [])) b := fun b hb => ⟨by rw [upd_ne (Nat.ne_of_lt (ho b hb))]; exact (hf b hb).1, (hf b hb).2⟩
  have ho3 : ∀ b ∈ fp, b < s3.heap.objs.size := fun b hb => by rw [hz]; exact Nat.lt_succ_of_lt (ho b hb)
  have es : ∀ tk, ({ s with heap := h1, toks := tk } : Shared) = { s3 with heap := h1, toks := tk } := fun tk => by rw [← hs3]
  rw [es]
  have I4 := lc_start2 (t' := s.toks + ([] : List (Str × Value)).length) I3 L hf3 ho3 hns hk
  refine lc_block2 hc L T hf3 ho3 I3 (hE _ _ _) (hT _ _ _) (hw _ I.fresh) I4 ?_ fun s' H' v v2 I' q => ?_
  · refine T.keep _ _ _ st fun b hb o e => hk b o ?_
    rw [← eh]
    exact Heap.get?_push_of_some _ e
  · have IX := lc_after2 I3 hf3 I'
    obtain ⟨m, ⟨o, es', ep, ho', hd', hr'⟩, _⟩ := I'.loc
    refine hR _ _ s' H' IX q ⟨m, o, ho', fun v z => ?_, fun h' e => ⟨o, es', ep, e, hd', hr'⟩⟩ I'.free (Nat.ne_of_gt I3.lt) (I3.nofs (Nat.le_refl _)) I3.sz (fun z c e => ?_) fun p hp => ?_
    · rw [hd'] at z
      cases z
    · obtain ⟨v, o2, e2, _⟩ := I3.cell z c e
      exact Nat.ne_of_lt (Heap.lt_size e2)
    · exact Nat.ne_of_lt (Heap.lt_size (I3.pin p hp).1)
def tLc2 (K : PySem.W.Frag) (wi : TI) (fr : List Nat) (tt : TT) (te : TE) : TE := fun σ H Q => wi σ H fun J H1 => ∀ D, H1 D = none → lcLoop2 K J fr tt te σ D (fun H2 => Q (.ref D) H2) (upd H1 D (.lst []))
theorem ps_lc2 {elt iter : Expr} {y : Str} {j : Nat} {px px2 tp py pos spos : Pos} {kt : Nat} {ifs : List Expr} {wi : TI} {tt : TT} {te : TE} (hc : X.calm = true) (hN : X.N.Nodup) (hj : X.N[j]? = some y) (hy : X.env.scope.names.lookup y = some .local) (L : LcOk2 X x x2 ns fr scope cl) (hi : PI X (.Tuple [.Name x px, .Name x2 px2] kt tp) iter wi)
    (hE : ∀ C s H fp, PE (cxLc X (x :: x2 :: ns) scope cl C s H fp) elt te) (hT : ∀ C s H fp, LcIf (PT (cxLc X (x :: x2 :: ns) scope cl C s H fp)) ifs tt)
    (hsw : swapsWith (.ListComp elt [⟨.Tuple [.Name x px, .Name x2 px2] kt tp, iter, ifs, 0⟩] scope pos) (some (.Name y py)) spos.line X.env = pure true := by rfl)
    (hs : ∀ v, foldedSetIterable iter X.env v = pure v := by intro _; rfl) : PS X (.Assign [.Name y py] (.ListComp elt [⟨.Tuple [.Name x px, .Name x2 px2] kt tp, iter, ifs, 0⟩] scope pos) spos) (tAsg (tLc2 X.K wi fr tt te) (gName j)) := by
  intro pins s σ H Dn I h
  rw [exec_Assign_Name_used _ _ _ _ hsw]
  refine wpAny_bind (wpAny_standAt (wpAny_bind ?_))
  show wpAny _ X.A (do let _ ← comprehension (.ListComp elt [⟨.Tuple [.Name x px, .Name x2 px2] kt tp, iter, ifs, 0⟩] scope pos) scope X.env _ (newList []) false (eval iter X.env) (some (assign (.Name y py) X.env))) _ _ s
  refine wpAny_bind (thn (wpAny_comprehension_free (use := some (assign (.Name y py) X.env)) (Q := fun _ s' => SP X pins Dn .next s') rfl hs L.clos L.kind L.own (thn (hi pins s σ H _ I h) fun v s1 h1 => thn h1 fun itv s2 h2 => ?_)) fun _ s' q => wpAny_pure (wpAny_pure q))
  obtain ⟨it, fp, tn, J, H2, e, I2, T, st2, f2, q⟩ := h2
  subst e
  refine lc_run2 (R := fun acc C => compPost (model X.prog X.w) X.A X.xe (some (assign (.Name y py) X.env)) (fun _ s' => SP X pins Dn .next s') acc C) hc L T f2 I2 st2 (fun C s H => hE C s H fp) (fun C s H => hT C s H fp) q ?_
  intro D C s' H' I' q' hns hn hl hfs hz hcell hpin
  obtain ⟨m, o, e, hd, hk⟩ := hns
  have I'' : Inv X (pins ++ [(C, o)]) σ H' s' := I'.pins_of fun p hp => by
    rcases List.mem_append.mp hp with h | h
    · exact I'.pin p (List.mem_append_right _ h)
    · have ep : p = (C, o) := by simpa using h
      subst ep
      exact ⟨e, hn, hl, hfs, hd⟩
  refine wpAny_assign_Name (store_ok I'' hN hj (.inl hy) (show RelV (.ref D) (.ref D) from rfl) (fun s2 I2 => ?_) (.inr hy))
  obtain ⟨e2, n2, _⟩ := I2.pin (C, o) (List.mem_append_right _ (List.mem_append_right _ (List.mem_singleton.mpr rfl)))
  refine ⟨m, hk _ e2, fun h' hsb => ?_⟩
  exact ⟨σ.set j (some (.ref D)), H', I2.unpinned.turned (t' := s2.toks) (fun b o hb e => hsb.extBut b o hb e) hn hl (.inr hz) hcell hpin, q'⟩
end
section
variable {X : Cx} {x x2 : Str} {ns : List Str} {fr : List Nat} {scope : Scope} {cl : List (Str × Addr)}
theorem lcok2 (clos : closureFor scope X.env = pure cl) (nocell : scope.names.all (fun y => y.2 != .cell) = true) (kind : scope.kind = .function)
    (own : scope.names.all (fun y => y.2 != .local || scope.names.lookup y.1 == some .local) = true) (var : scope.names.lookup x = some .local) (var2 : scope.names.lookup x2 = some .local) (sub : ∀ p ∈ cl, X.env.cells.lookup p.1 = some p.2)
    (has : (relabel scope X.env).names.all (fun y => !(y.2 == .cell || y.2 == .free) || (cl.lookup y.1).isSome) = true) (len : ns.length = fr.length)
    (fr_ : ∀ p ∈ ns.zip fr, X.N[p.2]? = some p.1 ∧ X.env.scope.names.lookup p.1 = some .cell ∧ ((relabel scope X.env).names.lookup p.1 = some .cell ∨ (relabel scope X.env).names.lookup p.1 = some .free)) (nd : (x :: x2 :: ns).Nodup) : LcOk2 X x x2 ns fr scope cl where
  clos := clos
  nocell := fun y hy => by simpa using List.all_eq_true.mp nocell y hy
  kind := kind
  own := fun y hy h => by
    have := List.all_eq_true.mp own y hy
    rw [h] at this
    simpa using this
  var := var
  var2 := var2
  sub := fun z c h => sub _ (lk_mem h)
  has := fun z h => by
    have k : ∀ t, (relabel scope X.env).names.lookup z = some t → (t = .cell ∨ t = .free) → ∃ c, cl.lookup z = some c := fun t ht hk => by
      have := List.all_eq_true.mp has _ (lk_mem ht)
      rcases hk with rfl | rfl <;> simpa [Option.isSome_iff_exists] using this
    rcases h with h | h
    · exact k _ h (.inl rfl)
    · exact k _ h (.inr rfl)
  len := len
  from_ := fun k z j h1 h2 => fr_ (z, j) (List.mem_of_getElem? (i := k) (by rw [List.getElem?_zip_eq_some]; exact ⟨h1, h2⟩))
  nd := nd
end
end L2
namespace L2
open PySem PySem.Spec PyProof.Rows
open AutoSeq1 (wpAny_loadPart')
section
variable {prog : Program} {w : World} {A : Around} {E : Value → Shared → Prop} {s : Shared}
theorem no_tup_item {it l : Addr} {i : Nat} {items : Array Value} {x : Value} {Q : Value → Shared → Prop} (hi : s.heap.IsTupleIter it l i) (hl : s.heap.IsTuple l items) (hx : items[i]? = some x)
    (h : ∀ h' : Heap, h'.IsTupleIter it l (i + 1) → Heap.SameBut it s.heap h' → Q x { s with heap := h' }) : wpAny (model prog w) A (Builtin.SmallTypes.nextOf (.ref it)) Q E s := by
  obtain ⟨⟨c, d, dt, sl⟩, ho, hc, hd⟩ := id hi
  replace hc : c = .type "tuple_iterator" := hc
  replace hd : dt = _ := hd
  subst hc hd
  have sl := F.slot_tuple_iterator_next
  have lk := sl.lookup
  have bd := sl.bind (.ref it)
  unfold Builtin.SmallTypes.nextOf callSpecial? specialOf
  wp_walk using wpAny_loadPart' ho
  refine codeAny_call_builtin sl.plain F.entry_tuple_iterator_next (sl.check _ _ _ _ _ _ _ _ ⟨_, ho, rfl⟩ (F.args_tuple_iterator_next_1 _) ?_)
  obtain ⟨⟨c2, d2, dt2, sl2⟩, ho2, hc2, n2, hd2⟩ := id hl
  replace hc2 : c2 = .type "tuple" := hc2
  replace hd2 : dt2 = _ := hd2
  subst hc2 hd2
  unfold Builtin.«tuple_iterator.__next__»
  wp_walk using wpAny_loadPart' ho, wpAny_loadPart' ho2
  rw [Int.toNat_natCast, hx]
  wp_walk using wpAny_loadPart' ho, wpAny_loadPart' ho2
  exact h _ ⟨_, Heap.get?_update_self _ ho rfl, rfl, rfl⟩ (Heap.SameBut.update _ _ _)
theorem zn_item {z TI TO i1 i2 l1 l2 : Addr} {a b x y : Value} {k1 k2 : Nat} {xs ys : Array Value} {Q : Value → Shared → Prop} (ap : ZipApart z TI TO i1 i2 l1 l2) (hz : IsZip s.heap z TI TO .none) (h1 : IsPair s.heap TI (.ref i1) (.ref i2)) (h2 : IsPair s.heap TO a b)
    (hi1 : s.heap.IsListIter i1 l1 k1) (hi2 : s.heap.IsTupleIter i2 l2 k2) (hl1 : s.heap.IsList l1 xs) (hl2 : s.heap.IsTuple l2 ys) (hx : xs[k1]? = some x) (hy : ys[k2]? = some y)
    (h : ∀ h' : Heap, IsZip h' z TI TO (rawInt s.heap.objs.size) → IsPair h' TO x y → h'.IsListIter i1 l1 (k1 + 1) → h'.IsTupleIter i2 l2 (k2 + 1) → IsPair h' s.heap.objs.size x y → h'.objs.size = s.heap.objs.size + 1 →
      (∀ c o, c ≠ z → c ≠ TO → c ≠ i1 → c ≠ i2 → s.heap.get? c = some o → h'.get? c = some o) → Q (.ref s.heap.objs.size) { s with heap := h' }) :
    wpAny (model prog w) A (Builtin.«zip.__next__» ⟨[.ref z], []⟩) (fun fin s' => ∃ v, fin = .done (.ret v) ∧ Q v s') E s := by
  unfold Builtin.«zip.__next__»
  iterate 69 (first | wp_step | (refine wpAny_loadPart' hz ?_) | (refine wpAny_loadPart' h1 ?_) | (refine wpAny_loadPart' h2 ?_))
  refine wpAny_onRaise ?_
  show wpAny _ _ (do let v ← Builtin.SmallTypes.nextOf (.ref i1); pure (some v)) _ _ _
  have hs0 : Heap.SameBut z s.heap (s.heap.update z (Obj.mapFields fun x => x.setIfInBounds 0 Value.ellipsis)) := Heap.SameBut.update _ _ _
  have hz0 : (s.heap.update z (Obj.mapFields fun x => x.setIfInBounds 0 Value.ellipsis)).get? z = _ := Heap.get?_update_self _ hz rfl
  generalize s.heap.update z (Obj.mapFields fun x => x.setIfInBounds 0 Value.ellipsis) = h0 at hs0 hz0
  have e0 : ∀ b o, b ≠ z → s.heap.get? b = some o → h0.get? b = some o := fun b o hb e => (hs0.2 b hb).trans e
  have i10 : h0.IsListIter i1 l1 k1 := hi1.at fun o e => e0 _ o ap.i1z e
  have l10 : h0.IsList l1 xs := by
    obtain ⟨o, e, q⟩ := hl1
    exact ⟨o, e0 _ o ap.l1z e, q⟩
  refine wpAny_bind (wpAny_nextOf_list_item (s := { s with heap := h0 }) i10 l10 hx fun h3 i13 s3 => wpAny_pure ?_)
  have e3 : ∀ b o, b ≠ z → b ≠ i1 → s.heap.get? b = some o → h3.get? b = some o := fun b o hb hb2 e => (s3.2 b hb2).trans (e0 b o hb e)
  have hz3 : h3.get? z = _ := (s3.2 z ap.i1z.symm).trans hz0
  have hT3 : h3.get? TO = _ := e3 TO _ ap.TOz ap.TOi1 h2
  iterate 23 (first | wp_step | (refine wpAny_loadPart' hT3 ?_))
  refine wpAny_onRaise ?_
  show wpAny _ _ (do let v ← Builtin.SmallTypes.nextOf (.ref i2); pure (some v)) _ _ _
  have hT4 : IsPair (h3.update TO (Obj.mapSeq fun x_1 => x_1.setIfInBounds 0 x)) TO x b := Heap.get?_update_self _ hT3 rfl
  have s4 : Heap.SameBut TO h3 (h3.update TO (Obj.mapSeq fun x_1 => x_1.setIfInBounds 0 x)) := Heap.SameBut.update _ _ _
  generalize h3.update TO (Obj.mapSeq fun x_1 => x_1.setIfInBounds 0 x) = h4 at hT4 s4
  have e4 : ∀ b o, b ≠ z → b ≠ i1 → b ≠ TO → s.heap.get? b = some o → h4.get? b = some o := fun b o hb hb2 hb3 e => (s4.2 b hb3).trans (e3 b o hb hb2 e)
  have i24 : h4.IsTupleIter i2 l2 k2 := hi2.at fun o e => e4 _ o ap.i2z ap.i12.symm ap.TOi2.symm e
  have l24 : h4.IsTuple l2 ys := by
    obtain ⟨o, e, q⟩ := hl2
    exact ⟨o, e4 _ o ap.l2z ap.l2i1 ap.l2TO e, q⟩
  refine wpAny_bind (no_tup_item (s := { s with heap := h4 }) i24 l24 hy fun h5 i25 s5 => wpAny_pure ?_)
  have hz5 : h5.get? z = _ := (s5.2 z ap.i2z.symm).trans ((s4.2 z ap.TOz.symm).trans hz3)
  have hT5 : IsPair h5 TO x b := (s5.2 TO ap.TOi2).trans hT4
  have hT6 : IsPair (h5.update TO (Obj.mapSeq fun x_1 => x_1.setIfInBounds 1 y)) TO x y := Heap.get?_update_self _ hT5 rfl
  have s6 : Heap.SameBut TO h5 (h5.update TO (Obj.mapSeq fun x_1 => x_1.setIfInBounds 1 y)) := Heap.SameBut.update _ _ _
  have hz6 : (h5.update TO (Obj.mapSeq fun x_1 => x_1.setIfInBounds 1 y)).get? z = _ := (s6.2 z ap.TOz.symm).trans hz5
  have hz7 : ((h5.update TO (Obj.mapSeq fun x_1 => x_1.setIfInBounds 1 y)).push { cls := .type "tuple", data := .seq #[x, y] }).get? z = _ := Heap.get?_push_of_some _ hz6
  have z6 : (h5.update TO (Obj.mapSeq fun x => x.setIfInBounds (0 + 1) y)).objs.size = s.heap.objs.size := s6.1.trans (s5.1.trans (s4.1.trans (s3.1.trans hs0.1)))
  repeat (first | wp_step | (refine wpAny_loadPart' hT5 ?_) | (refine wpAny_loadPart' hT6 ?_) | (refine wpAny_loadPart' hz7 ?_))
  refine ⟨_, rfl, ?_⟩
  rw [z6]
  have hp7 : IsPair ((h5.update TO (Obj.mapSeq fun x => x.setIfInBounds (0 + 1) y)).push { cls := .type "tuple", data := .seq #[x, y].toList.toArray }) s.heap.objs.size x y := by
    rw [← z6]
    exact Heap.get?_push_size _ rfl
  have q7 : ∀ c o, (h5.update TO (Obj.mapSeq fun x => x.setIfInBounds (0 + 1) y)).get? c = some o → ((h5.update TO (Obj.mapSeq fun x => x.setIfInBounds (0 + 1) y)).push { cls := .type "tuple", data := .seq #[x, y].toList.toArray }).get? c = some o := fun c o e => Heap.get?_push_of_some _ e
  have z7 : ((h5.update TO (Obj.mapSeq fun x => x.setIfInBounds (0 + 1) y)).push { cls := .type "tuple", data := .seq #[x, y].toList.toArray }).objs.size = s.heap.objs.size + 1 := by rw [Heap.size_push, z6]
  have hzl : z < s.heap.objs.size := Heap.lt_size hz
  have hTl : TO < s.heap.objs.size := Heap.lt_size h2
  have hz7' : ((h5.update TO (Obj.mapSeq fun x => x.setIfInBounds (0 + 1) y)).push { cls := .type "tuple", data := .seq #[x, y].toList.toArray }).get? z = _ := hz7
  have hT7 : IsPair ((h5.update TO (Obj.mapSeq fun x => x.setIfInBounds (0 + 1) y)).push { cls := .type "tuple", data := .seq #[x, y].toList.toArray }) TO x y := q7 _ _ hT6
  have e7 : ∀ c o, c ≠ z → c ≠ TO → c ≠ i1 → c ≠ i2 → s.heap.get? c = some o → ((h5.update TO (Obj.mapSeq fun x => x.setIfInBounds (0 + 1) y)).push { cls := .type "tuple", data := .seq #[x, y].toList.toArray }).get? c = some o := fun c o c1 c2 c3 c4 e => q7 _ _ ((s6.2 c c2).trans ((s5.2 c c4).trans (e4 c o c1 c3 c2 e)))
  have i17 : ((h5.update TO (Obj.mapSeq fun x => x.setIfInBounds (0 + 1) y)).push { cls := .type "tuple", data := .seq #[x, y].toList.toArray }).IsListIter i1 l1 (k1 + 1) := i13.at fun o e => q7 _ _ ((s6.2 i1 ap.TOi1.symm).trans ((s5.2 i1 ap.i12).trans ((s4.2 i1 ap.TOi1.symm).trans e)))
  have i27 : ((h5.update TO (Obj.mapSeq fun x => x.setIfInBounds (0 + 1) y)).push { cls := .type "tuple", data := .seq #[x, y].toList.toArray }).IsTupleIter i2 l2 (k2 + 1) := i25.at fun o e => q7 _ _ ((s6.2 i2 ap.TOi2.symm).trans e)
  generalize (h5.update TO (Obj.mapSeq fun x => x.setIfInBounds (0 + 1) y)).push { cls := .type "tuple", data := .seq #[x, y].toList.toArray } = h7 at hp7 z7 hz7' hT7 e7 i17 i27 ⊢
  have hz8 : (h7.update z (Obj.mapFields fun x => x.setIfInBounds 0 (rawInt s.heap.objs.size))).get? z = _ := Heap.get?_update_self _ hz7' rfl
  have hz9 : IsZip ((h7.update z (Obj.mapFields fun x => x.setIfInBounds 0 (rawInt s.heap.objs.size))).update z (Obj.mapFields fun x => x.setIfInBounds 1 (Value.bool false))) z TI TO (rawInt s.heap.objs.size) := Heap.get?_update_self _ hz8 rfl
  have s9 : ∀ c, c ≠ z → ((h7.update z (Obj.mapFields fun x => x.setIfInBounds 0 (rawInt s.heap.objs.size))).update z (Obj.mapFields fun x => x.setIfInBounds 1 (Value.bool false))).get? c = h7.get? c := fun c hc => ((Heap.SameBut.update _ z _).2 c hc).trans ((Heap.SameBut.update h7 z _).2 c hc)
  exact h _ hz9 ((s9 _ ap.TOz).trans hT7) (i17.at fun o e => (s9 _ ap.i1z).trans e) (i27.at fun o e => (s9 _ ap.i2z).trans e) ((s9 _ (Nat.ne_of_gt hzl)).trans hp7) (by rw [Heap.size_update, Heap.size_update, z7]) fun c o c1 c2 c3 c4 e => (s9 c c1).trans (e7 c o c1 c2 c3 c4 e)
end
end L2
namespace L2
open PySem PySem.Spec PyProof.Rows
open AutoSeq1 (wpAny_loadPart')
section
variable {prog : Program} {w : World} {A : Around} {E : Value → Shared → Prop} {s : Shared}
theorem zp_item {z TI TO i1 i2 l1 l2 : Addr} {a b x y : Value} {k1 k2 : Nat} {xs ys : Array Value} {Q : Option Value → Shared → Prop} (ap : ZipApart z TI TO i1 i2 l1 l2) (hz : IsZip s.heap z TI TO .none) (h1 : IsPair s.heap TI (.ref i1) (.ref i2)) (h2 : IsPair s.heap TO a b)
    (hi1 : s.heap.IsListIter i1 l1 k1) (hi2 : s.heap.IsTupleIter i2 l2 k2) (hl1 : s.heap.IsList l1 xs) (hl2 : s.heap.IsTuple l2 ys) (hx : xs[k1]? = some x) (hy : ys[k2]? = some y)
    (h : ∀ h' : Heap, IsZip h' z TI TO (rawInt s.heap.objs.size) → IsPair h' TO x y → h'.IsListIter i1 l1 (k1 + 1) → h'.IsTupleIter i2 l2 (k2 + 1) → IsPair h' s.heap.objs.size x y → h'.objs.size = s.heap.objs.size + 1 →
      (∀ c o, c ≠ z → c ≠ TO → c ≠ i1 → c ≠ i2 → s.heap.get? c = some o → h'.get? c = some o) → Q (some (.ref s.heap.objs.size)) { s with heap := h' }) : wpAny (model prog w) A (pyNext (.ref z)) Q E s := by
  have sl := F.slot_zip_next
  have lk := sl.lookup
  have bd := sl.bind (.ref z)
  unfold pyNext callSpecial? specialOf
  wp_walk using wpAny_loadPart' hz
  refine codeAny_call_builtin sl.plain F.entry_zip_next (sl.check _ _ _ _ _ _ _ _ ⟨_, hz, rfl⟩ (F.args_zip_next_1 _) ?_)
  refine thn (zn_item (Q := fun v s' => Q (some v) s') ap hz h1 h2 hi1 hi2 hl1 hl2 hx hy h) fun fin s' hq => ?_
  obtain ⟨v, rfl, q⟩ := hq
  exact wpAny_pure (wpAny_pure q)
theorem zn_end {z TI TO i1 i2 l1 l2 : Addr} {a b : Value} {k1 : Nat} {xs : Array Value} {Q : PySem.Fin → Shared → Prop} (hh : A.handled = none) (ap : ZipApart z TI TO i1 i2 l1 l2) (hz : IsZip s.heap z TI TO .none) (h1 : IsPair s.heap TI (.ref i1) (.ref i2)) (h2 : IsPair s.heap TO a b)
    (hi1 : s.heap.IsListIter i1 l1 k1) (hl1 : s.heap.IsList l1 xs) (hx : xs[k1]? = none)
    (h : ∀ (h' : Heap) (e : Addr), (∀ c o, c ≠ z → c ≠ TO → c ≠ i1 → c ≠ i2 → s.heap.get? c = some o → h'.get? c = some o) → (∃ o, h'.get? e = some o ∧ o.cls = .type "StopIteration") → E (.ref e) { s with heap := h' }) :
    wpAny (model prog w) A (Builtin.«zip.__next__» ⟨[.ref z], []⟩) Q E s := by
  unfold Builtin.«zip.__next__»
  iterate 69 (first | wp_step | (refine wpAny_loadPart' hz ?_) | (refine wpAny_loadPart' h1 ?_) | (refine wpAny_loadPart' h2 ?_))
  refine wpAny_onRaise ?_
  show wpAny _ _ (do let v ← Builtin.SmallTypes.nextOf (.ref i1); pure (some v)) _ _ _
  have hs0 : Heap.SameBut z s.heap (s.heap.update z (Obj.mapFields fun x => x.setIfInBounds 0 Value.ellipsis)) := Heap.SameBut.update _ _ _
  have hz0 : (s.heap.update z (Obj.mapFields fun x => x.setIfInBounds 0 Value.ellipsis)).get? z = _ := Heap.get?_update_self _ hz rfl
  generalize s.heap.update z (Obj.mapFields fun x => x.setIfInBounds 0 Value.ellipsis) = h0 at hs0 hz0
  have e0 : ∀ b o, b ≠ z → s.heap.get? b = some o → h0.get? b = some o := fun b o hb e => (hs0.2 b hb).trans e
  have i10 : h0.IsListIter i1 l1 k1 := hi1.at fun o e => e0 _ o ap.i1z e
  have l10 : h0.IsList l1 xs := by
    obtain ⟨o, e, q⟩ := hl1
    exact ⟨o, e0 _ o ap.l1z e, q⟩
  refine wpAny_bind (wpAny_nextOf_list_end (s := { s with heap := h0 }) hh i10 l10 hx fun h3 e hs3 he => ?_)
  have hz3 : h3.get? z = _ := hs3 z _ ap.i1z.symm hz0
  obtain ⟨oe, he1, he2⟩ := he
  wp_walk using wpAny_loadPart' hz3
  have nez : z ≠ e := fun y => by
    rw [← y, hz3] at he1
    cases he1
    have he3 : Value.type "zip" = Value.type "StopIteration" := he2
    exact absurd he3 (by decide)
  exact h _ e (fun c o c1 c2 c3 c4 q => (Heap.get?_update_other _ _ (Ne.symm c1)).trans (hs3 c o c3 (e0 c o c1 q))) ⟨oe, (Heap.get?_update_other _ _ nez).trans he1, he2⟩
theorem zp_end {z TI TO i1 i2 l1 l2 : Addr} {a b : Value} {k1 : Nat} {xs : Array Value} {Q : Option Value → Shared → Prop} (hh : A.handled = none) (ap : ZipApart z TI TO i1 i2 l1 l2) (hz : IsZip s.heap z TI TO .none) (h1 : IsPair s.heap TI (.ref i1) (.ref i2)) (h2 : IsPair s.heap TO a b)
    (hi1 : s.heap.IsListIter i1 l1 k1) (hl1 : s.heap.IsList l1 xs) (hx : xs[k1]? = none)
    (h : ∀ h' : Heap, (∀ c o, c ≠ z → c ≠ TO → c ≠ i1 → c ≠ i2 → s.heap.get? c = some o → h'.get? c = some o) → Q none { s with heap := h' }) : wpAny (model prog w) A (pyNext (.ref z)) Q E s := by
  have sl := F.slot_zip_next
  have lk := sl.lookup
  have bd := sl.bind (.ref z)
  unfold pyNext callSpecial? specialOf
  wp_walk using wpAny_loadPart' hz
  refine codeAny_call_builtin sl.plain F.entry_zip_next (sl.check _ _ _ _ _ _ _ _ ⟨_, hz, rfl⟩ (F.args_zip_next_1 _) ?_)
  refine zn_end (A := A.in1) hh ap hz h1 h2 hi1 hl1 hx fun h' e hk he => ?_
  obtain ⟨⟨c, d, dt, sll⟩, he1, he2⟩ := he
  replace he2 : c = .type "StopIteration" := he2
  subst he2
  have ss := isSubtype_stop
  show wpAny _ _ (do
      let __do_lift ← isInstance (.ref e) (Value.type "StopIteration")
      if __do_lift = true then pure none else throw (.ref e)) _ _ _
  wp_walk using wpAny_loadPart' he1
  exact h h' hk
end
end L2
namespace L2
open PySem PySem.Spec PyProof.Rows
open AutoSeq1 (wpAny_loadPart')
section
variable {prog : Program} {w : World} {A : Around} {E : Value → Shared → Prop} {s : Shared}
abbrev zi1 (l1 : Addr) : Obj := { cls := .type "list_iterator", data := .fields #[.ref l1, .int 0 0] }
abbrev zi2 (l2 : Addr) : Obj := { cls := .type "tuple_iterator", data := .fields #[.ref l2, .int 0 0] }
abbrev zTI (n m : Nat) : Obj := { cls := .type "tuple", data := .seq #[.ref n, .ref m] }
abbrev zTO : Obj := { cls := .type "tuple", data := .seq #[.none, .none] }
abbrev zZ (n m : Nat) : Obj := { cls := .type "zip", data := .fields #[.none, .bool false, .bool false, .ref n, .ref m] }
abbrev zh2 (h : Heap) (l1 l2 : Addr) : Heap := (h.push (zi1 l1)).push (zi2 l2)
abbrev zh3 (h : Heap) (l1 l2 : Addr) : Heap := (zh2 h l1 l2).push (zTI h.objs.size (h.push (zi1 l1)).objs.size)
abbrev zh4 (h : Heap) (l1 l2 : Addr) : Heap := (zh3 h l1 l2).push zTO
abbrev zh5 (h : Heap) (l1 l2 : Addr) : Heap := (zh4 h l1 l2).push (zZ (zh2 h l1 l2).objs.size (zh3 h l1 l2).objs.size)
theorem zip_type (a b : Value) : checkTypeCall "zip" ⟨[a, b], []⟩ = pure () := by kernel_rfl
theorem zip_newc (a b : Value) : checkBuiltinCall "zip.__new__" ⟨[.type "zip", a, b], []⟩ = pure () := by kernel_rfl
theorem zip_init (o a b : Value) : argsOk "object.__init__" ⟨[o, a, b], []⟩ := by
  first | exact ⟨rfl⟩ | decide | (unfold argsOk; kernel_rfl) | trivial
theorem zip_new (l1 l2 : Addr) (xs ys : Array Value) :
    Meets (Builtin.«zip.__new__» ⟨[.type "zip", .ref l1, .ref l2], []⟩) (fun _ R s => s.heap.IsList l1 xs ∧ s.heap.IsTuple l2 ys ∧
      R (.ok (.ret (.ref (zh4 s.heap l1 l2).objs.size))) { s with heap := zh5 s.heap l1 l2 }) :=
  .of_wp fun prog w A R s h => by
    obtain ⟨hp0, g, d, tk, os⟩ := s
    obtain ⟨isl, ist, h⟩ := h
    have ist2 : Heap.IsTuple (Shared.heap ⟨(Shared.heap ⟨hp0, g, d, tk, os⟩).push { cls := .type "list_iterator", data := .fields #[.ref l1, .int 0 0] }, g, d, tk, os⟩) l2 ys := by
      obtain ⟨o, e, q⟩ := ist
      exact ⟨o, Heap.get?_push_of_some _ e, q⟩
    have sub := PySem.sub_zip
    wp_walk using wpAny_pyIter_list isl, wpAny_pyIter_tuple ist2
    exact ⟨_, rfl, h⟩
theorem zip_call {l1 l2 : Addr} {xs ys : Array Value} {Q : Value → Shared → Prop} (h1 : s.heap.IsList l1 xs) (h2 : s.heap.IsTuple l2 ys) (h : Q (.ref (zh4 s.heap l1 l2).objs.size) { s with heap := zh5 s.heap l1 l2 }) :
    wpAny (model prog w) A (call (.type "zip") [.ref l1, .ref l2]) Q E s := by
  refine en_made (Q1 := fun o s1 => s1.TypeIs o "zip" ∧ Q o s1) F.called_zip (zip_type _ _) (zip_newc _ _) F.entry_zip_new F.entry_object_init (zip_new l1 l2 xs ys) ⟨h1, h2, ?_⟩ fun o s1 hq =>
    ⟨hq.1, zip_init _ _ _, _, en_obj F.called_zip.init.lookup F.called_zip.made (by decide), hq.1, rfl, hq.2⟩
  exact ⟨⟨_, Heap.get?_push_size _ rfl, rfl⟩, h⟩
end
end L2
namespace L2
open PySem PySem.Spec PyProof.Rows
def Itz (K : PySem.W.Frag) (l1 l2 : Addr) : It :=
  ⟨fun i H => ∃ xs ys x y, SqL K H l1 xs ∧ SqT K H l2 ys ∧ xs[i]? = some x ∧ ys[i]? = some y,
   fun i H v H' => ∃ t x y, H t = none ∧ v = .ref t ∧ (∀ xs, SqL K H l1 xs → xs[i]? = some x) ∧ (∀ ys, SqT K H l2 ys → ys[i]? = some y) ∧ H' = upd H t (.tup [x, y]),
   fun i H => ∃ xs, SqL K H l1 xs ∧ xs.length = i⟩
theorem turn_zip {P : Program} {w : World} {K : PySem.W.Frag} {es : List Expr} {k : Nat} {tp : Pos} {z TI TO i1 i2 l1 l2 : Addr} (ap : ZipApart z TI TO i1 i2 l1 l2) :
    Turn P w K (.Tuple es k tp) (Itz K l1 l2) [z, TI, TO, i1, i2] z (fun i h => IsZip h z TI TO .none ∧ IsPair h TI (.ref i1) (.ref i2) ∧ (∃ a b, IsPair h TO a b) ∧ h.IsListIter i1 l1 i ∧ h.IsTupleIter i2 l2 i) where
  mem := by simp
  obj := fun i h st b hb => by
    obtain ⟨hz, h1, ⟨a, b', h2⟩, ⟨o1, e1, c1, d1⟩, ⟨o2, e2, c2, d2⟩⟩ := st
    simp only [List.mem_cons, List.not_mem_nil, or_false] at hb
    rcases hb with rfl | rfl | rfl | rfl | rfl
    · exact ⟨_, hz, fun v q => by cases q⟩
    · exact ⟨_, h1, fun v q => by cases q⟩
    · exact ⟨_, h2, fun v q => by cases q⟩
    · exact ⟨_, e1, fun v q => by rw [d1] at q; cases q⟩
    · exact ⟨_, e2, fun v q => by rw [d2] at q; cases q⟩
  keep := fun i h h' st kk => by
    obtain ⟨hz, h1, ⟨a, b', h2⟩, hi1, hi2⟩ := st
    exact ⟨kk z (by simp) _ hz, kk TI (by simp) _ h1, ⟨a, b', kk TO (by simp) _ h2⟩, hi1.at fun o q => kk i1 (by simp) o q, hi2.at fun o q => kk i2 (by simp) o q⟩
  item := by
    intro X hP hw hK hc i pins s σ H E I hf st hg
    subst hP hw hK
    obtain ⟨xs, ys, x, y, hq1, hq2, hx, hy⟩ := hg
    obtain ⟨its, rv, pl, hz0⟩ := I.list hq1
    obtain ⟨jts, rw', pt, hz1⟩ := I.tuple hq2
    obtain ⟨u, hu, ru⟩ := rv.get hx
    obtain ⟨v, hv, rv'⟩ := rw'.get hy
    obtain ⟨hz, h1, ⟨a, b', h2⟩, hi1, hi2⟩ := st
    refine zp_item ap hz h1 h2 hi1 hi2 pl.isList (show s.heap.IsTuple l2 jts.toArray from pt) (x := u) (y := v) (by simpa using hu) (by simpa using hv) fun h' kz kTO k1 k2 kp ksz kk => ?_
    refine ⟨_, rfl, wpAny_letOwnedTupleGo_zip (s := { s with heap := h' }) kz fun h3 kz3 hs3 => ?_⟩
    have hn : H s.heap.objs.size = none := I.fresh
    have hzl : z < s.heap.objs.size := Heap.lt_size hz
    have kp3 : ∀ b o, b ≠ z → b ≠ TO → b ≠ i1 → b ≠ i2 → s.heap.get? b = some o → h3.get? b = some o := fun b o q1 q2 q3 q4 e => (hs3.2 b q1).trans (kk b o q1 q2 q3 q4 e)
    have hT3 : h3.get? s.heap.objs.size = some { cls := .type "tuple", data := .seq #[u, v] } := (hs3.2 _ (Nat.ne_of_gt hzl)).trans kp
    have nf : ∀ b o, H b = some o → b ≠ z ∧ b ≠ TO ∧ b ≠ i1 ∧ b ≠ i2 := fun b o q => by
      refine ⟨fun e => ?_, fun e => ?_, fun e => ?_, fun e => ?_⟩ <;> (subst e; rw [(hf _ (by simp)).1] at q; cases q)
    have lt : ∀ b o, H b = some o → b ≠ s.heap.objs.size := fun b o q => Nat.ne_of_lt (I.hok.lt q)
    have hok : HOk X.prog X.w (upd H s.heap.objs.size (.tup [x, y])) h3 := fun b o q => by
      by_cases hb : b = s.heap.objs.size
      · subst hb
        rw [upd_same] at q
        cases q
        exact ⟨by show 2 ≤ _; decide, [u, v], .cons ru (.cons rv' .nil), ⟨_, hT3, rfl, _, rfl⟩⟩
      · rw [upd_ne hb] at q
        have kq : ∀ c w2, (∃ o2, H c = some o2) → s.heap.get? c = some w2 → h3.get? c = some w2 := fun c w2 ⟨o2, e2⟩ e => kp3 c w2 (nf c o2 e2).1 (nf c o2 e2).2.1 (nf c o2 e2).2.2.1 (nf c o2 e2).2.2.2 e
        refine (I.hok b o q).stay (fun c w2 hc2 e => ?_) (fun c e => by rw [upd_ne (lt c _ e)]; exact e) fun c zs e => by rw [upd_ne (lt c _ e)]; exact e
        rcases hc2 with rfl | hc2
        · exact kq _ _ ⟨_, q⟩ e
        · exact kq _ _ ⟨_, hc2⟩ e
    have old2 : ∀ b o, s.heap.get? b = some o → b ≠ s.heap.objs.size := fun b o q => Nat.ne_of_lt (Heap.lt_size q)
    have U : Un (frs X.stack) [z, TI, TO, i1, i2] H (upd H s.heap.objs.size (.tup [x, y])) s.heap h3 := by
      have kn : ∀ b o, b ∉ [z, TI, TO, i1, i2] → s.heap.get? b = some o → h3.get? b = some o := fun b o hb e => kp3 b o (fun q => hb (by simp [q])) (fun q => hb (by simp [q])) (fun q => hb (by simp [q])) (fun q => hb (by simp [q])) e
      exact ⟨fun b o q _ _ hb => kn b o hb q, fun b o q _ _ hb => ⟨o.slots, kn b o hb q⟩, fun b o q n hb => by rw [upd_ne (old2 b o q)]; exact n, fun b o q hb => ⟨o, kn b o hb q⟩, fun b zs q => by rw [upd_ne (lt b _ q)]; exact q, fun b o u2 q => by rw [upd_ne (lt b _ q)]; exact q, fun b ps q => ⟨#[], by rw [upd_ne (lt b _ q), q]; simp⟩⟩
    have I2 : Inv X pins σ (upd H s.heap.objs.size (.tup [x, y])) { s with heap := h3 } := I.call (g' := s.gens) (t' := s.toks) (d' := s.drawn) (ch := [z, TI, TO, i1, i2]) U hok I.bare fun b hb => by
      have f := hf b hb
      exact ⟨f.2.2.2.1, f.2.1, f.2.2.2.2.1, f.2.2.2.2.2⟩
    refine ⟨.ref s.heap.objs.size, _, I2, rfl, ⟨s.heap.objs.size, x, y, hn, rfl, fun zs hz5 => by rw [I.list_inj hz5 hq1]; exact hx, fun zs hz5 => by rw [I.tuple_inj hz5 hq2]; exact hy, rfl⟩, ⟨kz3, ?_, ⟨u, v, (hs3.2 _ ap.TOz).trans kTO⟩, k1.at fun o q => (hs3.2 _ ap.i1z).trans q, k2.at fun o q => (hs3.2 _ ap.i2z).trans q⟩, fun b hb => ?_⟩
    · exact kp3 _ _ ap.TIz ap.TITO ap.TIi1 ap.TIi2 h1
    · have f := (hf b hb).1
      have : ∃ o, s.heap.get? b = some o := by
        obtain ⟨o1, e1, _⟩ := hi1
        obtain ⟨o2, e2, _⟩ := hi2
        simp only [List.mem_cons, List.not_mem_nil, or_false] at hb
        rcases hb with rfl | rfl | rfl | rfl | rfl
        · exact ⟨_, hz⟩
        · exact ⟨_, h1⟩
        · exact ⟨_, h2⟩
        · exact ⟨_, e1⟩
        · exact ⟨_, e2⟩
      obtain ⟨o, q⟩ := this
      rw [upd_ne (old2 b o q)]
      exact f
  done := by
    intro X hP hw hK hc i pins s σ H E I hf st hg
    subst hP hw hK
    obtain ⟨xs, hq, hx⟩ := hg
    obtain ⟨its, rv, pl, hz0⟩ := I.list hq
    obtain ⟨hz, h1, ⟨a, b', h2⟩, hi1, hi2⟩ := st
    have hlen := rv.length
    refine zp_end (I.ok.hd hc) ap hz h1 h2 hi1 pl.isList (by simp; omega) fun h' kk => ⟨rfl, ?_⟩
    have nf : ∀ b o, H b = some o → b ≠ z ∧ b ≠ TO ∧ b ≠ i1 ∧ b ≠ i2 := fun b o q => by
      refine ⟨fun e => ?_, fun e => ?_, fun e => ?_, fun e => ?_⟩ <;> (subst e; rw [(hf _ (by simp)).1] at q; cases q)
    have kn : ∀ b o, b ∉ [z, TI, TO, i1, i2] → s.heap.get? b = some o → h'.get? b = some o := fun b o hb e => kk b o (fun q => hb (by simp [q])) (fun q => hb (by simp [q])) (fun q => hb (by simp [q])) (fun q => hb (by simp [q])) e
    have hok : HOk X.prog X.w H h' := fun b o q => by
      refine (I.hok b o q).stay (fun c w2 hc2 e => ?_) (fun _ e => e) fun _ _ e => e
      have kq : ∀ c w2, (∃ o2, H c = some o2) → s.heap.get? c = some w2 → h'.get? c = some w2 := fun c w2 ⟨o2, e2⟩ e => kk c w2 (nf c o2 e2).1 (nf c o2 e2).2.1 (nf c o2 e2).2.2.1 (nf c o2 e2).2.2.2 e
      rcases hc2 with rfl | hc2
      · exact kq _ _ ⟨_, q⟩ e
      · exact kq _ _ ⟨_, hc2⟩ e
    have U : Un (frs X.stack) [z, TI, TO, i1, i2] H H s.heap h' := ⟨fun b o q _ _ hb => kn b o hb q, fun b o q _ _ hb => ⟨o.slots, kn b o hb q⟩, fun b o q n hb => n, fun b o q hb => ⟨o, kn b o hb q⟩, fun _ _ q => q, fun _ _ _ q => q, fun b ps q => ⟨#[], by rw [q]; simp⟩⟩
    exact I.call (g' := s.gens) (t' := s.toks) (d' := s.drawn) (ch := [z, TI, TO, i1, i2]) U hok I.bare fun b hb => by
      have f := hf b hb
      exact ⟨f.2.2.2.1, f.2.1, f.2.2.2.2.1, f.2.2.2.2.2⟩
  self := fun _ _ _ _ _ st h => wpAny_pyIter_zip st.1 h
section
variable {X : Cx}
theorem bt_zip : bootBuiltins "zip" = some (.type "zip") := by decide +kernel
def iZip (K : PySem.W.Frag) (tl tp : TE) : TI := fun σ H R => tl σ H fun x H1 => tp σ H1 fun y H2 => ∃ a b : Addr, x = .ref a ∧ y = .ref b ∧ (∃ xs, SqL K H2 a xs) ∧ (∃ ys, SqT K H2 b ys) ∧ R (Itz K a b) H2
theorem pi_zip {l m : Expr} {tl tm : TE} {es : List Expr} {k : Nat} {tpos p pos : Pos} (hg : Gl X "zip") (hm : X.mg "zip" = none) (hl : PE X l tl) (hl2 : PE X m tm)
    (he : starEach [l, m] X.env = (false, eval l X.env) :: starEach [m] X.env := by rfl) (he2 : starEach [m] X.env = [(false, eval m X.env)] := by rfl) : PI X (.Tuple es k tpos) (.Call (.Name "zip" p) [l, m] [] pos) (iZip X.K tl tm) := by
  intro pins s σ H R I h
  refine wpAny_Call_Name_kw (ld_blt I hg hm bt_zip ?_)
  have hA : PA X [l, m] (tCons tl (tCons tm tNil)) := pa_cons hl (pa_cons hl2 pa_nil he2) he
  refine PyProof.Rows.callWith_type1 (thn (hA pos pins s σ H (fun vs H1 => match vs with
    | [x, y] => ∃ a b : Addr, x = .ref a ∧ y = .ref b ∧ (∃ xs, SqL X.K H1 a xs) ∧ (∃ ys, SqT X.K H1 b ys) ∧ R (Itz X.K a b) H1
    | _ => False) I h) fun us s1 ⟨vs, H1, I1, r1, q1⟩ => ?_) he (by rw [he2]; rfl)
  rcases vs with _ | ⟨x, _ | ⟨y, _ | ⟨x3, r3⟩⟩⟩
  · exact q1.elim
  · exact q1.elim
  · obtain ⟨u, u2, rfl, ra, rb⟩ := r1.two
    obtain ⟨a, b, e1, e2, ⟨xs, hq⟩, ⟨ys, hq2⟩, qq⟩ := q1
    subst e1 e2
    cases ra
    cases rb
    obtain ⟨its, rv, pl, hz⟩ := I1.list hq
    obtain ⟨jts, rv2, pt, hz2⟩ := I1.tuple hq2
    have la : a < s1.heap.objs.size := by
      obtain ⟨o, e, _⟩ := pl.isList
      exact Heap.lt_size e
    have lb : b < s1.heap.objs.size := by
      obtain ⟨o, e, _⟩ := (show s1.heap.IsTuple b jts.toArray from pt)
      exact Heap.lt_size e
    refine zip_call pl.isList (show s1.heap.IsTuple b jts.toArray from pt) ?_
    obtain ⟨n, hn⟩ : ∃ n, n = s1.heap.objs.size := ⟨_, rfl⟩
    have z1 : (s1.heap.push (zi1 a)).objs.size = n + 1 := by rw [Heap.size_push, hn]
    have z2 : (zh2 s1.heap a b).objs.size = n + 2 := by rw [Heap.size_push, z1]
    have z3 : (zh3 s1.heap a b).objs.size = n + 3 := by rw [Heap.size_push, z2]
    have z4 : (zh4 s1.heap a b).objs.size = n + 4 := by rw [Heap.size_push, z3]
    have k5 : ∀ c o, s1.heap.get? c = some o → (zh5 s1.heap a b).get? c = some o := fun c o e => Heap.get?_push_of_some _ (Heap.get?_push_of_some _ (Heap.get?_push_of_some _ (Heap.get?_push_of_some _ (Heap.get?_push_of_some _ e))))
    have g1 : (zh5 s1.heap a b).get? n = some (zi1 a) := by
      rw [hn]
      exact Heap.get?_push_of_some _ (Heap.get?_push_of_some _ (Heap.get?_push_of_some _ (Heap.get?_push_of_some _ (Heap.get?_push_size _ rfl))))
    have g2 : (zh5 s1.heap a b).get? (n + 1) = some (zi2 b) := by
      rw [← z1]
      exact Heap.get?_push_of_some _ (Heap.get?_push_of_some _ (Heap.get?_push_of_some _ (Heap.get?_push_size _ rfl)))
    have g3 : (zh5 s1.heap a b).get? (n + 2) = some (zTI n (n + 1)) := by
      rw [← z2, ← z1, hn]
      exact Heap.get?_push_of_some _ (Heap.get?_push_of_some _ (Heap.get?_push_size _ rfl))
    have g4 : (zh5 s1.heap a b).get? (n + 3) = some zTO := by
      rw [← z3]
      exact Heap.get?_push_of_some _ (Heap.get?_push_size _ rfl)
    have g5 : (zh5 s1.heap a b).get? (n + 4) = some (zZ (n + 2) (n + 3)) := by
      rw [← z4, ← z3, ← z2]
      exact Heap.get?_push_size _ rfl
    rw [z4]
    generalize zh5 s1.heap a b = h5 at k5 g1 g2 g3 g4 g5
    have na : ∀ k, a ≠ n + k := fun k => Nat.ne_of_lt (Nat.lt_of_lt_of_le la (by rw [hn]; exact Nat.le_add_right _ _))
    have nb : ∀ k, b ≠ n + k := fun k => Nat.ne_of_lt (Nat.lt_of_lt_of_le lb (by rw [hn]; exact Nat.le_add_right _ _))
    have nn : ∀ i j : Nat, i ≠ j → n + i ≠ n + j := fun i j h e => h (Nat.add_left_cancel e)
    have ap : ZipApart (n + 4) (n + 2) (n + 3) n (n + 1) a b := ⟨nn 2 4 (by decide), nn 3 4 (by decide), nn 0 4 (by decide), nn 1 4 (by decide), nn 2 3 (by decide), nn 2 0 (by decide), nn 2 1 (by decide), nn 3 0 (by decide), nn 3 1 (by decide), nn 0 1 (by decide), na 4, na 3, na 0, na 1, nb 4, nb 3, nb 0, nb 1⟩
    refine wpAny_pyIter_zip g5 ?_
    have fp : ∀ c, n ≤ c → FpOk X pins H1 c := fun c hc => I1.fpOk (by rw [← hn]; exact hc) (I1.hok.fresh (by rw [← hn]; exact hc))
    refine ⟨n + 4, [n + 4, n + 2, n + 3, n, n + 1], _, _, H1, rfl, I1.kept (t' := s1.toks) k5, turn_zip ap, ⟨g5, g3, ⟨.none, .none, g4⟩, ⟨_, g1, rfl, rfl⟩, ⟨_, g2, rfl, rfl⟩⟩, fun c hc => ?_, qq⟩
    simp only [List.mem_cons, List.not_mem_nil, or_false] at hc
    rcases hc with e | e | e | e | e
    · exact e ▸ fp _ (Nat.le_add_right n 4)
    · exact e ▸ fp _ (Nat.le_add_right n 2)
    · exact e ▸ fp _ (Nat.le_add_right n 3)
    · exact e ▸ fp _ (Nat.le_refl n)
    · exact e ▸ fp _ (Nat.le_add_right n 1)
  · exact q1.elim
end
end L2
namespace L2
open PySem PySem.Spec PyProof.Rows
section
variable {X : Cx}
theorem op_leS : OpR X (compareOp .LtE) (fun x y H Q => ∃ i j, x = .str i ∧ y = .str j ∧ Q (.bl (!decide (j.cps.toList < i.cps.toList))) H) := by
  intro pins s σ H x y v u Q I rx ry h
  obtain ⟨i, j, rfl, rfl, q⟩ := h
  obtain ⟨t, rfl⟩ := rx
  obtain ⟨t', rfl⟩ := ry
  exact PySem.P.le_str (fin_bl I q rfl)
theorem call_strA : CallR X (.type "str") (fun xs H Q => (∃ i, xs = [.int i] ∧ i.natAbs.log2 < 1920 ∧ Q (.str (toString i)) H) ∨ ∃ z, xs = [.str z] ∧ Q (.str z) H) := by
  intro pins s σ H xs us Q I r h
  rcases h with ⟨i, rfl, hz, q⟩ | ⟨z, rfl, q⟩
  · obtain ⟨u, rfl, t, rfl⟩ := vals1 r
    exact PySem.P.str_of_int hz ⟨.str _, H, I.tok _, ⟨_, rfl⟩, q⟩
  · obtain ⟨u, rfl, t, rfl⟩ := vals1 r
    exact PySem.P.str_of_str ⟨.str z, H, I, ⟨_, rfl⟩, q⟩
theorem call_intT : CallR X (.type "int") (fun xs H Q => ∃ z n, xs = [.str z] ∧ intText? z = some n ∧ z.length ≤ 640 ∧ Q (.int n) H) := by
  intro pins s σ H xs us Q I r h
  obtain ⟨z, n, rfl, hz, hl, q⟩ := h
  obtain ⟨u, rfl, t, rfl⟩ := vals1 r
  exact PySem.W.KIN.call_text hz hl ⟨.int n, H, I.tok _, ⟨_, rfl⟩, q⟩
theorem strs_of : ∀ {ws : List Str} {us : List Value}, Vals (ws.map V.str) us → StrsAre us ws
  | [], _, .nil => .nil
  | w :: ws, _, .cons r t => by
    obtain ⟨tk, rfl⟩ := r
    exact .cons w tk (strs_of t)
theorem mt_join : MtR X "str.join" (fun x vs H Q => ∃ sep l ws, x = .str sep ∧ vs = [.ref l] ∧ SqL X.K H l (ws.map V.str) ∧ (ws.map (·.length)).sum + ws.length * sep.length ≤ 16777216 ∧ Q (.str (Txt.join sep ws)) H) := by
  intro pins s σ H x vs v us Q I rx rv h
  obtain ⟨sep, l, ws, rfl, rfl, hq, hz, q⟩ := h
  obtain ⟨t, rfl⟩ := rx
  obtain ⟨u, rfl, ru⟩ := rv.one
  cases ru
  obtain ⟨its, r, pl, _⟩ := I.list hq
  exact PyProof.Rows.join_list pl.isList (strs_of (by simpa using r)) hz fun t' k => ⟨.str _, H, I.tok _, ⟨_, rfl⟩, q⟩
theorem vals_strsFrom : ∀ (ws : List Str) (n : Nat), Vals (ws.map V.str) (strsFrom n ws)
  | [], n => by
    rw [strsFrom.eq_1]
    exact .nil
  | w :: ws, n => by
    rw [strsFrom.eq_2]
    exact .cons ⟨_, rfl⟩ (vals_strsFrom ws (n + 1))
theorem mt_split : MtR X "str.split" (fun x vs H Q => ∃ z sep, x = .str z ∧ vs = [.str sep] ∧ sep.length ≠ 0 ∧ z.length + 2 ≤ sizeLine ∧ ∀ l, H l = none → Q (.ref l) (upd H l (.lst ((Txt.split z sep).map V.str)))) := by
  intro pins s σ H x vs v us Q I rx rv h
  obtain ⟨z, sep, rfl, rfl, hs, hz, q⟩ := h
  obtain ⟨t, rfl⟩ := rx
  obtain ⟨u, rfl, t2, rfl⟩ := rv.one
  have hs0 : (sep.length == 0) = false := by simpa using hs
  have itself : Txt.split z sep = [z] → EP X pins σ Q (.ref s.heap.objs.size) { s with heap := s.heap.push { cls := .type "list", data := .seq #[.str z t] } } := fun e => by
    have h1 : Vals [V.str z] [Value.str z t] := .cons ⟨t, rfl⟩ .nil
    have := q _ I.fresh
    rw [e] at this
    exact ⟨.ref _, _, I.lnew (t' := s.toks) h1 (by rw [sizeLine_eq]; show 1 ≤ _; decide), rfl, this⟩
  by_cases c1 : (decide (z.length < sep.length) || decide (Builtin.Str.strKind z < Builtin.Str.strKind sep)) = true
  · refine call_meets PySem.F.slot_str_split (typeIs_str s z t) PySem.F.entry_str_split (PySem.F.args_str_split_2 _ _) (meets_str_split_cannot_occur z sep t t2 c1) (itself ?_)
    unfold Txt.split
    rw [if_pos c1]
  · have c1' := Bool.eq_false_iff.mpr c1
    by_cases c2 : (Builtin.Str.occurrences z sep 0 z.length (z.length + 1)).isEmpty = true
    · refine call_meets PySem.F.slot_str_split (typeIs_str s z t) PySem.F.entry_str_split (PySem.F.args_str_split_2 _ _) (meets_str_split_not_found z sep t t2 c1' hs0 c2) (itself ?_)
      unfold Txt.split
      rw [if_neg c1, if_pos c2]
    · have c2' := Bool.eq_false_iff.mpr c2
      have e : Txt.split z sep = Builtin.Str.partsBetween z (Builtin.Str.occurrences z sep 0 z.length (z.length + 1)) sep.length := by
        unfold Txt.split
        rw [if_neg c1, if_neg c2]
      have hl : (Builtin.Str.partsBetween z (Builtin.Str.occurrences z sep 0 z.length (z.length + 1)) sep.length).length ≤ z.length + 2 := by
        have := len_le_of_split (l := (Txt.split z sep).map fun w => (w, 0)) (x := z) (y := sep) (by rw [List.map_map]; exact List.map_id _)
        rw [List.length_map, e] at this
        exact this
      refine call_meets PySem.F.slot_str_split (typeIs_str s z t) PySem.F.entry_str_split (PySem.F.args_str_split_2 _ _) (meets_str_split_sep z sep t t2 c1' hs0 c2' (by omega) (by omega)) ?_
      have := q _ I.fresh
      rw [e] at this
      exact ⟨.ref _, _, I.lnew (vals_strsFrom _ _) (by rw [List.length_map]; omega), rfl, this⟩
end
section
variable {X : Cx}
theorem bools_get {bs : List Bool} {us : List Value} (h : Vals (bs.map V.bl) us) {i : Nat} {v : Value} (hv : us[i]? = some v) : v = .bool (bs.getD i false) := by
  have hl := h.length
  rw [List.length_map] at hl
  have hi := (List.getElem?_eq_some_iff.mp hv).1
  obtain ⟨u, hu, ru⟩ := h.get (i := i) (x := V.bl (bs[i]'(by omega))) (by rw [List.getElem?_map, List.getElem?_eq_getElem (by omega)]; rfl)
  rw [hv] at hu
  cases hu
  have e : bs.getD i false = bs[i]'(by omega) := by simp [List.getD, show i < bs.length by omega]
  rw [e]
  cases ru
  rfl
theorem range_all (bs : List Bool) : ((List.range bs.length).all fun i => bs.getD i false) = bs.all id := by
  rw [Bool.eq_iff_iff, List.all_eq_true, List.all_eq_true]
  constructor
  · intro h x hx
    obtain ⟨i, hi, rfl⟩ := List.mem_iff_getElem.mp hx
    have := h i (List.mem_range.mpr hi)
    simpa [List.getD, hi] using this
  · intro h i hi
    have hi := List.mem_range.mp hi
    have := h _ (List.getElem_mem hi)
    simpa [List.getD, hi] using this
theorem range_any (bs : List Bool) : ((List.range bs.length).any fun i => bs.getD i false) = bs.any id := by
  rw [Bool.eq_iff_iff, List.any_eq_true, List.any_eq_true]
  constructor
  · rintro ⟨i, hi, h⟩
    have hi := List.mem_range.mp hi
    exact ⟨_, List.getElem_mem hi, by simpa [List.getD, hi] using h⟩
  · rintro ⟨x, hx, h⟩
    obtain ⟨i, hi, rfl⟩ := List.mem_iff_getElem.mp hx
    exact ⟨i, List.mem_range.mpr hi, by simpa [List.getD, hi] using h⟩
theorem call_allL (hc : X.calm = true) : CallR X (.builtin "all") (fun xs H Q => ∃ (p : Addr) (bs : List Bool), xs = [.ref p] ∧ SqL X.K H p (bs.map V.bl) ∧ Q (.bl (bs.all id)) H) := by
  intro pins s σ H xs us Q I r h
  obtain ⟨p, bs, rfl, hq, q⟩ := h
  obtain ⟨u, rfl, rx⟩ := vals1 r
  cases rx
  obtain ⟨its, rv, pl, hz⟩ := I.list hq
  have hlt : p < s.heap.objs.size := by
    obtain ⟨o, e, _⟩ := pl.isList
    exact Heap.lt_size e
  have hl := rv.length
  rw [List.length_map] at hl
  refine call_all_walk (wpAny_pyIter_list pl.isList ⟨s.heap.objs.size, _, _, _, _, _, fun i => bs.getD i false, rfl, Walks.list (A := X.A.in1) (I.ok.hd hc) s.heap.objs.size p (Nat.ne_of_lt hlt) its.toArray, ⟨⟨_, Heap.get?_push_size _ rfl, rfl, rfl⟩, ?_⟩, fun i v s' Q' E' hP hQ => ?_, fun h' tk hk => ?_⟩)
  · obtain ⟨o, e, q2⟩ := pl.isList
    exact ⟨o, Heap.get?_push_of_some _ e, q2⟩
  · have hP : its.toArray[i]? = some v := hP
    have hP2 : its[i]? = some v := by simpa using hP
    have ev := bools_get rv hP2
    subst ev
    exact wpAny_pure hQ
  · have e : its.toArray.size = bs.length := by simp [hl]
    rw [e, range_all]
    refine ⟨.bl _, H, I.kept (t' := tk) (fun b o hb => hk b o ?_ (Heap.get?_push_of_some _ hb)), rfl, q⟩
    intro z
    have z : b = s.heap.objs.size := by simpa using z
    exact absurd (Heap.lt_size hb) (by rw [z]; exact Nat.lt_irrefl _)
theorem call_anyL (hc : X.calm = true) : CallR X (.builtin "any") (fun xs H Q => ∃ (p : Addr) (bs : List Bool), xs = [.ref p] ∧ SqL X.K H p (bs.map V.bl) ∧ Q (.bl (bs.any id)) H) := by
  intro pins s σ H xs us Q I r h
  obtain ⟨p, bs, rfl, hq, q⟩ := h
  obtain ⟨u, rfl, rx⟩ := vals1 r
  cases rx
  obtain ⟨its, rv, pl, hz⟩ := I.list hq
  have hlt : p < s.heap.objs.size := by
    obtain ⟨o, e, _⟩ := pl.isList
    exact Heap.lt_size e
  have hl := rv.length
  rw [List.length_map] at hl
  refine call_any_walk (wpAny_pyIter_list pl.isList ⟨s.heap.objs.size, _, _, _, _, _, fun i => bs.getD i false, rfl, Walks.list (A := X.A.in1) (I.ok.hd hc) s.heap.objs.size p (Nat.ne_of_lt hlt) its.toArray, ⟨⟨_, Heap.get?_push_size _ rfl, rfl, rfl⟩, ?_⟩, fun i v s' Q' E' hP hQ => ?_, fun h' tk hk => ?_⟩)
  · obtain ⟨o, e, q2⟩ := pl.isList
    exact ⟨o, Heap.get?_push_of_some _ e, q2⟩
  · have hP : its.toArray[i]? = some v := hP
    have hP2 : its[i]? = some v := by simpa using hP
    have ev := bools_get rv hP2
    subst ev
    exact wpAny_pure hQ
  · have e : its.toArray.size = bs.length := by simp [hl]
    rw [e, range_any]
    refine ⟨.bl _, H, I.kept (t' := tk) (fun b o hb => hk b o ?_ (Heap.get?_push_of_some _ hb)), rfl, q⟩
    intro z
    have z : b = s.heap.objs.size := by simpa using z
    exact absurd (Heap.lt_size hb) (by rw [z]; exact Nat.lt_irrefl _)
end
end L2
namespace L2
open PySem PySem.Spec PyProof.Rows
open AutoSeq1 (wpAny_loadPart')
section
variable {prog : Program} {w : World} {A : Around} {E : Value → Shared → Prop} {s : Shared}
theorem find_at {es : Array DictEntry} {p : DictEntry → Bool} {v : Value} (h : (es.toList.find? p).map (·.val) = some v) : ∃ i, es.findIdx? p = some i ∧ (es[i]?).map (·.val) = some v := by
  obtain ⟨l⟩ := es
  cases e : l.find? p with
  | none => rw [show (Array.mk l).toList = l from rfl, e] at h; cases h
  | some x =>
    rw [show (Array.mk l).toList = l from rfl, e] at h
    cases h
    have h1 : p x = true := List.find?_some e
    have hm := List.mem_of_find?_eq_some e
    have hi : (l.findIdx? p).isSome = true := by
      rw [List.findIdx?_isSome, List.any_eq_true]
      exact ⟨x, hm, h1⟩
    obtain ⟨i, hi⟩ := Option.isSome_iff_exists.mp hi
    refine ⟨i, by simpa using hi, ?_⟩
    have h2 : l[i]? = some x := by
      have := List.find?_eq_getElem?_findIdx (p := p) (xs := l)
      have e3 := (List.findIdx?_eq_some_iff_findIdx_eq.mp hi).2
      rw [e3] at this
      rw [← this, e]
    show ((Array.mk l)[i]?).map (·.val) = _
    rw [List.getElem?_toArray, h2]
    rfl
theorem kd_get {δ : Type} {R : δ → Value → Prop} {a : Addr} {D : List (Str × δ)} {k : Str} {tk : Tok} {d : δ} {Q : Value → Shared → Prop} (ht : KTD.TabOf R s.heap a D) (hd : KTD.datumAt k D = some d)
    (h : ∀ v, R d v → Q v { s with toks := s.toks + 1 }) : wpAny (model prog w) A (call (.builtin "dict.get") [.ref a, .str k tk]) Q E s := by
  obtain ⟨hm, o, es, ep, ho, ex, hdt, hrows⟩ := ht
  obtain ⟨v, hv, hR⟩ := hrows.find_some hd
  obtain ⟨i, hi, hiv⟩ := find_at hv
  refine wpAny_call_entry PySem.F.slot_dict_get ⟨o, ho, ex.1⟩ PySem.F.entry_dict_get ?_ (PySem.F.args_dict_get_2 _ _)
  have hget : ∀ (Q' : Option Value → Shared → Prop) (E' : Value → Shared → Prop), Q' (some v) { s with toks := s.toks + 1 } → wpAny (model prog w) A.in1 (dictGet a (.str k tk)) Q' E' s := fun Q' E' hq => by
    unfold dictGet
    refine wpAny_holding (wpAny_bind (wpAny_pyHash_str (wpAny_bind (KTD.kt_dictFind_strs (s := { s with toks := s.toks + 1 }) ho hdt (by rw [← Array.all_toList]; exact hrows.exact) ?_))))
    rw [hi]
    refine wpAny_bind (wpAny_dictEntries (s := { s with toks := s.toks + 1 }) ho hdt (wpAny_pure ?_))
    rw [hiv]
    exact hq
  unfold Builtin.«dict.get»
  repeat (first | (refine hget _ _ ?_) | wp_step | (refine wpAny_loadPart' ho ?_))
  exact ⟨v, rfl, h v hR⟩
end
def TabK (K : PySem.W.Frag) (a : Addr) (D : List (Str × Addr)) : Prop := KTD.tabLook (fun (b : Addr) (v : Value) => v == .ref b) (fun b => K.lookup b) a D = true
theorem TabK.of {K : PySem.W.Frag} {a : Addr} {D : List (Str × Addr)} {h : Heap} (t : TabK K a D) (X : K.In h) : KTD.TabOf (fun (b : Addr) v => v = .ref b) h a D :=
  KTD.tab_of_look (L := fun (b : Addr) (v : Value) => v == .ref b) (fun d v e => by simpa using e) (fun b o e => X b o e) t
section
variable {X : Cx}
theorem mt_getK {a : Addr} {D : List (Str × Addr)} (t : TabK X.K a D) : MtR X "dict.get" (fun x vs H Q => ∃ k b, x = .ref a ∧ vs = [.str k] ∧ KTD.datumAt k D = some b ∧ Q (.ref b) H) := by
  intro pins s σ H x vs v us Q I rx rv h
  obtain ⟨k, b, rfl, rfl, hd, q⟩ := h
  cases rx
  obtain ⟨u, rfl, tk, rfl⟩ := rv.one
  refine kd_get (t.of fun c o e => I.kIn c o e) hd fun v e => ?_
  subst e
  exact ⟨.ref b, H, I.tok _, rfl, q⟩
def tGetK (a : Addr) (D : List (Str × Addr)) (td ty : TE) : TE := fun σ H Q => td σ H fun x H1 => x = .ref a ∧ ty σ H1 fun y H2 => ∃ k b, y = .str k ∧ KTD.datumAt k D = some b ∧ Q (.ref b) H2
end
def Its (z : Str) : It := ⟨fun i _ => i < z.cps.size, fun i H v H' => (∃ c, z.cps[i]? = some c ∧ v = .str ⟨#[c]⟩) ∧ H' = H, fun i _ => z.cps.size ≤ i⟩
theorem turn_str {P : Program} {w : World} {K : PySem.W.Frag} {tg : Expr} (z : Str) (t : Tok) (it : Addr) : Turn P w K tg (Its z) [it] it (fun i h => h.IsStrIter it "str_ascii_iterator" z t i) where
  mem := by simp
  obj := fun i h st b hb => by
    have e : b = it := by simpa using hb
    subst e
    obtain ⟨o, e, c, d⟩ := st
    exact ⟨o, e, fun v q => by rw [d] at q; cases q⟩
  keep := fun i h h' st k => by
    obtain ⟨o, e, c, d⟩ := st
    exact ⟨o, k it (by simp) o e, c, d⟩
  item := by
    intro X hP hw hK hc i pins s σ H E I hf st hg
    subst hP hw hK
    obtain ⟨f0, f1, f2, f3, f4, f5⟩ := hf it (by simp)
    have hg : i < z.cps.size := hg
    have hc' : z.cps[i]? = some z.cps[i] := by simp [hg]
    refine wpAny_pyNext_ascii_item st hc' fun h' st' sb => ?_
    have I1 : Inv X pins σ H { s with heap := h', toks := s.toks + 1 } := I.turned (fun b o hb e => (sb.2 b hb).trans e) f0 f1 f3 f4 f5
    obtain ⟨o, e, c, d⟩ := id st'
    exact ⟨_, rfl, go_of (s := { s with heap := h', toks := s.toks + 1 }) e c d (by decide) ⟨.str ⟨#[z.cps[i]]⟩, H, I1, ⟨_, rfl⟩, ⟨⟨_, hc', rfl⟩, rfl⟩, st', fun b hb => (hf b hb).1⟩⟩
  done := by
    intro X hP hw hK hc i pins s σ H E I hf st hg
    subst hP hw hK
    obtain ⟨f0, f1, f2, f3, f4, f5⟩ := hf it (by simp)
    have hg : z.cps.size ≤ i := hg
    exact wpAny_pyNext_ascii_end (I.ok.hd hc) st (by simp [hg]) fun h' eb => ⟨rfl, I.turned (t' := s.toks) (fun b o hb e => eb b o hb e) f0 f1 f3 f4 f5⟩
  self := fun _ _ _ _ _ st h => wpAny_pyIter_striter_ascii st h
section
variable {X : Cx}
def iStr (tl : TE) : TI := fun σ H R => tl σ H fun x H1 => ∃ z, x = .str z ∧ (z.cps.all fun x => decide (x < 128)) = true ∧ R (Its z) H1
theorem pi_str {tg l : Expr} {tl : TE} (hl : PE X l tl) : PI X tg l (iStr tl) := by
  intro pins s σ H R I h
  refine thn (hl pins s σ H _ I h) fun v s1 ⟨x, H1, I1, rx, z, ex, hz, q⟩ => ?_
  subst ex
  obtain ⟨t, rfl⟩ := rx
  refine wpAny_pyIter_ascii hz ⟨s1.heap.objs.size, [s1.heap.objs.size], _, _, H1, rfl, I1.kept (t' := s1.toks) (fun b o e => Heap.get?_push_of_some _ e), turn_str z t _, ⟨_, Heap.get?_push_size _ rfl, rfl, rfl⟩, fun b hb => ?_, q⟩
  have eb : b = s1.heap.objs.size := by simpa using hb
  subst eb
  exact I1.fpOk (Nat.le_refl _) (I1.hok.fresh (Nat.le_refl _))
end
theorem lc_str {z : Str} {fr : List Nat} {te : TE} {σ : St} {D : PySem.Addr} {Q : Hp → Prop} {H : Hp} (f : Nat → V) (hn : z.cps.size ≤ 1000)
    (he : ∀ (i c : Nat) (ys : List V) (R : VK), z.cps[i]? = some c → R (f c) (upd H D (.lst ys)) → te (lcSlots fr σ (some (.str ⟨#[c]⟩))) (upd H D (.lst ys)) R) (hq : Q (upd H D (.lst (z.cps.toList.map f)))) :
    lcLoop (Its z) fr (fun _ H Q => Q true H) te σ D Q (upd H D (.lst [])) := by
  refine ⟨fun i m H2 => m + i = z.cps.size ∧ H2 = upd H D (.lst ((z.cps.toList.take i).map f)), ⟨z.cps.size, rfl, rfl⟩, ?_⟩
  rintro i m H2 ⟨hm, rfl⟩
  cases m with
  | zero =>
    have e : i = z.cps.size := by omega
    subst e
    refine .inl ⟨Nat.le_refl _, ?_⟩
    rw [← Array.length_toList, List.take_length]
    exact hq
  | succ m =>
    have hi : i < z.cps.size := by omega
    refine .inr ⟨hi, fun v H' y => ?_⟩
    obtain ⟨⟨c, hc, rfl⟩, rfl⟩ := y
    refine iteT (he i c _ _ hc ⟨_, upd_same, small1000 (by simp; omega), m, by omega, by omega, ?_⟩)
    have h2 : z.cps.toList[i]? = some c := by simpa using hc
    rw [upd_upd, List.take_add_one, h2, List.map_append]
    rfl
theorem TabK.mk {K : PySem.W.Frag} {a : Addr} {D : List (Str × Addr)} {es : Array DictEntry} {ep : Nat} (h0 : (a == sysModules) = false) (h : K.lookup a = some ⟨.type "dict", none, .dict es ep, #[]⟩)
    (hr : KTD.rowsLook (fun (b : Addr) (v : Value) => v == .ref b) es.toList D = true) : TabK K a D := by
  unfold TabK KTD.tabLook
  show (!(a == sysModules) && (match K.lookup a with | some o => o.cls == .type "dict" && o.dict.isNone && o.slots.isEmpty && (match o.data with | .dict es _ => KTD.rowsLook (fun (b : Addr) (v : Value) => v == .ref b) es.toList D | _ => false) | none => false)) = true
  rw [h, h0]
  show (true && (((Value.type "dict" == Value.type "dict") && true && true) && KTD.rowsLook (fun (b : Addr) (v : Value) => v == .ref b) es.toList D)) = true
  rw [hr, beq_self_eq_true]
  rfl
theorem rows_cons {hash : Int} {x : Str} {t : Tok} {u : Addr} {es : List DictEntry} {D : List (Str × Addr)} (h : KTD.rowsLook (fun (b : Addr) (v : Value) => v == .ref b) es D = true) :
    KTD.rowsLook (fun (b : Addr) (v : Value) => v == .ref b) (⟨hash, .str x t, .ref u⟩ :: es) ((x, u) :: D) = true := by
  unfold KTD.rowsLook
  show (x == x && (Value.ref u == Value.ref u) && _) = true
  rw [h, beq_self_eq_true, beq_self_eq_true]
  rfl
end L2
namespace L2
open PySem PySem.Spec PyProof.Rows
def jn (c : Nat) : List (List Nat) → List Nat
  | [] => []
  | [a] => a
  | a :: b :: r => a ++ c :: jn c (b :: r)
theorem cut_one {c : Nat} : ∀ {a b s t : List Nat}, c ∉ a → c ∉ b → a ++ c :: s = b ++ c :: t → a = b ∧ s = t
  | [], [], _, _, _, _, h => by
    injection h with _ h2
    exact ⟨rfl, h2⟩
  | [], y :: b, _, _, _, hb, h => by
    injection h with h1 _
    exact absurd (h1 ▸ List.mem_cons_self ..) hb
  | x :: a, [], _, _, ha, _, h => by
    injection h with h1 _
    exact absurd (h1.symm ▸ List.mem_cons_self ..) ha
  | x :: a, y :: b, _, _, ha, hb, h => by
    injection h with h1 h2
    obtain ⟨e1, e2⟩ := cut_one (fun z => ha (List.mem_cons_of_mem _ z)) (fun z => hb (List.mem_cons_of_mem _ z)) h2
    exact ⟨by rw [h1, e1], e2⟩
theorem jn_inj {c : Nat} : ∀ {l m : List (List Nat)}, (∀ a ∈ l, c ∉ a) → (∀ a ∈ m, c ∉ a) → l ≠ [] → m ≠ [] → jn c l = jn c m → l = m
  | [], _, _, _, h, _, _ => absurd rfl h
  | _, [], _, _, _, h, _ => absurd rfl h
  | [a], [b], _, _, _, _, h => by
    have h : a = b := h
    rw [h]
  | [a], b :: b2 :: r, ha, _, _, _, h => by
    have h : a = b ++ c :: jn c (b2 :: r) := h
    exact absurd (by rw [h]; exact List.mem_append_right _ (List.mem_cons_self ..)) (ha a (List.mem_cons_self ..))
  | a :: a2 :: r, [b], _, hb, _, _, h => by
    have h : a ++ c :: jn c (a2 :: r) = b := h
    exact absurd (by rw [← h]; exact List.mem_append_right _ (List.mem_cons_self ..)) (hb b (List.mem_cons_self ..))
  | a :: a2 :: r, b :: b2 :: q, ha, hb, _, _, h => by
    have h : a ++ c :: jn c (a2 :: r) = b ++ c :: jn c (b2 :: q) := h
    obtain ⟨e1, e2⟩ := cut_one (ha a (List.mem_cons_self ..)) (hb b (List.mem_cons_self ..)) h
    have := jn_inj (fun x hx => ha x (List.mem_cons_of_mem _ hx)) (fun x hx => hb x (List.mem_cons_of_mem _ hx)) (by simp) (by simp) e2
    rw [e1, this]
theorem join_jn (c : Nat) : ∀ ws : List Str, ((⟨#[c]⟩ : Str).join ws).cps.toList = jn c (ws.map fun w => w.cps.toList)
  | [] => by
    rw [Str.join.eq_1]
    rfl
  | [x] => by
    rw [Str.join.eq_2]
    rfl
  | x :: y :: r => by
    rw [Str.join.eq_3 _ _ _ (by simp), Str.cps_append, Str.cps_append, Array.toList_append, Array.toList_append, join_jn c (y :: r)]
    show (x.cps.toList ++ [c]) ++ jn c (List.map (fun w => w.cps.toList) (y :: r)) = _
    rw [List.append_assoc]
    rfl
theorem str_toList {a b : Str} (h : a.cps.toList = b.cps.toList) : a = b := Str.ext' (Array.toList_inj.mp h)
theorem split_join {c : Nat} {ws : List Str} (hw : ∀ w ∈ ws, c ∉ w.cps.toList) (h0 : ws ≠ []) : Txt.split ((⟨#[c]⟩ : Str).join ws) ⟨#[c]⟩ = ws := by
  have h1 := StrLaws.join_split ((⟨#[c]⟩ : Str).join ws) ⟨#[c]⟩
  have h2 := StrLaws.split_free ((⟨#[c]⟩ : Str).join ws) c
  have h3 : Txt.split ((⟨#[c]⟩ : Str).join ws) ⟨#[c]⟩ ≠ [] := fun e => by
    have := len_of_split (l := (Txt.split ((⟨#[c]⟩ : Str).join ws) ⟨#[c]⟩).map fun w => (w, 0)) (x := (⟨#[c]⟩ : Str).join ws) (y := ⟨#[c]⟩) (by rw [List.map_map]; exact List.map_id _)
    rw [List.length_map, e] at this
    exact absurd this (by decide)
  generalize Txt.split ((⟨#[c]⟩ : Str).join ws) ⟨#[c]⟩ = L at h1 h2 h3
  have e : jn c (L.map fun w => w.cps.toList) = jn c (ws.map fun w => w.cps.toList) := by rw [← join_jn, ← join_jn, h1]
  have e2 := jn_inj (c := c) (l := L.map fun w => w.cps.toList) (m := ws.map fun w => w.cps.toList) (fun a ha => by
    obtain ⟨w, hw2, rfl⟩ := List.mem_map.mp ha
    exact h2 w hw2) (fun a ha => by
    obtain ⟨w, hw2, rfl⟩ := List.mem_map.mp ha
    exact hw w hw2) (by simpa using h3) (by simpa using h0) e
  have inj : ∀ {l m : List Str}, (l.map fun w => w.cps.toList) = (m.map fun w => w.cps.toList) → l = m := fun {l m} h => by
    induction l generalizing m with
    | nil => cases m with
      | nil => rfl
      | cons => cases h
    | cons x l ih => cases m with
      | nil => cases h
      | cons y m =>
        injection h with h1 h2
        rw [str_toList h1, ih h2]
  exact inj e2
theorem txt_join (sep : Str) (ws : List Str) : Txt.join sep ws = sep.join ws := StrLaws.glued_eq_join sep ws
def figs (n : Nat) : List Nat := (Nat.toDigits 10 n).map Char.toNat
theorem figs_str (n : Nat) : (Str.ofString (toString (n : Int))).cps.toList = figs n := by
  rw [Str.ofString_eq_toList]
  show (List.map Char.toNat (toString n).toList) = _
  rw [show toString n = String.ofList (Nat.toDigits 10 n) from rfl, String.toList_ofList]
  rfl
open PySem.NumText (AllDigits digitsVal)
theorem dg_len : ∀ (k n : Nat), n < 10 ^ (k + 1) → (Nat.toDigits 10 n).length ≤ k + 1
  | 0, n, h => by
    rw [Nat.toDigits_of_lt_base (by simpa using h)]
    exact Nat.le_refl _
  | k + 1, n, h => by
    by_cases c : n < 10
    · rw [Nat.toDigits_of_lt_base c]
      exact Nat.succ_le_succ (Nat.zero_le _)
    · have t : Nat.toDigits 10 (n / 10) ++ Nat.toDigits 10 (n % 10) = Nat.toDigits 10 (10 * (n / 10) + n % 10) := Nat.toDigits_append_toDigits (by decide) (by omega) (Nat.mod_lt _ (by decide))
      rw [Nat.div_add_mod] at t
      have h2 : n / 10 < 10 ^ (k + 1) := by rw [Nat.pow_succ] at h; omega
      have := dg_len k (n / 10) h2
      rw [← t, List.length_append, Nat.toDigits_of_lt_base (Nat.mod_lt _ (by decide))]
      exact Nat.succ_le_succ this
theorem dg_one (n : Nat) : 1 ≤ (Nat.toDigits 10 n).length := toDigits_len_ge 10 n
theorem digC {d : Nat} (h : d < 10) : (Nat.digitChar d).toNat = 48 + d := (by decide : ∀ d < 10, (Nat.digitChar d).toNat = 48 + d) d h
theorem dg_lead (n : Nat) : ((Nat.toDigits 10 n).map Char.toNat)[0]? = some 48 → n = 0 := by
  induction n using Nat.strongRecOn with
  | _ n ih =>
    intro h
    by_cases c : n < 10
    · rw [Nat.toDigits_of_lt_base c] at h
      have h : (Nat.digitChar n).toNat = 48 := by simpa using h
      rw [digC c] at h
      omega
    · have t : Nat.toDigits 10 (n / 10) ++ Nat.toDigits 10 (n % 10) = Nat.toDigits 10 (10 * (n / 10) + n % 10) := Nat.toDigits_append_toDigits (by decide) (by omega) (Nat.mod_lt _ (by decide))
      rw [Nat.div_add_mod] at t
      rw [← t, List.map_append, List.getElem?_append_left (by rw [List.length_map]; exact dg_one _)] at h
      have := ih (n / 10) (by omega) h
      omega
theorem dg_all (n : Nat) : AllDigits (figs n) := fun c hc => by
  obtain ⟨d, hd, e⟩ := List.mem_map.mp hc
  have r := digit_range (Nat.isDigit_of_mem_toDigits (by decide) (by decide) hd)
  rw [← e]
  exact r
def nt (n : Nat) : Str := Str.ofString (toString (n : Int))
def asc (z : Str) : Prop := (z.cps.all fun x => decide (x < 128)) = true
def figB (c : Nat) : Bool := decide (48 ≤ c) && decide (c ≤ 57)
def numB (z : Str) : Bool := decide (1 ≤ z.length) && decide (z.length ≤ 60) && !(decide (z.cps[0]? = some 48) && decide (1 < z.length)) && z.cps.toList.all figB
def numV (z : Str) : Nat := digitsVal z.cps.toList
def rootB (z : Str) : Bool := decide (z.length = 1) && (!decide (z.cps.toList < ("a" : Str).cps.toList) && !decide (("z" : Str).cps.toList < z.cps.toList))
theorem len_toList (z : Str) : z.cps.toList.length = z.length := Array.length_toList
theorem numB_all {z : Str} (h : numB z = true) : AllDigits z.cps.toList ∧ 1 ≤ z.length ∧ z.length ≤ 60 := by
  unfold numB at h
  rw [Bool.and_eq_true, Bool.and_eq_true, Bool.and_eq_true] at h
  obtain ⟨⟨⟨h1, h2⟩, _⟩, h4⟩ := h
  refine ⟨fun c hc => ?_, of_decide_eq_true h1, of_decide_eq_true h2⟩
  have := List.all_eq_true.mp h4 c hc
  unfold figB at this
  rw [Bool.and_eq_true] at this
  exact ⟨of_decide_eq_true this.1, of_decide_eq_true this.2⟩
theorem numB_int {z : Str} (h : numB z = true) : PySem.intText? z = some (numV z : Int) := by
  obtain ⟨h1, h2, h3⟩ := numB_all h
  refine PySem.intText_digits h1 (fun e => ?_) (by omega)
  have := len_toList z
  rw [e] at this
  simp at this
  omega
theorem nt_list (n : Nat) : (nt n).cps.toList = figs n := figs_str n
theorem nt_len {n : Nat} (h : n < 10 ^ 60) : (nt n).length ≤ 60 := by
  rw [← len_toList, nt_list]
  unfold figs
  rw [List.length_map]
  exact dg_len 59 n h
theorem nt_one (n : Nat) : 1 ≤ (nt n).length := by
  rw [← len_toList, nt_list]
  unfold figs
  rw [List.length_map]
  exact dg_one n
theorem numB_nt {n : Nat} (h : n < 10 ^ 60) : numB (nt n) = true := by
  unfold numB
  rw [decide_eq_true (nt_one n), decide_eq_true (nt_len h), Bool.true_and, Bool.true_and, Bool.and_eq_true]
  constructor
  · by_cases c : (nt n).cps[0]? = some 48
    · have e : n = 0 := dg_lead n (by
        have := nt_list n
        unfold figs at this
        rw [← this]
        simpa using c)
      subst e
      rw [show decide (1 < (nt 0).length) = false by decide +kernel, Bool.and_false]
      rfl
    · rw [decide_eq_false c]
      rfl
  · rw [nt_list, List.all_eq_true]
    intro c hc
    have := dg_all n c hc
    unfold figB
    rw [decide_eq_true this.1, decide_eq_true this.2]
    rfl
theorem numV_nt (n : Nat) : numV (nt n) = n := by
  unfold numV
  rw [nt_list]
  exact PySem.W.KIN.val_back n
theorem asc_dig {z : Str} (h : AllDigits z.cps.toList) : asc z := by
  unfold asc
  rw [Array.all_eq_true_iff_forall_mem]
  intro c hc
  have := h c (by simpa using hc)
  simp
  omega
theorem asc_nt (n : Nat) : asc (nt n) := asc_dig (by rw [nt_list]; exact dg_all n)
theorem nt_free (n c : Nat) (h : c < 48) : c ∉ (nt n).cps.toList := fun hc => by
  rw [nt_list] at hc
  have := dg_all n c hc
  omega
theorem in_fig {c : Nat} (h : c < 128) : (!(Builtin.Str.occurrences "0123456789" ⟨#[c]⟩ 0 ("0123456789" : Str).length 1).isEmpty) = figB c :=
  (by decide +kernel : ∀ c < 128, (!(Builtin.Str.occurrences "0123456789" ⟨#[c]⟩ 0 ("0123456789" : Str).length 1).isEmpty) = figB c) c h
theorem asc_lt {z : Str} (h : asc z) {i c : Nat} (hc : z.cps[i]? = some c) : c < 128 := by
  unfold asc at h
  rw [Array.all_eq_true_iff_forall_mem] at h
  simpa using h c (Array.mem_of_getElem? hc)
def partV (z sort : Str) : V := if sort = "root" then (if rootB z = true then .str z else .non) else if numB z = true then (if sort = "fields" ∧ 8 < numV z then .non else .int (numV z : Int)) else .non
theorem fold_join (s : Str) : ∀ (r : List Str) (x : Str), r.foldl (fun u v => u ++ s ++ v) x = s.join (x :: r)
  | [], x => by
    rw [Str.join.eq_2]
    rfl
  | y :: r, x => by
    rw [List.foldl_cons, fold_join s r, Str.join.eq_3 s x (y :: r) (by simp)]
    cases r with
    | nil => rw [Str.join.eq_2, Str.join.eq_2]
    | cons z r =>
      rw [Str.join.eq_3 s _ (z :: r) (by simp), Str.join.eq_3 s y (z :: r) (by simp)]
      apply str_toList
      simp only [Str.cps_append, Array.toList_append, List.append_assoc]
end L2
namespace L2
open PySem PySem.Spec PyProof.Rows
theorem Same.putD {H H3 : Hp} {D : PySem.Addr} {o : HO} (h : Same H H3) (hD : H D = none) : Same H (upd H3 D o) := fun b u e => by
  have n : b ≠ D := fun q => by rw [q, hD] at e; cases e
  rw [upd_ne n]
  exact h b u e
theorem Same.tseq {K : PySem.W.Frag} {H H' : Hp} {a : PySem.Addr} {xs : List V} (e : Same H H') (h : SqT K H a xs) : SqT K H' a xs := by
  rcases h with (h | ⟨o, h⟩) | h
  · exact .inl (.inl (e _ _ h))
  · exact .inl (.inr ⟨o, e _ _ h⟩)
  · exact .inr h
theorem lc_zip {K : PySem.W.Frag} {l1 l2 : PySem.Addr} {xs ys : List V} {fr : List Nat} {te : TE} {σ : St} {D : PySem.Addr} {Q : Hp → Prop} {H : Hp} (f : V → V → V) (hD : H D = none) (hx : SqL K H l1 xs) (hy : SqT K H l2 ys) (hl : xs.length = ys.length) (hz : xs.length ≤ 1000)
    (he : ∀ (i : Nat) x y (H2 : Hp) (R : VK), xs[i]? = some x → ys[i]? = some y → Same H H2 → (∀ H3, Same H2 H3 → R (f x y) H3) → te (lcSlots2 fr σ (some x) (some y)) H2 R) (hq : ∀ H2, Same H H2 → H2 D = some (.lst (List.zipWith f xs ys)) → Q H2) :
    lcLoop2 K (Itz K l1 l2) fr (fun _ H Q => Q true H) te σ D Q (upd H D (.lst [])) := by
  have hzl : (List.zipWith f xs ys).length = xs.length := by simp [hl]
  refine ⟨fun i m H2 => m + i = xs.length ∧ Same H H2 ∧ H2 D = some (.lst ((List.zipWith f xs ys).take i)), ⟨xs.length, rfl, .put hD, by simp [upd_same]⟩, ?_⟩
  rintro i m H2 ⟨hm, hs, hd⟩
  have hx2 := hs.seq hx
  have hy2 := hs.tseq hy
  cases m with
  | zero =>
    have e : i = xs.length := by omega
    subst e
    refine .inl ⟨⟨xs, hx2, rfl⟩, hq H2 hs ?_⟩
    rw [hd, ← hzl, List.take_length]
  | succ m =>
    have hi : i < xs.length := by omega
    have hi2 : i < ys.length := by omega
    refine .inr ⟨⟨xs, ys, xs[i], ys[i], hx2, hy2, List.getElem?_eq_getElem hi, List.getElem?_eq_getElem hi2⟩, fun v H' y => ?_⟩
    obtain ⟨t, x, y, ht, rfl, h1, h2, rfl⟩ := y
    have ex := h1 xs hx2
    have ey := h2 ys hy2
    refine ⟨t, x, y, rfl, .of upd_same, iteT ?_⟩
    refine he i x y _ _ ex ey (hs.trans (.put ht)) fun H3 hs3 => ?_
    have nt : D ≠ t := fun q => by rw [q, ht] at hd; cases hd
    have hd3 : H3 D = some (.lst ((List.zipWith f xs ys).take i)) := hs3 D _ (by rw [upd_ne nt]; exact hd)
    refine ⟨_, hd3, small1000 (by rw [List.length_take]; omega), m, by omega, by omega, Same.putD ((hs.trans (.put ht)).trans hs3) hD, ?_⟩
    have ez : (List.zipWith f xs ys)[i]? = some (f x y) := by rw [List.getElem?_zipWith, ex, ey]
    rw [upd_same, List.take_add_one, ez]
    rfl
theorem lc_tupS {K : PySem.W.Frag} {l : PySem.Addr} {xs : List V} {fr : List Nat} {te : TE} {σ : St} {D : PySem.Addr} {Q : Hp → Prop} {H : Hp} (ys : List V) (hD : H D = none) (hx : SqT K H l xs) (hl : ys.length = xs.length) (hz : xs.length ≤ 1000)
    (he : ∀ (i : Nat) x y (H2 : Hp) (R : VK), xs[i]? = some x → ys[i]? = some y → Same H H2 → (∀ H3, Same H2 H3 → R y H3) → te (lcSlots fr σ (some x)) H2 R) (hq : ∀ H2, Same H H2 → H2 D = some (.lst ys) → Q H2) :
    lcLoop (Itt K l) fr (fun _ H Q => Q true H) te σ D Q (upd H D (.lst [])) := by
  refine ⟨fun i m H2 => m + i = xs.length ∧ Same H H2 ∧ H2 D = some (.lst (ys.take i)), ⟨xs.length, rfl, .put hD, by simp [upd_same]⟩, ?_⟩
  rintro i m H2 ⟨hm, hs, hd⟩
  have hx2 := hs.tseq hx
  cases m with
  | zero =>
    have e : i = xs.length := by omega
    subst e
    refine .inl ⟨⟨xs, hx2, Nat.le_refl _⟩, hq H2 hs ?_⟩
    rw [hd, ← hl, List.take_length]
  | succ m =>
    have hi : i < xs.length := by omega
    have hi2 : i < ys.length := by omega
    refine .inr ⟨⟨xs, xs[i], hx2, List.getElem?_eq_getElem hi⟩, fun v H' y => ?_⟩
    obtain ⟨rfl, hv⟩ := y
    have ex := hv xs hx2
    refine iteT (he i v ys[i] _ _ ex (List.getElem?_eq_getElem hi2) hs fun H3 hs3 => ?_)
    refine ⟨_, hs3 D _ hd, small1000 (by rw [List.length_take]; omega), m, by omega, by omega, Same.putD (hs.trans hs3) hD, ?_⟩
    rw [upd_same, List.take_add_one, List.getElem?_eq_getElem hi2]
    rfl
theorem lc_lstS {K : PySem.W.Frag} {l : PySem.Addr} {xs : List V} {fr : List Nat} {te : TE} {σ : St} {D : PySem.Addr} {Q : Hp → Prop} {H : Hp} (ys : List V) (hD : H D = none) (hx : SqL K H l xs) (hl : ys.length = xs.length) (hz : xs.length ≤ 1000)
    (he : ∀ (i : Nat) x y (H2 : Hp) (R : VK), xs[i]? = some x → ys[i]? = some y → Same H H2 → (∀ H3, Same H2 H3 → R y H3) → te (lcSlots fr σ (some x)) H2 R) (hq : ∀ H2, Same H H2 → H2 D = some (.lst ys) → Q H2) :
    lcLoop (Itl K l) fr (fun _ H Q => Q true H) te σ D Q (upd H D (.lst [])) := by
  refine ⟨fun i m H2 => m + i = xs.length ∧ Same H H2 ∧ H2 D = some (.lst (ys.take i)), ⟨xs.length, rfl, .put hD, by simp [upd_same]⟩, ?_⟩
  rintro i m H2 ⟨hm, hs, hd⟩
  have hx2 := hs.seq hx
  cases m with
  | zero =>
    have e : i = xs.length := by omega
    subst e
    refine .inl ⟨⟨xs, hx2, Nat.le_refl _⟩, hq H2 hs ?_⟩
    rw [hd, ← hl, List.take_length]
  | succ m =>
    have hi : i < xs.length := by omega
    have hi2 : i < ys.length := by omega
    refine .inr ⟨⟨xs, xs[i], hx2, List.getElem?_eq_getElem hi⟩, fun v H' y => ?_⟩
    obtain ⟨rfl, hv⟩ := y
    have ex := hv xs hx2
    refine iteT (he i v ys[i] _ _ ex (List.getElem?_eq_getElem hi2) hs fun H3 hs3 => ?_)
    refine ⟨_, hs3 D _ hd, small1000 (by rw [List.length_take]; omega), m, by omega, by omega, Same.putD (hs.trans hs3) hD, ?_⟩
    rw [upd_same, List.take_add_one, List.getElem?_eq_getElem hi2]
    rfl
def strsOf : List Expr → Option (List Str)
  | [] => some []
  | .Constant (.str x) _ _ :: r => (strsOf r).map (x :: ·)
  | _ => none
def tStrs (ws : List Str) : TA := fun _ H Q => Q (ws.map V.str) H
theorem pa_strs {X : Cx} : ∀ {es : List Expr} {ws : List Str}, strsOf es = some ws → PA X es (tStrs ws)
  | [], ws, e => by
    cases e
    exact pa_nil
  | e :: r, ws, h => by
    unfold strsOf at h
    split at h
    · next h1 => cases h1
    · next x _ _ r' h1 =>
      cases h1
      cases h2 : strsOf r with
      | none =>
        rw [h2] at h
        cases h
      | some w2 =>
        rw [h2] at h
        cases h
        exact pa_cons pe_str (pa_strs h2)
    · cases h
theorem stT.strs {X : Cx} {i : Nat} {x : Str} {es : List Expr} {ws : List Str} {p1 p2 pos : Pos} {D : Ends} {σ : St} {H : Hp} (hN : X.N.Nodup) (hi : X.N[i]? = some x) (hx : Loc X.env.scope x) (he : strsOf es = some ws)
    (hs : swapsWith (.List es p2) (some (.Name x p1)) pos.line X.env = pure false) (hf : X.fn x = true ∨ X.env.scope.names.lookup x = some .local) (hl : ws.length ≤ 1000)
    (q : ∀ l, H l = none → D.nx (σ.set i (some (.ref l))) (upd H l (.lst (ws.map V.str)))) : stT X (.Assign [.Name x p1] (.List es p2) pos) D σ H := by
  refine stT.of (ps_set hN hi hx (pe_lst (pa_strs he)) hs hf) ?_
  refine ⟨?_, fun p hp => q p hp⟩
  rw [List.length_map]
  exact Nat.le_of_lt (small1000 hl)
def hid (D : PySem.Addr) (H : Hp) : Hp := fun b => if b = D then none else H b
theorem hid_ne {D b : PySem.Addr} {H : Hp} (h : b ≠ D) : hid D H b = H b := by unfold hid; rw [if_neg h]
theorem hid_same (D : PySem.Addr) (H : Hp) : Same (hid D H) H := fun b o e => by
  unfold hid at e
  split at e
  · cases e
  · exact e
theorem hid_upd (D : PySem.Addr) (H : Hp) (o : HO) : Same (hid D H) (hid D (upd H D o)) := fun b u e => by
  unfold hid at e ⊢
  split at e
  · cases e
  · next h => rw [if_neg h, upd_ne h]; exact e
theorem Same.hid {D : PySem.Addr} {H H' : Hp} (s : Same H H') : Same (hid D H) (hid D H') := fun b u e => by
  unfold L2.hid at e ⊢
  split at e
  · cases e
  · next h => rw [if_neg h]; exact s _ _ e
theorem lc_lstR {K : PySem.W.Frag} {l : PySem.Addr} {xs : List V} {fr : List Nat} {te : TE} {σ : St} {D : PySem.Addr} {Q : Hp → Prop} {H : Hp} (Rel : Nat → V → Hp → Prop) (mono : ∀ i y H H', Rel i y H → Same H H' → Rel i y H') (hD : H D = none) (hx : SqL K H l xs) (hz : xs.length ≤ 1000)
    (he : ∀ (i : Nat) x (H2 : Hp) (zs : List V) (R : VK), xs[i]? = some x → Same H H2 → H2 D = some (.lst zs) → (∀ y H3, Same H2 H3 → Rel i y (hid D H3) → R y H3) → te (lcSlots fr σ (some x)) H2 R)
    (hq : ∀ H2 (ys : List V), Same H H2 → H2 D = some (.lst ys) → ys.length = xs.length → (∀ (i : Nat) y, ys[i]? = some y → Rel i y H2) → Q H2) :
    lcLoop (Itl K l) fr (fun _ H Q => Q true H) te σ D Q (upd H D (.lst [])) := by
  refine ⟨fun i m H2 => m + i = xs.length ∧ Same H H2 ∧ ∃ ys, H2 D = some (.lst ys) ∧ ys.length = i ∧ ∀ (j : Nat) y, ys[j]? = some y → Rel j y (hid D H2), ⟨xs.length, rfl, .put hD, [], upd_same, rfl, fun j y e => by cases e⟩, ?_⟩
  rintro i m H2 ⟨hm, hs, ys, hd, hyl, hr⟩
  have hx2 := hs.seq hx
  cases m with
  | zero =>
    have e : i = xs.length := by omega
    exact .inl ⟨⟨xs, hx2, by omega⟩, hq H2 ys hs hd (by omega) fun j y e => mono _ _ _ _ (hr j y e) (hid_same D H2)⟩
  | succ m =>
    have hi : i < xs.length := by omega
    refine .inr ⟨⟨xs, xs[i], hx2, List.getElem?_eq_getElem hi⟩, fun v H' y => ?_⟩
    obtain ⟨rfl, hv⟩ := y
    have ex := hv xs hx2
    refine iteT (he i v _ ys _ ex hs hd fun y H3 hs3 hy => ?_)
    refine ⟨_, hs3 D _ hd, small1000 (by omega), m, by omega, by omega, Same.putD (hs.trans hs3) hD, _, upd_same, by rw [List.length_append, hyl]; rfl, fun j z ez => ?_⟩
    by_cases c : j < ys.length
    · rw [List.getElem?_append_left c] at ez
      exact mono _ _ _ _ (hr j z ez) (hs3.hid.trans (hid_upd D H3 _))
    · rw [List.getElem?_append_right (by omega)] at ez
      have hj := (List.getElem?_eq_some_iff.mp ez).1
      have e0 : j - ys.length = 0 := by simp at hj; omega
      rw [e0] at ez
      cases ez
      have : j = i := by omega
      subst this
      exact mono _ _ _ _ hy (hid_upd D H3 _)
end L2
namespace L2
open PySem PySem.Spec PyProof.Rows
section
variable {X : Cx}
def tFs (c : Str) (te : TE) : TE := fun σ H Q => c.length ≤ sizeLine ∧ te σ H fun v H1 => ∃ n : Int, v = .int n ∧ n.natAbs.log2 < 1920 ∧ (c ++ (Str.ofString (toString n))).length ≤ sizeLine ∧ Q (.str (c ++ Str.ofString (toString n))) H1
end
end L2
namespace L2
open PySem PySem.Spec PyProof.Rows
section
variable {M : Model} {A : Around} {E : Value → Shared → Prop} {s : Shared}
structure Lft (l : List Env) (e : Addr) (oe : Obj) (T0 : Option Addr) (h h' : Heap) : Prop where
  keep : ∀ b o, h.get? b = some o → b ∉ frs l → b ≠ e → some b ≠ T0 → h'.get? b = some o
  slot : ∀ b o, h.get? b = some o → b ∈ frs l → ∃ sl, h'.get? b = some { o with slots := sl }
  there : ∀ b o, h.get? b = some o → ∃ o', h'.get? b = some o'
  at_ : ∃ T oT ts, h.objs.size ≤ T ∧ h'.get? e = some (Obj.mapFields (·.setIfInBounds 1 (.ref T)) oe) ∧ h'.get? T = some oT ∧ oT.data = .fields ts ∧ ts[3]? = some .none
theorem entry_ok {base : Heap} {env : Env} {outer : List Env} {L e : Addr} {oe : Obj} {vs : Array Value} {head : Value} {hadNext : Bool} {T0 : Option Addr} {h0 : Heap} {Q : Unit → Shared → Prop}
    (hfr : A.frames = some (env :: outer)) (hl : s.heap.FunFrames base (env :: outer)) (hf : env.frame = some L)
    (he : s.heap.get? e = some oe) (hd : oe.data = .fields vs) (hsz : 1 < vs.size)
    (k0 : ∀ b o, h0.get? b = some o → some b ≠ T0 → s.heap.get? b = some o) (k1 : ∀ b o, h0.get? b = some o → ∃ o', s.heap.get? b = some o') (k2 : h0.objs.size ≤ s.heap.objs.size) (k3 : ∀ b ∈ frs (env :: outer), some b ≠ T0)
    (h : ∀ h', Lft (env :: outer) e oe T0 h0 h' → Q () { s with heap := h' }) :
    wpAny M A (do let a ← frameOf env; let pl ← entryPlaceOf L hadNext; let b ← EntryCells.newEntry head a .none (rawInt L) .none pl; setField (.ref e) 1 b) (fun _ s' => wpAny M A (setFlight (.ref e) none) Q E s') E s := by
  have hene : e ∉ (env :: outer).filterMap (·.frame) := fun hm => by
    obtain ⟨_, o, ho, hnf⟩ := hl.mem hm
    rw [he] at ho; injection ho with ho; subst ho; exact hnf vs hd
  refine wpAny_bind (wpAny_frameOf_fun hfr hl hf fun h₁ hs₁ => ?_)
  refine wpAny_bind (wpAny_entryPlaceOf fun pl hpl => ?_)
  unfold EntryCells.newEntry newFields
  refine wpAny_bind (wpAny_newObj_type ?_ (hpl.sizeOk5 _ _ _ _ _))
  have he₁ : h₁.get? e = some oe := (hs₁.2.1 e hene).trans he
  have he₂ := Heap.get?_push_of_some (h := h₁) { cls := .type "traceback", dict := none, data := .fields ([head, .ref L, .none, rawInt L, .none] ++ (if pl.isEmpty then List.replicate 6 Value.none else pl)).toArray } he₁
  refine wpAny_setField he₂ hd hsz ?_
  have hTe : h₁.objs.size ≠ e := Nat.ne_of_gt (Heap.lt_size he₁)
  have hd₃ := Obj.data_mapFields hd (·.setIfInBounds 1 (Value.ref h₁.objs.size))
  have he₃ := Heap.get?_update_self (Obj.mapFields (·.setIfInBounds 1 (Value.ref h₁.objs.size))) he₂ (Obj.isFreed_of_fields hd₃)
  have hT₃ := (Heap.get?_update_other (h₁.push { cls := .type "traceback", dict := none, data := .fields ([head, .ref L, .none, rawInt L, .none] ++ (if pl.isEmpty then List.replicate 6 Value.none else pl)).toArray })
    (Obj.mapFields (·.setIfInBounds 1 (Value.ref h₁.objs.size))) (Ne.symm hTe)).trans (Heap.get?_push_size h₁ rfl)
  unfold setFlight
  refine wpAny_bind (wpAny_field he₃ hd₃ (x := .ref h₁.objs.size) (by simp [hsz]) ?_)
  rw [if_pos (show (Value.ref h₁.objs.size != Value.none) = true from by simp)]
  refine wpAny_setField hT₃ rfl (by simp only [List.size_toArray, List.length_append, List.length_cons, List.length_nil] <;> omega) (h _ ?_)
  have keep : ∀ b o, b ≠ e → h₁.get? b = some o →
      (((h₁.push { cls := .type "traceback", dict := none, data := .fields ([head, .ref L, .none, rawInt L, .none] ++ (if pl.isEmpty then List.replicate 6 Value.none else pl)).toArray }).update e (Obj.mapFields (·.setIfInBounds 1 (Value.ref h₁.objs.size)))).update h₁.objs.size
        (Obj.mapFields (·.setIfInBounds 3 ((none : Option Addr).elim Value.none fun f => rawInt f)))).get? b = some o := fun b o hbe hb => by
    have hbT : h₁.objs.size ≠ b := Nat.ne_of_gt (Heap.lt_size hb)
    rw [Heap.get?_update_other _ _ hbT, Heap.get?_update_other _ _ (Ne.symm hbe)]
    exact Heap.get?_push_of_some _ hb
  have sz1 : s.heap.objs.size ≤ h₁.objs.size := Nat.le_of_eq hs₁.1.symm
  refine ⟨fun b o hb hfr hbe hT0 => ?_, fun b o hb hm => ?_, fun b o hb => ?_, ?_⟩
  · exact keep b o hbe ((hs₁.2.1 b hfr).trans (k0 b o hb hT0))
  · obtain ⟨sl, hs⟩ := hs₁.2.2 b o (k0 b o hb (k3 b hm))
    exact ⟨sl, keep b _ (fun q => hene (q ▸ hm)) hs⟩
  · obtain ⟨o', ho'⟩ := k1 b o hb
    obtain ⟨sl, hs⟩ := hs₁.2.2 b o' ho'
    by_cases hbe : b = e
    · subst hbe
      exact ⟨_, by rw [Heap.get?_update_other _ _ hTe]; exact he₃⟩
    · exact ⟨_, keep b _ hbe hs⟩
  · refine ⟨h₁.objs.size, _, _, by omega, ?_, Heap.get?_update_self _ hT₃ (Obj.isFreed_of_fields (Obj.data_mapFields rfl _)), Obj.data_mapFields rfl _, by first | (simp; done) | (rcases hpl with rfl | ⟨_, _, _, _, _, _, _, rfl⟩ <;> simp)⟩
    rw [Heap.get?_update_other _ _ hTe]; exact he₃
theorem leave1 {base : Heap} {env : Env} {outer : List Env} {L e : Addr} {oe : Obj} {vs : Array Value} {Q : Unit → Shared → Prop}
    (hfr : A.frames = some (env :: outer)) (hl : s.heap.FunFrames base (env :: outer)) (hf : env.frame = some L) (he : s.heap.get? e = some oe) (hd : oe.data = .fields vs) (h1 : vs[1]? = some .none)
    (h : ∀ h', Lft (env :: outer) e oe none s.heap h' → Q () { s with heap := h' }) : wpAny M A (leaving env (.ref e)) Q E s := by
  unfold leaving noteFrame
  simp only [hf]
  refine wpAny_bind (wpAny_bind (wpAny_field he hd h1 ?_))
  rw [if_neg (by decide)]
  exact entry_ok hfr hl hf he hd (Array.getElem?_eq_some_iff.mp h1).1 (fun b o e _ => e) (fun b o e => ⟨o, e⟩) (Nat.le_refl _) (fun _ _ => by simp) h
end
end L2
namespace L2
open PySem PySem.Spec PyProof.Rows
section
variable {prog : Program} {w : World} {A : Around} {R : Result → Shared → Prop} {h : Heap} {g : Array GenState} {d : Drawn} {t : Nat} {os : OsState}
variable {nm q : Str} {C N : Addr} {bs bm bmB : List Value} {hdct : Bool} {sn : List Str} {sub : List Value} {ab : Bool} {col : Option Bool} {dd : Option Addr} {k0 k1 k2 k3 k5 : Option Value} {B Bn newId nid initId inN : String} {bmN : List Value}
abbrev excNew (C a : Addr) : Obj := { cls := .ref C, data := .fields #[.ref a, .none, .none, .none, .bool false, .none] }
theorem xtype_call {E : Value → Shared → Prop} (Fn : ExcBaseFacts Bn newId inN bmN) (hBn : bmB.contains (.type Bn) = true) (F : ExcBaseFacts B nid initId bmB) (T : OwnTail h bmB bm) {rest : List Value} {init : Value} {Q : Fin → Shared → Prop}
    (hC : h.get? C = some (excClassObj nm q C N bs bm hdct sn sub ab col dd k0 k1 k2 k3 k5 newId)) (hi : PySem.W.Looks (model prog w) h (typeLookup (.ref C) "__init__") (some init))
    (hb : ∀ self, PySem.W.Looks (model prog w) h (bindSpecial init self) (init, [self])) (hrest : rest.length ≤ sizeLine)
    (hq : codeAny (model prog w) A (.call init ⟨.ref (h.objs.size + 1) :: rest, []⟩) (PySem.W.InitBack (h.objs.size + 1) fun r s' => match r with | .ok v => Q (.done v) s' | .error e => E e s') ⟨(h.push { cls := .type "tuple", data := .seq rest.toArray }).push (excNew C h.objs.size), g, d, t, os⟩) :
    wpAny (model prog w) A (Builtin.«type.__call__» ⟨.ref C :: rest, []⟩) Q E ⟨h, g, d, t, os⟩ := by
  repeat (first | with_reducible refine wpAny_loadPart_at hC ?_ | with_reducible refine wpAny_madeBy_exc hC ?_ | wp_step)
  refine codeAny_call_builtin_code (Code.quiet_builtin _ Fn.quiet) (wpAny_check_new_subU Fn hBn T hC ?_)
  refine codeAny_exc_new_subU Fn hBn F T hC ?_ hrest
  show wpAny _ _ _ _ _ _
  have k : ∀ b o, h.get? b = some o → ((h.push { cls := .type "tuple", data := .seq rest.toArray }).push { cls := .ref C, data := .fields #[.ref h.objs.size, .none, .none, .none, .bool false, .none] }).get? b = some o := fun b o e => Heap.get?_push_of_some _ (Heap.get?_push_of_some _ e)
  have hC₁ := k _ _ hC
  have hget : ((h.push { cls := .type "tuple", data := .seq rest.toArray }).push { cls := .ref C, data := .fields #[.ref h.objs.size, .none, .none, .none, .bool false, .none] }).get? (h.objs.size + 1) = some { cls := .ref C, data := .fields #[.ref h.objs.size, .none, .none, .none, .bool false, .none] } := by heap_get
  have hcC : (Value.ref C :: bm).contains (.ref C) = true := by simp
  have i1 := hi.keeps k
  have b1 := (hb (.ref (h.objs.size + 1))).keeps k
  unfold isInstance
  repeat (first | with_reducible refine wpAny_loadPart_at hget ?_ | (with_reducible refine wpAny_isSubtype_exc hC₁ ?_; rw [hcC]) | wp_step)
  show wpAny _ _ (typeLookup (.ref C) _) _ _ _
  refine i1 _ _ _ _ (fun b o e => e) ?_
  refine wpAny_holding (wpAny_bind (b1 _ _ _ _ (fun b o e => e) ?_))
  refine wpAny_bind (wpAny_call (codeAny_mono hq fun r s' z => ?_))
  rcases r with e | (v | _ | _ | _) <;> first | exact z | exact z.elim | skip
  obtain ⟨rfl, z⟩ := z
  exact wpAny_pure (wpAny_pure z)
theorem xmake_core (Fn : ExcBaseFacts Bn newId inN bmN) (hBn : bmB.contains (.type Bn) = true) (F : ExcBaseFacts B nid initId bmB) (T : OwnTail h bmB bm) {rest : List Value} {init : Value}
    (hC : h.get? C = some (excClassObj nm q C N bs bm hdct sn sub ab col dd k0 k1 k2 k3 k5 newId)) (hi : PySem.W.Looks (model prog w) h (typeLookup (.ref C) "__init__") (some init))
    (hb : ∀ self, PySem.W.Looks (model prog w) h (bindSpecial init self) (init, [self])) (hrest : rest.length ≤ sizeLine)
    (hq : codeAny (model prog w) (A.under (.builtin "type.__call__" ⟨.ref C :: rest, []⟩)) (.call init ⟨.ref (h.objs.size + 1) :: rest, []⟩) (PySem.W.InitBack (h.objs.size + 1) R) ⟨(h.push { cls := .type "tuple", data := .seq rest.toArray }).push (excNew C h.objs.size), g, d, t, os⟩) :
    codeAny (model prog w) A (.call (.ref C) ⟨rest, []⟩) R ⟨h, g, d, t, os⟩ := by
  have f1 := tc_lookup
  have f2 := tc_bind (.ref C)
  have hT : (⟨h, g, d, t, os⟩ : Shared).TypeIs (.ref C) "type" := ⟨_, hC, rfl⟩
  refine codeAny_of_tree ?_
  show wpAny _ _ (callAny (.ref C) _) _ _ _
  repeat (any_goals (first | assumption | with_reducible refine wpAny_loadPart_at hC ?_ | wp_step))
  refine ⟨rfl, ?_⟩
  refine codeAny_call_builtin_at (Code.quiet_builtin _ (by decide +kernel)) entry_typeCall (wpAny_check_type_call_sub hC (xtype_call Fn hBn F T hC hi hb hrest ?_))
  refine codeAny_mono hq fun r s' z => ?_
  rcases r with e | (v | _ | _ | _) <;> exact z
end
abbrev bmV : List Value := [.type "ValueError", .type "Exception", .type "BaseException", .type "object"]
section
variable {M : Model} {A : Around} {E : Value → Shared → Prop} {env : Env}
variable {nm q : Str} {C N : Addr} {bs bm : List Value} {hdct : Bool} {sn : List Str} {sub : List Value} {ab : Bool} {col : Option Bool} {dd : Option Addr} {k0 k1 k2 k3 k5 : Option Value} {newId : String}
variable {nm2 q2 : Str} {C2 N2 : Addr} {bs2 bm2 : List Value} {hdct2 : Bool} {sn2 : List Str} {sub2 : List Value} {ab2 : Bool} {col2 : Option Bool} {dd2 : Option Addr} {j0 j1 j2 j3 j5 : Option Value} {newId2 : String}
theorem x_match {h : Heap} {g : Array GenState} {d : Drawn} {t : Nat} {os : OsState} {e : Addr} {oe : Obj} {Q : Bool → Shared → Prop}
    (hC : h.get? C = some (excClassObj nm q C N bs bm hdct sn sub ab col dd k0 k1 k2 k3 k5 newId)) (hC2 : h.get? C2 = some (excClassObj nm2 q2 C2 N2 bs2 bm2 hdct2 sn2 sub2 ab2 col2 dd2 j0 j1 j2 j3 j5 newId2))
    (he : h.get? e = some oe) (hcls : oe.cls = .ref C) (hbase : bm2.contains (.type "BaseException") = true) (hq : Q ((Value.ref C :: bm).contains (.ref C2)) ⟨h, g, d, t, os⟩) : wpAny M A (excMatches (.ref e) (.ref C2)) Q E ⟨h, g, d, t, os⟩ := by
  have hcB : (Value.ref C2 :: bm2).contains (.type "BaseException") = true := by rw [List.contains_cons, hbase, Bool.or_true]
  have f := tc_notTuple
  obtain ⟨oc, od, dt, osl⟩ := oe
  obtain rfl : oc = .ref C := hcls
  unfold excMatches
  repeat (first | with_reducible refine wpAny_loadPart_at he ?_ | with_reducible refine wpAny_loadPart_at hC2 ?_ | (with_reducible refine wpAny_isSubtype_exc hC2 ?_; rw [hcB]) | (with_reducible refine wpAny_isSubtype_exc hC ?_) | wp_step)
  cases hb : (Value.ref C :: bm).contains (.ref C2) <;> (rw [hb] at hq; wp_walk; exact hq)
end
section
variable {prog : Program} {w : World} {A : Around} {E : Value → Shared → Prop} {h : Heap} {g : Array GenState} {d : Drawn} {t : Nat} {os : OsState}
variable {nm q : Str} {C N : Addr} {bs bm bmB : List Value} {hdct : Bool} {sn : List Str} {sub : List Value} {ab : Bool} {col : Option Bool} {dd : Option Addr} {k0 k1 k2 k3 k5 : Option Value} {B newId nid initId : String}
theorem x_init (F : ExcBaseFacts B nid initId bmB) (T : OwnTail h bmB bm) {e : Addr} {oe : Obj} {vs : Array Value} {rest : List Value} {Q : Value → Shared → Prop}
    (hC : h.get? C = some (excClassObj nm q C N bs bm hdct sn sub ab col dd k0 k1 k2 k3 k5 newId)) (he : h.get? e = some oe) (hcls : oe.cls = .ref C) (hd : oe.data = .fields vs) {a0 : Addr} (h0 : vs[0]? = some (.ref a0)) (hrest : rest.length ≤ sizeLine)
    (hq : Q .none ⟨(h.push { cls := .type "tuple", data := .seq rest.toArray }).update e (Obj.mapFields (·.setIfInBounds 0 (.ref h.objs.size))), g, d, t, os⟩) :
    wpAny (model prog w) A (call (.builtin initId) (.ref e :: rest)) Q E ⟨h, g, d, t, os⟩ := by
  obtain ⟨oc, od, dt, osl⟩ := oe
  obtain rfl : oc = .ref C := hcls
  obtain rfl : dt = .fields vs := hd
  have he2 := Heap.get?_push_of_some (h := h) { cls := .type "tuple", data := .seq rest.toArray } he
  refine wpAny_call (codeAny_call_builtin F.init.plain F.initEntry (wpAny_check_init_subU F T hC he rfl ?_))
  wp_walk
  simp only [h0]
  wp_walk
  rw [if_pos (Array.getElem?_eq_some_iff.mp h0).1]
  wp_walk
  exact hq
end
end L2
namespace L2
open PySem PySem.Spec PyProof.Rows
theorem refuse_bmV (self : Value) : PySem.refuseLoop self "__setattr__" bmV = pure () := by kernel_rfl
section
variable {K : PySem.W.Frag} {prog : Program} {w : World} {A : Around} {R : Result → Shared → Prop} {s : Shared} {x C Cb : Addr}
open PySem.W PySem.Builtin PySem.Builtin.ObjectAttr PySem.Builtin.Getset_descriptor in
theorem xosa_open {ox : Obj} {od : Option Obj} {name : Str} {tk : Tok} {v : Value} {cd : ClassData} (X : K.In s.heap) (I : InstAt s.heap x ox C od) (hc : clsIn K C = some cd) (hmro : cd.mro = .ref C :: .ref Cb :: bmV) (ht : takerIn K C name = some none)
    (h : ∀ b, wpAny (model prog w) A.in1 (storeInOwnDict (.ref x) (.ref C) (.str name tk) name v b)
      (fun fin s' => match fin with | .done f => R (.ok f) s' | .again c' => c'.quiet = true ∧ codeAny (model prog w) A c' R s') (fun e s' => R (.error e) s') s) :
    codeAny (model prog w) A (.call (.builtin "object.__setattr__") ⟨[.ref x, .str name tk, v], []⟩) R s := by
  have SF := PySem.F.store_object
  have sub : Looks (model prog w) s.heap (isInstance (.ref x) (.type "object")) true := I.type.andThen (looks_mroIn X (by unfold mroIn; rw [hc, Option.bind_some, hmro]; simp [bmV]))
  refine codeAny_call_builtin SF.slot.plain SF.entry (@check_slot (model prog w) _ _ s "object.__setattr__" "object" "__setattr__" (.ref x) [.str name tk, v] [] _ SF.kind SF.split sub (SF.args (.ref x) (.str name tk) v) ?_)
  obtain ⟨attr, ha, hr⟩ := Option.bind_eq_some_iff.mp ht
  have hm : Looks (model prog w) s.heap (mroOf (.ref C)) cd.mro := (looks_clsIn X hc).andThen .now
  have L3 : Looks (model prog w) s.heap (storeTaker? attr) none := by
    cases attr with
    | none => exact .now
    | some a =>
      obtain ⟨b, hb, e⟩ := Option.map_eq_some_iff.mp hr
      refine (looks_takesIn X hb).andThen ?_
      cases b
      · exact .now
      · cases e
  rw [osa_eq, refuse_eq]
  refine wpAny_bind (wpAny_bind (I.type.here (wpAny_bind (hm.here ?_))))
  rw [hmro, refuseLoop_ref, refuseLoop_ref, refuse_bmV]
  refine wpAny_pure (wpAny_bind (I.type.here (wpAny_bind ((looks_findIn X ha).here (wpAny_bind (L3.here ?_))))))
  exact h _
open PySem.W PySem.Builtin PySem.Builtin.ObjectAttr PySem.Builtin.Getset_descriptor in
theorem xset_new {h : Heap} {g : Array GenState} {d : Drawn} {t : Nat} {os : OsState} {E : Value → Shared → Prop} {vs : Array Value} {osl : Array (Option Value)} {name : Str} {v : Value} {cd : ClassData} {Q : Unit → Shared → Prop} (X : K.In h) (hx : h.get? x = some ⟨.ref C, none, .fields vs, osl⟩) (hc : clsIn K C = some cd) (hd : cd.hasDict = true) (hmro : cd.mro = .ref C :: .ref Cb :: bmV)
    (hs : findIn K (.ref C) "__setattr__" = some (some (.builtin "object.__setattr__"))) (ht : takerIn K C name = some none)
    (hq : ∀ h' mA, h'.Ns1 h.objs.size mA → (∀ y, mA y = if y = name then some v else none) → Heap.SameBut h.objs.size ((h.push { cls := .type "dict", data := .dict #[] }).update x fun o => { o with dict := some h.objs.size }) h' → ∀ tk, Q () ⟨h', g, d, tk, os⟩) :
    wpAny (model prog w) A (setAttr (.ref x) name v) Q E ⟨h, g, d, t, os⟩ := by
  have I : InstAt h x ⟨.ref C, none, .fields vs, osl⟩ C none := ⟨hx, rfl, rfl, trivial⟩
  refine set_plain X I hs (xosa_open X I hc hmro ht fun b => ?_)
  refine wpAny_bind (wpAny_pure (wpAny_bind (wpAny_bind (wpAny_loadPart hx (wpAny_bind ((looks_clsIn X hc).here ?_))))))
  rw [hd]
  rw [if_neg (by decide)]
  show wpAny (model prog w) A.in1 (do
    let d ← alloc { cls := Value.type "dict", data := Data.dict #[] }
    update x fun o => { o with dict := some d }
    dictMade (.ref C) x d) _ _ _
  have e1 : (h.push { cls := Value.type "dict", data := Data.dict #[] }).get? x = some ⟨.ref C, none, .fields vs, osl⟩ := Heap.get?_push_of_some _ hx
  have nx : h.objs.size ≠ x := Nat.ne_of_gt (Heap.lt_size hx)
  refine wpAny_bind (wpAny_alloc (wpAny_bind (wpAny_update e1 (wpAny_pure ?_))))
  have hD : ((h.push { cls := Value.type "dict", data := Data.dict #[] }).update x fun o => { o with dict := some h.objs.size }).get? h.objs.size = some { cls := Value.type "dict", data := Data.dict #[] } :=
    (Heap.get?_update_other _ _ nx.symm).trans (Heap.get?_push_size _ rfl)
  have ns0 : ((h.push { cls := Value.type "dict", data := Data.dict #[] }).update x fun o => { o with dict := some h.objs.size }).Ns1 h.objs.size (fun _ => none) := by
    refine .of_empty ⟨_, _, _, hD, rfl, ?_, ?_⟩
    · unfold StrKeys
      simp
    · exact fun _ => rfl
  refine wpAny_bind (wpAny_pure (wpAny_bind (wpAny_nsSet1 ns0 fun h' hn2 hs2 => ?_)))
  obtain ⟨oD, esD, epD, hoD, hdD, hcD⟩ := hn2.count (PySem.Within.cons name v (m := fun _ => none) (ns := []) (fun y hy => by simp at hy))
  refine wpAny_bind (wpAny_lookBehind hoD (by rw [hdD]; exact pastItsLine_dict (Nat.le_trans hcD (by rw [sizeLine_eq]; exact Nat.le_of_lt (by simp)))) ?_)
  exact wpAny_pure (hq _ _ hn2 (fun y => rfl) hs2 _)
open PySem.W PySem.Builtin PySem.Builtin.ObjectAttr PySem.Builtin.Getset_descriptor in
theorem xget {h : Heap} {g : Array GenState} {d : Drawn} {t : Nat} {os : OsState} {E : Value → Shared → Prop} {ox od : Obj} {name : Str} {v : Value} {cd : ClassData} {expr : Bool} {Q : Value → Shared → Prop} (X : K.In h) (I : InstAt h x ox C (some od)) (hc : clsIn K C = some cd) (hd : cd.hasDict = true) (hmro : cd.mro = .ref C :: .ref Cb :: bmV)
    (hga : findIn K (.ref C) "__getattribute__" = some (some (.builtin "BaseException.__getattribute__"))) (hgn : findIn K (.ref C) "__getattr__" = some none) (hrow : findIn K (.ref C) name = some none)
    (hl : lookIn name od = some (some v)) (hv : ∀ id, v ≠ .builtin id) (hq : ∀ tk, Q v ⟨h, g, d, tk, os⟩) :
    wpAny (model prog w) A (getAttr (.ref x) name expr) Q E ⟨h, g, d, t, os⟩ := by
  have f3 := PySem.F.attr_ValueError.ga.bind (.ref x)
  have hx0 : (expr && onTheHeap (Value.builtin "BaseException.__getattribute__")) = false := by cases expr <;> rfl
  have hx2 : (Value.builtin "BaseException.__getattribute__" == Value.builtin "object.__getattribute__") = false := by decide +kernel
  have hx1 : (onTheHeap (Value.ref C) && Value.builtin "BaseException.__getattribute__" == Value.builtin "object.__getattribute__") = false := by rw [hx2]; rfl
  have l1 := looks_findIn (M := model prog w) X hga
  have l2 := looks_findIn (M := model prog w) X hgn
  have l3 := looks_findIn (M := model prog w) X hrow
  have l4 := looks_own (M := model prog w) X I hc (name := name) (r := some v) (by unfold PySem.W.ownOf; rw [hd]; exact hl)
  have l5 := I.type (M := model prog w)
  have sub : Looks (model prog w) h (isInstance (.ref x) (.type "BaseException")) true := I.type.andThen (looks_mroIn X (by unfold mroIn; rw [hc, Option.bind_some, hmro]; simp [bmV]))
  unfold getAttr
  repeat (any_goals (first | assumption | with_reducible refine l5.here ?_ | with_reducible refine l1.here ?_ | with_reducible refine l2.here ?_ | wp_step))
  refine codeAny_call_builtin PySem.F.attr_ValueError.ga.plain PySem.F.entry_bexc_ga (@check_slot (model prog w) _ _ _ "BaseException.__getattribute__" "BaseException" "__getattribute__" (.ref x) [.str name t] [] _ (by decide +kernel) (by decide +kernel) sub (PySem.F.args_bexc_ga _ _) ?_)
  repeat (any_goals (first | assumption | with_reducible refine l5.here ?_ | with_reducible refine l3.here ?_ | with_reducible refine l4.here ?_ | wp_step))
  cases v <;> first | exact wpAny_pure (hq _) | exact absurd rfl (hv _)
open PySem.W PySem.Builtin PySem.Builtin.ObjectAttr PySem.Builtin.Getset_descriptor in
theorem xclass {h : Heap} {g : Array GenState} {d : Drawn} {t : Nat} {os : OsState} {E : Value → Shared → Prop} {ox : Obj} {od : Option Obj} {cd : ClassData} {Q : Option Value → Shared → Prop} (X : K.In h) (I : InstAt h x ox C od) (hc : clsIn K C = some cd) (hmro : cd.mro = .ref C :: .ref Cb :: bmV)
    (hga : findIn K (.ref C) "__getattribute__" = some (some (.builtin "BaseException.__getattribute__"))) (hgn : findIn K (.ref C) "__getattr__" = some none) (ha : findIn K (.ref C) "__class__" = some (some (.builtin "object.__class__")))
    (hn : specialIn K (.builtin "object.__class__") "__get__" = some (some (.builtin "getset_descriptor.__get__"))) (htk : takesIn K (.builtin "object.__class__") = some true) (hm : mroIn K C (.type "object") = some true)
    (hq : Q (some (.ref C)) ⟨h, g, d, t + 1, os⟩) :
    wpAny (model prog w) A (getAttr? (.ref x) "__class__") Q E ⟨h, g, d, t, os⟩ := by
  have f3 := PySem.F.attr_ValueError.ga.bind (.ref x)
  have hx2 : (Value.builtin "BaseException.__getattribute__" == Value.builtin "object.__getattribute__") = false := by decide +kernel
  have l1 := looks_findIn (M := model prog w) X hga
  have l2 := looks_findIn (M := model prog w) X hgn
  have l3 := looks_findIn (M := model prog w) X ha
  have l4 := looks_specialIn (M := model prog w) X hn
  have l5 := I.type (M := model prog w)
  have l6 := looks_takesIn (M := model prog w) X htk
  have sub : Looks (model prog w) h (isInstance (.ref x) (.type "BaseException")) true := I.type.andThen (looks_mroIn X (by unfold mroIn; rw [hc, Option.bind_some, hmro]; simp [bmV]))
  unfold getAttr? getAttrBy?
  repeat (any_goals (first | assumption | with_reducible refine l5.here ?_ | with_reducible refine l1.here ?_ | with_reducible refine l2.here ?_ | wp_step))
  refine codeAny_call_builtin PySem.F.attr_ValueError.ga.plain PySem.F.entry_bexc_ga (@check_slot (model prog w) _ _ _ "BaseException.__getattribute__" "BaseException" "__getattribute__" (.ref x) [.str "__class__" t] [] _ (by decide +kernel) (by decide +kernel) sub (PySem.F.args_bexc_ga _ _) ?_)
  repeat (any_goals (first | assumption | with_reducible refine l5.here ?_ | with_reducible refine l3.here ?_ | with_reducible refine l4.here ?_ | with_reducible refine l6.here ?_ | wp_step))
  refine class_get (s := ⟨h, g, d, t + 1, os⟩) (ox := ox) (od := od) X I hm ?_
  repeat (any_goals (first | assumption | wp_step))
open PySem.W in
theorem xkit {ox : Obj} {od : Option Obj} {cd : ClassData} (hc : clsIn K C = some cd) (hmro : cd.mro = .ref C :: .ref Cb :: bmV)
    (hga : findIn K (.ref C) "__getattribute__" = some (some (.builtin "BaseException.__getattribute__"))) (hgn : findIn K (.ref C) "__getattr__" = some none) (ha : findIn K (.ref C) "__class__" = some (some (.builtin "object.__class__")))
    (hn : specialIn K (.builtin "object.__class__") "__get__" = some (some (.builtin "getset_descriptor.__get__"))) (htk : takesIn K (.builtin "object.__class__") = some true) (hm : mroIn K C (.type "object") = some true) :
    KitX K (.ref x) (.ref C) (fun h => InstAt h x ox C od) where
  ty := fun _ _ _ I => I.type
  it := fun _ _ X _ => by
    unfold clsIn at hc
    split at hc
    · rename_i c' d' cd' sl' ho
      intro A' Q' E' s' k q
      unfold isType loadHead
      exact wpAny_bind (wpAny_loadPart (k _ _ (X _ _ ho)) (wpAny_pure q))
    · cases hc
  ne := fun h tp dd its n sl X htp => by
    refine Bool.eq_false_iff.mpr fun q => ?_
    have e : C = tp := Value.ref.inj (beq_iff_eq.mp q)
    subst e
    unfold clsIn at hc
    split at hc
    · rename_i c' d' cd' sl' ho
      have z := (X _ _ ho).symm.trans htp
      cases z
    · cases hc
  ca := fun {_ _ _ _ _ s} X I k => by
    obtain ⟨h, g, d, t, os⟩ := s
    exact xclass X I hc hmro hga hgn ha hn htk hm k
end
end L2
namespace L2
open PySem PySem.Spec PyProof.Rows
structure XCls (K : PySem.W.Frag) (C Cb : Addr) : Prop where
  lk : ∃ nm qn N bs sn sub ab col dd k0 k1 k2 k3 k5, K.lookup C = some (excClassObj nm qn C N bs (.ref Cb :: bmV) true sn sub ab col dd k0 k1 k2 k3 k5 "ValueError.__new__")
  lb : ∃ nm qn N bs hd sn sub ab col dd k0 k1 k2 k3 k5, K.lookup Cb = some (excClassObj nm qn Cb N bs bmV hd sn sub ab col dd k0 k1 k2 k3 k5 "ValueError.__new__")
  xb : PySem.W.excIn K Cb bmV "ValueError.__new__" = true
  sa : PySem.W.findIn K (.ref C) "__setattr__" = some (some (.builtin "object.__setattr__"))
  ga : PySem.W.findIn K (.ref C) "__getattribute__" = some (some (.builtin "BaseException.__getattribute__"))
  gn : PySem.W.findIn K (.ref C) "__getattr__" = some none
  cl : PySem.W.findIn K (.ref C) "__class__" = some (some (.builtin "object.__class__"))
  cg : PySem.W.specialIn K (.builtin "object.__class__") "__get__" = some (some (.builtin "getset_descriptor.__get__"))
  ct : PySem.W.takesIn K (.builtin "object.__class__") = some true
  mo : PySem.W.mroIn K C (.type "object") = some true
  kp : PySem.W.keepIn K (.ref C) = true
theorem XCls.data {K : PySem.W.Frag} {C Cb : Addr} (c : XCls K C Cb) : ∃ cd, PySem.W.clsIn K C = some cd ∧ cd.mro = .ref C :: .ref Cb :: bmV ∧ cd.hasDict = true := by
  obtain ⟨nm, qn, N, bs, sn, sub, ab, col, dd, k0, k1, k2, k3, k5, e⟩ := c.lk
  unfold PySem.W.clsIn
  rw [e]
  exact ⟨_, rfl, rfl, rfl⟩
theorem XCls.tail {K : PySem.W.Frag} {C Cb : Addr} {h : Heap} (c : XCls K C Cb) (X : K.In h) : OwnTail h bmV (.ref Cb :: bmV) := by
  obtain ⟨nm, qn, N, bs, hd, sn, sub, ab, col, dd, k0, k1, k2, k3, k5, e⟩ := c.lb
  have q := c.xb
  unfold PySem.W.excIn at q
  rw [e] at q
  simp only [excClassObj, Bool.and_eq_true, beq_iff_eq, Bool.not_eq_true'] at q
  exact .own (X _ _ e) (.of_isNs (PySem.W.isNs_of_in X q.1.2)) (PySem.W.nsMap_none_of_in X q.1.2 q.2) .base
def XOc (cb : Bool) (C x : Addr) (dx : Option Addr) (raw : Bool) (h : Heap) : Prop := ∃ vs sl a0, h.get? x = some ⟨.ref C, dx, .fields vs, sl⟩ ∧ vs[0]? = some (.ref a0) ∧ 4 < vs.size ∧ (raw = true → vs[1]? = some .none) ∧ (cb = true → vs[2]? = some .none)
abbrev XO (C x : Addr) (dx : Option Addr) (raw : Bool) : Heap → Prop := XOc true C x dx raw
theorem XO.ok {P : Program} {w : World} {H : Hp} {cb : Bool} {C x : Addr} {dx : Option Addr} {raw : Bool} {h : Heap} (e : XOc cb C x dx raw h) : ObjOk P w H h x (.ext (XOc cb C x dx raw)) := by
  refine ⟨e, ?_, fun h1 h2 z k => ?_⟩
  · obtain ⟨_, _, _, e, _⟩ := e
    exact ⟨_, e⟩
  · obtain ⟨vs, sl, a0, e, r⟩ := z
    exact ⟨vs, sl, a0, k _ e, r⟩
section
variable {X : Cx} {CX : CXT} {k : Nat} {f C Cb : Addr} {fd : FuncData} {ps : List Str} {sp : Sp} {dvs : List V} {ds : List Value} {E : XK} {x m : Str} {p pos apos : Pos} {e o : Expr} {es : List Expr} {ta : TE} {t : TA}
theorem Inv.xmade {pins : List (Addr × Obj)} {σ : St} {H : Hp} {s : Shared} {rest : List Value} (I : Inv X pins σ H s) : Inv X pins σ (upd H (s.heap.objs.size + 1) (.ext (XO C (s.heap.objs.size + 1) none true))) { s with heap := (s.heap.push { cls := .type "tuple", data := .seq rest.toArray }).push (excNew C s.heap.objs.size) } := by
  refine I.laid (t' := s.toks) (fun b u e => Heap.get?_push_of_some _ (Heap.get?_push_of_some _ e)) (Nat.le_succ _) (XO.ok ⟨#[.ref s.heap.objs.size, .none, .none, .none, .bool false, .none], #[], s.heap.objs.size, ?_, rfl, (by decide : 4 < 6), fun _ => rfl, fun _ => rfl⟩)
  heap_get
theorem run_xmake {pins : List (Addr × Obj)} {σ : St} {H : Hp} {s : Shared} {Q : VK} {us : List Value} {vs : List V} (c : XCls X.K C Cb) (hi : PySem.W.findIn X.K (.ref C) "__init__" = some (some (.ref f))) (hf : PySem.W.isFn X.K (.ref f) = true)
    (F : FnOk X.prog X.w X.K X.mg X.base CX k f fd ps sp) (hr : Room (k + 1) X.A) (hb : Binds X.K fd ps ds) (hd : Vals dvs ds)
    (hx : Passes CX X E) (I : Inv X pins σ H s) (r : Vals vs us) (hl0 : us.length ≤ sizeLine)
    (h : ∀ x, H x = none → sp (.ref x :: (vs ++ dvs)) (upd H x (.ext (XO C x none true))) (fun v H2 => v = .non ∧ Q (.ref x) H2) E) :
    wpAny (model X.prog X.w) X.A (call (.ref C) us) (EP X pins σ Q) X.xe s := by
  have hq := h (s.heap.objs.size + 1) (I.hok.fresh (Nat.le_succ _))
  have I2 := Inv.xmade (C := C) (rest := us) I
  have r2 : Vals (V.ref (s.heap.objs.size + 1) :: (vs ++ dvs)) (Value.ref (s.heap.objs.size + 1) :: (us ++ ds)) := .cons rfl (r.append hd)
  have hl : (Value.ref (s.heap.objs.size + 1) :: us ++ ds).length = ps.length := by
    have e := r2.length
    rw [F.len _ _ _ _ hq] at e
    exact e.symm
  obtain ⟨nm, qn, N, bs, sn, sub, ab, col, dd, k0, k1, k2, k3, k5, lk⟩ := c.lk
  obtain ⟨hh, g, d, tk, os⟩ := s
  refine wpAny_call (xmake_core PySem.F.excBase_ValueError (by decide +kernel) PySem.F.excBase_ValueError (c.tail I.kIn) (I.kIn _ _ lk) (PySem.W.looks_findIn I.kIn hi) (fun self => PySem.W.bind_fn I.kIn self (beq_iff_eq.mp hf)) hl0 (codeAny_mono (F.run _ X.stack _ _ ⟨Value.ref (hh.objs.size + 1) :: us, []⟩ (Value.ref (hh.objs.size + 1) :: (us ++ ds)) _ _ E (hr.make C us [])
    (I2.env0.make C us []) (hb _ (Value.ref (hh.objs.size + 1) :: us) I2.kIn hl) r2 hq) fun r s' hq' => ?_))
  cases r with
  | error e => exact hx pins σ _ _ e s' I2 hq'
  | ok fl =>
    cases fl with
    | ret u =>
      obtain ⟨v, H', I3, rv, ev, q3⟩ := I2.after hq'
      subst ev
      exact ⟨rv, ⟨V.ref (hh.objs.size + 1), H', I3, rfl, q3⟩⟩
    | next => exact False.elim hq'
    | brk => exact False.elim hq'
    | cont => exact False.elim hq'
def tXMake (C : Addr) (sp : Sp) (dvs : List V) (E : XK) (t : TA) : TE := fun σ H Q => t σ H fun vs H1 => vs.length ≤ 1000 ∧ ∀ x, H1 x = none → sp (.ref x :: (vs ++ dvs)) (upd H1 x (.ext (XO C x none true))) (fun v H2 => v = .non ∧ Q (.ref x) H2) E
theorem pe_xmake (c : XCls X.K C Cb) (hi : PySem.W.findIn X.K (.ref C) "__init__" = some (some (.ref f))) (hf : PySem.W.isFn X.K (.ref f) = true) (F : FnOk X.prog X.w X.K X.mg X.base CX k f fd ps sp) (hr : Room (k + 1) X.A) (hg : Gl X x) (hm : X.mg x = some (.ref C)) (hb : Binds X.K fd ps ds) (hd : Vals dvs ds) (hx : Passes CX X E)
    (ha : PA X (e :: es) t) (hdb : (x == ("__debug__" : Str)) = false := by decide) (he : starEach (e :: es) X.env = (false, eval e X.env) :: starEach es X.env := by rfl) (hpl : (backTo pos (starEach es X.env)).any (·.1) = false := by rfl) :
    PE X (.Call (.Name x p) (e :: es) [] pos) (tXMake C sp dvs E t) := by
  intro pins s σ H Q I h
  refine wpAny_Call_Name_kw (ld_glob I hg hm ?_ hdb)
  refine PySem.W.callWith_K (h₀ := X.base) I.ok.mod.kin c.kp (thn (ha pos pins s σ H _ I h) fun us s1 ⟨vs, H1, I1, r, hl, q⟩ => ⟨I1.kIn, ?_⟩) he hpl
  exact run_xmake c hi hf F hr hb hd hx I1 r (by rw [List.nil_append, ← r.length]; exact Nat.le_of_lt (small1000 hl)) q
theorem Inv.xput {pins : List (Addr × Obj)} {σ : St} {H : Hp} {s : Shared} {a dx : Addr} {φ : Heap → Prop} {o1 o2 : HO} {h' : Heap} {t' : Nat} (I : Inv X pins σ H s) (ea : H a = some (.ext φ)) (hdx : s.heap.objs.size ≤ dx)
    (k : ∀ b u, b ≠ a → s.heap.get? b = some u → h'.get? b = some u) (ha : ∃ u, h'.get? a = some u) (n1 : ObjOk X.prog X.w (upd (upd H a o1) dx o2) h' a o1) (n2 : ObjOk X.prog X.w (upd (upd H a o1) dx o2) h' dx o2) :
    Inv X pins σ (upd (upd H a o1) dx o2) { s with heap := h', toks := t' } := by
  have hn : H dx = none := I.hok.fresh hdx
  have nad : a ≠ dx := ne_of_none ea hn
  have old : ∀ b u, s.heap.get? b = some u → b ≠ dx := fun b u e => Nat.ne_of_lt (Nat.lt_of_lt_of_le (Heap.lt_size e) hdx)
  have at_ : ∀ b, b ≠ a → b ≠ dx → upd (upd H a o1) dx o2 b = H b := fun b h1 h2 => by rw [upd_ne h2, upd_ne h1]
  have nea : ∀ b u, H b = some u → (∀ φ, u ≠ .ext φ) → b ≠ a ∧ b ≠ dx := fun b u e ne => ⟨fun z => by rw [z, ea] at e; cases e; exact ne _ rfl, ne_of_none e hn⟩
  have nn : ∀ b, H b = none → b ≠ a := fun b e z => by rw [z, ea] at e; cases e
  refine I.un ⟨fun b u q n _ _ => k b u (nn b n) q, fun b u q n _ _ => ⟨u.slots, k b u (nn b n) q⟩, fun b u q n _ => by rw [at_ b (nn b n) (old b u q)]; exact n, fun b u q _ => ?_, fun b xs q => ?_, fun b u xs q => ?_, fun b ps q => ?_⟩ fun b u q => ?_
  · by_cases c : b = a
    · rw [c]; exact ha
    · exact ⟨u, k b u c q⟩
  · have := nea b _ q (fun _ => by simp)
    rw [at_ b this.1 this.2]; exact q
  · have := nea b _ q (fun _ => by simp)
    rw [at_ b this.1 this.2]; exact q
  · have := nea b _ q (fun _ => by simp)
    exact ⟨#[], by rw [at_ b this.1 this.2, q]; simp⟩
  · by_cases c2 : b = dx
    · subst c2
      rw [upd_same] at q
      cases q
      exact n2
    · by_cases c1 : b = a
      · subst c1
        rw [upd_ne c2, upd_same] at q
        cases q
        exact n1
      · rw [at_ b c1 c2] at q
        refine (I.hok b u q).stay (fun c v hc r => k c v ?_ r) (fun c r => ?_) fun c xs r => ?_
        · rcases hc with rfl | hc
          · exact c1
          · exact (nea c _ hc (fun _ => by simp)).1
        · have := nea c _ r (fun _ => by simp)
          rw [at_ c this.1 this.2]; exact r
        · have := nea c _ r (fun _ => by simp)
          rw [at_ c this.1 this.2]; exact r
def sXFld (K : PySem.W.Frag) (ta tv : TE) (f : Str) : TS := fun D σ H => tv σ H fun y H1 => ta σ H1 fun x H2 => ∃ a C Cb, x = .ref a ∧ H2 a = some (.ext (XO C a none true)) ∧ XCls K C Cb ∧ PySem.W.takerIn K C f = some none ∧
  ∀ dx, H2 dx = none → D.nx σ (upd (upd H2 a (.ext (XO C a (some dx) true))) dx (.xd [(f, y)]))
theorem ps_xset {value : Expr} {tv : TE} {g : Str} {pos' : Pos} (ha : PE X o ta) (hv : PE X value tv) (hs : swapsWith value (some (.Attribute o g pos')) pos.line X.env = pure false) : PS X (.Assign [.Attribute o g pos'] value pos) (sXFld X.K ta tv g) := by
  intro pins s σ H D I h
  refine plainObj_wpAny_Assign_Attribute (thn (hv pins s σ H _ I h) fun u s1 ⟨y, H1, I1, ry, q⟩ => thn (ha pins s1 σ H1 _ I1 q) fun ov s2 ⟨x, H2, I2, rx, a, C, Cb, ex, ea, c, tk, q2⟩ => ?_) hs
  subst ex
  obtain rfl : ov = Value.ref a := rx
  obtain ⟨⟨vs, sl, a0, e1, e2, e3, e4⟩, _, _⟩ := (show ObjOk X.prog X.w H2 s2.heap a (.ext (XO C a none true)) from I2.hok a _ ea)
  obtain ⟨cd, hc, hmro, hdct⟩ := c.data
  obtain ⟨hh, g', d, t', os⟩ := s2
  have nx : a ≠ hh.objs.size := Nat.ne_of_lt (Heap.lt_size e1)
  refine xset_new I2.kIn e1 hc hdct hmro c.sa tk fun h' mA n1 n2 sb tk2 => ?_
  have ka : h'.get? a = some ⟨.ref C, some hh.objs.size, .fields vs, sl⟩ := by
    rw [sb.2 a nx, Heap.get?_update_self _ (Heap.get?_push_of_some _ e1) rfl]
  have I3 := I2.xput (t' := tk2) (o1 := .ext (XO C a (some hh.objs.size) true)) (o2 := .xd [(g, y)]) ea (Nat.le_refl _) (h' := h') (fun b w hb q => by
    rw [sb.2 b (Nat.ne_of_lt (Heap.lt_size q)), Heap.get?_update_other _ _ (Ne.symm hb)]
    exact Heap.get?_push_of_some _ q) ⟨_, ka⟩ (XO.ok ⟨vs, sl, a0, ka, e2, e3, e4⟩) ⟨mA, n1, fun z => ?_⟩
  · exact ⟨σ, _, I3, q2 _ I2.fresh⟩
  · rw [n2 z]
    by_cases c2 : z = g
    · subst c2
      simp only [List.lookup, beq_self_eq_true, if_true]
      exact ry
    · have : (z == g) = false := beq_eq_false_iff_ne.mpr c2
      simp only [List.lookup, this, if_neg c2]
      trivial
theorem upd_id {H : Hp} {a : Addr} {o : HO} (h : H a = some o) : upd H a o = H := by
  funext b
  unfold upd
  split
  · next e => rw [e, h]
  · rfl
structure XInit (K : PySem.W.Frag) (Cb : Addr) : Prop where
  sp : PySem.W.specialIn K (.ref Cb) "__getattribute__" = some (some (.builtin "type.__getattribute__"))
  rd : PySem.W.readsIn K Cb (.type "type") = true
  fd : PySem.W.findCls K (.ref Cb) (.type "type") "__init__" = some (.val (.builtin "ValueError.__init__"))
def tXInit (K : PySem.W.Frag) (t : TA) : TE := fun σ H Q => t σ H fun vs H1 => ∃ a C Cb z dx, vs = [.ref a, .str z] ∧ H1 a = some (.ext (XO C a dx true)) ∧ XCls K C Cb ∧ Q .non H1
theorem pe_xinit {pl : Sem Bool} (he : PE X o (tC (.ref Cb))) (hm : XInit X.K Cb) (ha : PA X (e :: es) t)
    (hst : starEach (e :: es) X.env = (false, eval e X.env) :: starEach es X.env := by rfl) (hpl : (backTo pos (starEach es X.env)).any (·.1) = false := by rfl)
    (ht : eval (.Call (.Attribute o "__init__" apos) (e :: es) [] pos) X.env = (do
      let ov ← eval o X.env
      standAt apos.atName
      let (f, first) ← holding [ov] (getMethod ov "__init__" pl)
      callWith pos f first (backTo pos (starEach (e :: es) X.env)) (backToKw pos (keywordEach [] X.env))) := by rfl) :
    PE X (.Call (.Attribute o "__init__" apos) (e :: es) [] pos) (tXInit X.K t) := by
  intro pins s σ H Q I h
  refine PySem.W.methodCall_KW (pl := pl) (thn (he pins s σ H (fun v H1 => v = .ref Cb ∧ H1 = H) I ⟨rfl, rfl⟩) fun u s1 ⟨x, H1, I1, rx, ex, eH⟩ => ?_) ht
  subst ex
  subst eH
  obtain rfl : u = Value.ref Cb := rx
  refine PySem.W.method_cls I1.kIn hm.sp (PySem.W.cls_value I1.kIn hm.rd hm.fd rfl ?_)
  refine PyProof.Rows.callWith_builtin1 (thn (ha pos pins _ σ _ _ (I1.tok _) h) fun us s2 ⟨vs, H2, I2, r, a, C, Cb2, z, dx, ev, ea, c, q2⟩ => ?_) hst hpl
  subst ev
  obtain ⟨u1, u2, rfl, r1, r2⟩ := vals2 r
  cases (show u1 = Value.ref a from r1)
  obtain ⟨tk, rfl⟩ := (show ∃ tk, u2 = Value.str z tk from r2)
  obtain ⟨⟨ws, sl, a0, e1, e2, e3, e4⟩, _, _⟩ := (show ObjOk X.prog X.w H2 s2.heap a (.ext (XO C a dx true)) from I2.hok a _ ea)
  obtain ⟨nm, qn, N, bs, sn, sub, ab, col, dd, k0, k1, k2, k3, k5, lk⟩ := c.lk
  obtain ⟨hh, g', d, t', os⟩ := s2
  refine x_init PySem.F.excBase_ValueError (c.tail I2.kIn) (I2.kIn _ _ lk) e1 rfl rfl e2 (by show 1 ≤ sizeLine; decide) ?_
  have ne : a ≠ hh.objs.size := Nat.ne_of_lt (Heap.lt_size e1)
  have k1 := Heap.get?_update_self (Obj.mapFields (·.setIfInBounds 0 (.ref hh.objs.size))) (Heap.get?_push_of_some (h := hh) { cls := .type "tuple", data := .seq [Value.str z tk].toArray } e1) (Obj.isFreed_of_fields (Obj.data_mapFields rfl _))
  have I3 := I2.write (x := a) (e := a) (o := .ext (XO C a dx true)) (t' := t') (h' := (hh.push { cls := .type "tuple", data := .seq [Value.str z tk].toArray }).update a (Obj.mapFields (·.setIfInBounds 0 (.ref hh.objs.size)))) (by rw [ea]; exact True.intro) (.inl rfl)
    (fun b w hb q => by rw [Heap.get?_update_other _ _ (Ne.symm hb)]; exact Heap.get?_push_of_some _ q) ⟨_, k1⟩ (XO.ok ⟨ws.setIfInBounds 0 (.ref hh.objs.size), sl, hh.objs.size, k1, ?_, ?_, fun _ => ?_, fun _ => ?_⟩)
  · rw [upd_id ea] at I3
    exact ⟨.non, H2, I3, rfl, q2⟩
  · rw [Array.getElem?_setIfInBounds, if_pos rfl, if_pos (by omega)]
  · simpa using e3
  · rw [Array.getElem?_setIfInBounds_ne (by decide)]
    exact e4.1 rfl
  · rw [Array.getElem?_setIfInBounds_ne (by decide)]
    exact e4.2 rfl
end
end L2
namespace L2
open PySem PySem.Spec PyProof.Rows
def TBk (h : Heap) (H : Hp) (a : Addr) : Prop := ∃ o vs T oT ts, h.get? a = some o ∧ o.data = .fields vs ∧ vs[1]? = some (.ref T) ∧ T ≠ a ∧ h.get? T = some oT ∧ oT.data = .fields ts ∧ ts[3]? = some .none ∧ H T = none
def CX1 (P : Program) (w : World) : CXT := fun outer H s E e s' => ∃ a C dx cb H', e = .ref a ∧ s'.os = s.os ∧ AllBare s'.gens ∧ Un (frs outer) [] H H' s.heap s'.heap ∧ HOk P w H' s'.heap ∧ H' a = some (.ext (XOc cb C a (some dx) false)) ∧ TBk s'.heap H' a ∧ E (.ref C) (some a) H'
theorem frs_cons {env : Env} {outer : List Env} {L : Addr} (hf : env.frame = some L) : frs (env :: outer) = L :: frs outer := by
  unfold frs
  rw [List.filterMap_cons, hf]
theorem lft_un {P : Program} {w : World} {env : Env} {outer : List Env} {L e : Addr} {oe : Obj} {H0 H1 : Hp} {h0 h h' : Heap} {φ : Heap → Prop} {o1 : HO} {T0 : Option Addr} (u : Un (frs outer) [] H0 H1 h0 h) (hok : HOk P w H1 h) (l : Lft (env :: outer) e oe T0 h h') (hf : env.frame = some L) (hL : h0.objs.size ≤ L)
    (he : H1 e = some (.ext φ)) (ht : ∀ T, T0 = some T → H1 T = none ∧ h0.objs.size ≤ T) (hfr : ∀ b ∈ frs (env :: outer), H1 b = none) (n1 : ObjOk P w (upd H1 e o1) h' e o1) : Un (frs outer) [] H0 (upd H1 e o1) h0 h' ∧ HOk P w (upd H1 e o1) h' := by
  have lt0 : ∀ b o, h0.get? b = some o → b ≠ L ∧ some b ≠ T0 := fun b o q => by
    have hb := Heap.lt_size q
    refine ⟨Nat.ne_of_lt (Nat.lt_of_lt_of_le hb hL), fun z => ?_⟩
    exact absurd hb (Nat.not_lt.mpr (ht b z.symm).2)
  have nfr : ∀ b, b ≠ L → b ∉ frs outer → b ∉ frs (env :: outer) := fun b h1 h2 z => by
    rw [frs_cons hf] at z
    rcases List.mem_cons.mp z with z | z
    · exact h1 z
    · exact h2 z
  have ne : ∀ b, H1 b = none → b ≠ e := fun b q z => by rw [z, he] at q; cases q
  have nea : ∀ b u, H1 b = some u → (∀ φ, u ≠ .ext φ) → b ≠ e := fun b u q n z => by rw [z, he] at q; cases q; exact n _ rfl
  refine ⟨⟨fun b o q n hb hx => ?_, fun b o q n hb hx => ?_, fun b o q n hx => ?_, fun b o q hx => ?_, fun b xs q => ?_, fun b o xs q => ?_, fun b ps q => ?_⟩, fun b o q => ?_⟩
  · have h1 := u.keep b o q n hb hx
    exact l.keep b o h1 (nfr b (lt0 b o q).1 hb) (ne b (u.free b o q n hx)) (lt0 b o q).2
  · obtain ⟨sl, h1⟩ := u.slot b o q n hb hx
    obtain ⟨sl2, h2⟩ := l.slot b _ h1 (by rw [frs_cons hf]; exact List.mem_cons_of_mem _ hb)
    exact ⟨sl2, h2⟩
  · have h1 := u.free b o q n hx
    rw [upd_ne (ne b h1)]
    exact h1
  · obtain ⟨o', h1⟩ := u.there b o q hx
    exact l.there b o' h1
  · have h1 := u.tups b xs q
    rw [upd_ne (nea b _ h1 (fun _ => by simp))]
    exact h1
  · have h1 := u.frzs b o xs q
    rw [upd_ne (nea b _ h1 (fun _ => by simp))]
    exact h1
  · obtain ⟨more, h1⟩ := u.tbls b ps q
    exact ⟨more, by rw [upd_ne (nea b _ h1 (fun _ => by simp))]; exact h1⟩
  · by_cases c : b = e
    · subst c
      rw [upd_same] at q
      cases q
      exact n1
    · rw [upd_ne c] at q
      have tr : ∀ c2 v, H1 c2 = some v → c2 ≠ e → ∀ o, h.get? c2 = some o → h'.get? c2 = some o := fun c2 v q2 ce o q3 => by
        refine l.keep c2 o q3 (fun z => ?_) ce fun z => ?_
        · rw [hfr c2 z] at q2
          cases q2
        · rw [(ht c2 z.symm).1] at q2
          cases q2
      refine (hok b o q).stay (fun c2 v hc r => ?_) (fun c2 r => ?_) fun c2 xs r => ?_
      · rcases hc with rfl | hc
        · exact tr _ _ q c v r
        · exact tr _ _ hc (nea c2 _ hc (fun _ => by simp)) v r
      · rw [upd_ne (nea c2 _ r (fun _ => by simp))]
        exact r
      · rw [upd_ne (nea c2 _ r (fun _ => by simp))]
        exact r
theorem lft_xo {cb : Bool} {l : List Env} {C e : Addr} {dx : Option Addr} {vs : Array Value} {sl : Array (Option Value)} {a0 : Addr} {T0 : Option Addr} {h h' : Heap} {H : Hp} (x : Lft l e ⟨.ref C, dx, .fields vs, sl⟩ T0 h h') (h0 : vs[0]? = some (.ref a0)) (hz : 4 < vs.size) (hcb : cb = true → vs[2]? = some .none) (he : e < h.objs.size) (hn : ∀ T, h.objs.size ≤ T → H T = none) :
    XOc cb C e dx false h' ∧ TBk h' H e := by
  obtain ⟨T, oT, ts, hT, h1, h2, h3, h4⟩ := x.at_
  have h1 : h'.get? e = some ⟨.ref C, dx, .fields (vs.setIfInBounds 1 (.ref T)), sl⟩ := h1
  refine ⟨⟨_, _, a0, h1, ?_, by simpa using hz, fun z => (by cases z), fun z => ?_⟩, ⟨_, _, T, oT, ts, h1, rfl, ?_, Nat.ne_of_gt (Nat.lt_of_lt_of_le he hT), h2, h3, h4, hn T hT⟩⟩
  · rw [Array.getElem?_setIfInBounds_ne (by decide)]
    exact h0
  · rw [Array.getElem?_setIfInBounds_ne (by decide)]
    exact hcb z
  · rw [Array.getElem?_setIfInBounds, if_pos rfl, if_pos (by omega)]
section
variable {P : Program} {w : World} {K : PySem.W.Frag} {mg : Str → Option Value} {base : Heap}
def sRaise (K : PySem.W.Frag) (E : XK) (te : TE) : TS := fun _ σ H => te σ H fun v H1 => ∃ a C Cb dx, v = .ref a ∧ XCls K C Cb ∧ H1 a = some (.ext (XO C a (some dx) true)) ∧ E (.ref C) (some a) (upd H1 a (.ext (XO C a (some dx) false)))
theorem raise_out {N : List Str} {qual : Str} {scope : Scope} {f : Addr} {cd : Value} {A : Around} {outer : List Env} {s0 s : Shared} {H0 H : Hp} {E : XK} {pins : List (Addr × Obj)} {σ : St} {a C dx : Addr}
    (I : Inv (cxOf (CX1 P w) P w K mg base N qual scope f cd A outer s0 H0 E) pins σ H s) (ea : H a = some (.ext (XO C a (some dx) true))) (hE : E (.ref C) (some a) (upd H a (.ext (XO C a (some dx) false)))) :
    (cxOf (CX1 P w) P w K mg base N qual scope f cd A outer s0 H0 E).xe (.ref a) s := by
  obtain ⟨⟨vs, sl, a0, e1, e2, e3, e4⟩, _, _⟩ := (show ObjOk P w H s.heap a (.ext (XO C a (some dx) true)) from I.hok a _ ea)
  refine leave1 (base := base) I.ok.frames I.stack rfl e1 rfl (e4.1 rfl) fun h' l => ?_
  obtain ⟨x1, x2⟩ := lft_xo (cb := true) (H := upd H a (.ext (XO C a (some dx) false))) l e2 e3 (fun _ => e4.2 rfl) (Heap.lt_size e1) fun T hT => by
    rw [upd_ne (Nat.ne_of_gt (Nat.lt_of_lt_of_le (Heap.lt_size e1) hT))]
    exact I.hok.fresh hT
  obtain ⟨u1, u2⟩ := lft_un (P := P) (w := w) (o1 := .ext (XO C a (some dx) false)) I.base I.hok l rfl (Nat.le_refl _) ea (fun T z => by cases z) I.stkFree (XO.ok x1)
  exact ⟨a, C, dx, true, _, rfl, I.os, I.bare, u1, u2, upd_same, x2, hE⟩
theorem x_raise2 {M : Model} {A : Around} {E : Value → Shared → Prop} {env : Env} {s : Shared} {x : Sem Value} {Q : Flow → Shared → Prop} (hh : A.handled = none)
    (h : wpAny M A x (fun v s₁ => ∃ C nm q N bs bm hdct sn sub ab col dd k0 k1 k2 k3 k5 newId e oe vs, v = .ref e ∧ List.contains bm (.type "BaseException") = true ∧ s₁.heap.get? C = some (excClassObj nm q C N bs bm hdct sn sub ab col dd k0 k1 k2 k3 k5 newId) ∧
      s₁.heap.get? e = some oe ∧ oe.cls = .ref C ∧ oe.data = .fields vs ∧ vs[1]? = some .none ∧ E (.ref e) s₁) E s) :
    wpAny M A (raiseStmt env (some x) none) Q E s := by
  unfold raiseStmt
  refine wpAny_bind (wpAny_mono h (fun v s₁ h₁ => ?_) fun _ _ x => x)
  obtain ⟨C, nm, q, N, bs, bm, hdct, sn, sub, ab, col, dd, k0, k1, k2, k3, k5, newId, e, oe, vs, rfl, hbase, hC, he, hcls, hd, h1, hE⟩ := h₁
  have hcB : (Value.ref C :: bm).contains (.type "BaseException") = true := by rw [List.contains_cons, hbase, Bool.or_true]
  obtain ⟨oc, od, dt, osl⟩ := oe
  obtain rfl : oc = .ref C := hcls
  obtain rfl : dt = .fields vs := hd
  obtain ⟨hp, g, d, tk, os⟩ := s₁
  repeat (first | with_reducible refine wpAny_loadPart_at he ?_ | with_reducible refine wpAny_loadPart_at hC ?_ | (with_reducible refine wpAny_isSubtype_exc hC ?_; rw [hcB]) | (with_reducible refine wpAny_field he rfl h1 ?_) | wp_step)
  exact wpAny_raiseNew_none hh hE
theorem ps_xraise {N : List Str} {qual : Str} {scope : Scope} {f : Addr} {cd : Value} {A : Around} {outer : List Env} {s0 : Shared} {H0 : Hp} {E : XK} {e : Expr} {te : TE} {pos : Pos}
    (he : PE (cxOf (CX1 P w) P w K mg base N qual scope f cd A outer s0 H0 E) e te) : PS (cxOf (CX1 P w) P w K mg base N qual scope f cd A outer s0 H0 E) (.Raise (some e) none pos) (sRaise K E te) := by
  intro pins s σ H D I h
  rw [arm_exec_Raise]
  refine wpAny_bind (wpAny_standAt ?_)
  simp only [evalOpt, Option.map]
  refine x_raise2 (I.ok.hd rfl) (wpAny_bind (thn (he pins s σ H _ I h) fun u s1 ⟨x, H1, I1, rx, a, C, Cb, dx, ex, c, ea, hE⟩ => wpAny_bind (wpAny_standAt (wpAny_pure ?_))))
  subst ex
  obtain rfl : u = Value.ref a := rx
  obtain ⟨⟨vs, sl, a0, e1, e2, e3, e4⟩, _, _⟩ := (show ObjOk P w H1 s1.heap a (.ext (XO C a (some dx) true)) from I1.hok a _ ea)
  obtain ⟨nm, qn, N', bs, sn, sub, ab, col, dd, k0, k1, k2, k3, k5, lk⟩ := c.lk
  exact ⟨C, nm, qn, N', bs, .ref Cb :: bmV, true, sn, sub, ab, col, dd, k0, k1, k2, k3, k5, "ValueError.__new__", a, _, vs, rfl, by simp [bmV], I1.kIn _ _ lk, e1, rfl, rfl, e4.1 rfl, raise_out I1 ea hE⟩
theorem Fun.okX {x qual : Str} {st : Stmt} {f : Addr} {fd : FuncData} {N ps : List Str} {k : Nat} {sp : Sp} (F : Fun K x qual st f fd) (S : FnScope N ps (defScope st)) (len : ∀ vs H Q E, sp vs H Q E → vs.length = ps.length)
    (hbody : ∀ (cdv : Value) (A : Around) (outer : List Env) (s : Shared) (H : Hp) (vs : List V) (Q : VK) (E : XK), Room k (A.deeper (envOfC qual (defScope st) s.heap.objs.size f cdv)) → sp vs H Q E →
      ∃ t, PSs (cxOf (CX1 P w) P w K mg base N qual (defScope st) f cdv A outer s H E) (defBody st) t ∧ t { nx := fun _ H' => Q .non H', rt := Q } (start N vs) H) : FnOk P w K mg base (CX1 P w) (k + 1) f fd ps sp := by
  obtain ⟨oc, od, kV, doc, pm, an, cdv, ct, osl, rfl, lk, hcd⟩ := F.ex
  exact fn_of lk hcd S len fun A outer s H vs Q E hr hsp => hbody cdv A outer s H vs Q E hr hsp
end
end L2
namespace L2
open PySem PySem.Spec PyProof.Rows
section
variable {M : Model} {A : Around} {E : Value → Shared → Prop} {s : Shared}
theorem same_set {ts : Array Value} (h : ts[3]? = some .none) : ts.setIfInBounds 3 .none = ts := by
  apply Array.ext_getElem?
  intro i
  rw [Array.getElem?_setIfInBounds]
  split
  · next e =>
    subst e
    rw [if_pos (Array.getElem?_eq_some_iff.mp h).1, h]
  · rfl
theorem noteS {base : Heap} {env : Env} {outer : List Env} {L e T : Addr} {oe oT : Obj} {vs ts : Array Value} {Q : Unit → Shared → Prop}
    (hfr : A.frames = some (env :: outer)) (hl : s.heap.FunFrames base (env :: outer)) (hf : env.frame = some L) (he : s.heap.get? e = some oe) (hd : oe.data = .fields vs) (h1 : vs[1]? = some (.ref T)) (hTe : T ≠ e)
    (hT : s.heap.get? T = some oT) (hdT : oT.data = .fields ts) (h3 : ts[3]? = some .none)
    (h : ∀ h', Lft (env :: outer) e oe none s.heap h' → Q () { s with heap := h' }) : wpAny M A (noteFrame (.ref e) env) (fun _ s' => wpAny M A (setFlight (.ref e) none) Q E s') E s := by
  unfold noteFrame
  simp only [hf]
  refine wpAny_bind (wpAny_field he hd h1 ?_)
  rw [if_pos (show (Value.ref T != Value.none) = true from by simp)]
  refine wpAny_bind (wpAny_field hT hdT h3 ?_)
  rw [if_neg (show ¬ ((Value.none == rawInt L) = true) from by simp [rawInt])]
  refine wpAny_bind (wpAny_setField hT hdT (Array.getElem?_eq_some_iff.mp h3).1 ?_)
  have all : ∀ b o, s.heap.get? b = some o → (s.heap.update T (Obj.mapFields (·.setIfInBounds 3 Value.none))).get? b = some o := fun b o hb => by
    by_cases c : b = T
    · subst c
      rw [hT] at hb
      cases hb
      obtain ⟨oc, od, dt, osl⟩ := oT
      obtain rfl : dt = .fields ts := hdT
      rw [Heap.get?_update_self _ hT (Obj.isFreed_of_fields (Obj.data_mapFields rfl _))]
      show some (Obj.mk oc od (.fields (ts.setIfInBounds 3 .none)) osl) = _
      rw [same_set h3]
    · rw [Heap.get?_update_other _ _ (Ne.symm c)]
      exact hb
  exact entry_ok (s := { s with heap := s.heap.update T (Obj.mapFields (·.setIfInBounds 3 Value.none)) }) hfr (hl.of_keeps fun b o hb hnf => ⟨o, all b o hb, rfl⟩) hf (all _ _ he) hd (Array.getElem?_eq_some_iff.mp h1).1
    (fun b o hb _ => all b o hb) (fun b o hb => ⟨o, all b o hb⟩) (Nat.le_of_eq (Heap.size_after_update ..).symm) (fun b hb e => by cases e) h
end
theorem lft_un2 {P : Program} {w : World} {l : List Env} {e : Addr} {oe : Obj} {H1 : Hp} {h h' : Heap} {φ : Heap → Prop} {o1 : HO} (hok : HOk P w H1 h) (x : Lft l e oe none h h') (he : H1 e = some (.ext φ)) (hfr : ∀ b ∈ frs l, H1 b = none)
    (n1 : ObjOk P w (upd H1 e o1) h' e o1) : Un (frs l) [] H1 (upd H1 e o1) h h' ∧ HOk P w (upd H1 e o1) h' := by
  have ne : ∀ b, H1 b = none → b ≠ e := fun b q z => by rw [z, he] at q; cases q
  have nea : ∀ b u, H1 b = some u → (∀ φ, u ≠ .ext φ) → b ≠ e := fun b u q n z => by rw [z, he] at q; cases q; exact n _ rfl
  refine ⟨⟨fun b o q n hb _ => x.keep b o q hb (ne b n) (by simp), fun b o q n hb _ => x.slot b o q hb, fun b o q n _ => by rw [upd_ne (ne b n)]; exact n, fun b o q _ => x.there b o q, fun b xs q => ?_, fun b o xs q => ?_, fun b ps q => ?_⟩, fun b o q => ?_⟩
  · rw [upd_ne (nea b _ q (fun _ => by simp))]
    exact q
  · rw [upd_ne (nea b _ q (fun _ => by simp))]
    exact q
  · exact ⟨#[], by rw [upd_ne (nea b _ q (fun _ => by simp)), q]; simp⟩
  · by_cases c : b = e
    · subst c
      rw [upd_same] at q
      cases q
      exact n1
    · rw [upd_ne c] at q
      have tr : ∀ c2 v, H1 c2 = some v → c2 ≠ e → ∀ o, h.get? c2 = some o → h'.get? c2 = some o := fun c2 v q2 ce o q3 => by
        refine x.keep c2 o q3 (fun z => ?_) ce (by simp)
        rw [hfr c2 z] at q2
        cases q2
      refine (hok b o q).stay (fun c2 v hc r => ?_) (fun c2 r => ?_) fun c2 xs r => ?_
      · rcases hc with rfl | hc
        · exact tr _ _ q c v r
        · exact tr _ _ hc (nea c2 _ hc (fun _ => by simp)) v r
      · rw [upd_ne (nea c2 _ r (fun _ => by simp))]
        exact r
      · rw [upd_ne (nea c2 _ r (fun _ => by simp))]
        exact r
section
variable {X : Cx} {k : Nat} {f C : Addr} {fd : FuncData} {ps : List Str} {sp : Sp} {dvs : List V} {ds : List Value} {E : XK}
def XP (X : Cx) (pins : List (Addr × Obj)) (σ : St) (E : XK) (e : Value) (s' : Shared) : Prop := ∃ a C dx cb H', e = .ref a ∧ Inv X pins σ H' s' ∧ H' a = some (.ext (XOc cb C a (some dx) false)) ∧ TBk s'.heap H' a ∧ E (.ref C) (some a) H'
theorem run_fnX {pins : List (Addr × Obj)} {σ : St} {H : Hp} {s : Shared} {Q : VK} {us : List Value} {vs : List V} (F : FnOk X.prog X.w X.K X.mg X.base (CX1 X.prog X.w) k f fd ps sp) (hr : Room k X.A) (hb : Binds X.K fd ps ds) (hd : Vals dvs ds)
    (I : Inv X pins σ H s) (r : Vals vs us) (h : sp (vs ++ dvs) H Q E) : wpAny (model X.prog X.w) X.A (call (.ref f) us) (EP X pins σ Q) (XP X pins σ E) s := by
  have r2 : Vals (vs ++ dvs) (us ++ ds) := r.append hd
  have hl : (us ++ ds).length = ps.length := by rw [← r2.length]; exact F.len _ _ _ _ h
  refine wpAny_call (codeAny_mono (F.run X.A X.stack s H ⟨us, []⟩ (us ++ ds) (vs ++ dvs) Q E hr I.env0 (hb s us I.kIn hl) r2 h) fun r s' hq => ?_)
  cases r with
  | error e =>
    obtain ⟨a, C, dx, cb, H', rfl, os, bare, un, hok, ea, tb, q⟩ := hq
    exact ⟨a, C, dx, cb, H', rfl, I.call' os un hok bare (fun b z => absurd z (by simp)), ea, tb, q⟩
  | ok fl =>
    cases fl with
    | ret u => exact I.after hq
    | next => exact False.elim hq
    | brk => exact False.elim hq
    | cont => exact False.elim hq
theorem del_ok {M : Model} {A : Around} {E : Value → Shared → Prop} {pins : List (Addr × Obj)} {σ : St} {H : Hp} {s : Shared} {i : Nat} {x : Str} {Q : Bool → Shared → Prop} (I : Inv X pins σ H s) (hN : X.N.Nodup) (hi : X.N[i]? = some x) (hk : X.env.scope.names.lookup x = some .local) {v : V} (hv : σ[i]? = some (some v))
    (h : ∀ s', Inv X pins (σ.set i none) H s' → Q true s') : wpAny M A (nsDel X.env.locals x) Q E s := by
  obtain ⟨m, hn, hl⟩ := id I.loc
  have hiσ : i < σ.length := by rw [I.len]; exact (List.getElem?_eq_some_iff.mp hi).1
  have cne := I.cne
  obtain ⟨oL, _, _, hoL, _⟩ := id hn
  have hm : (m x).isSome = true := by
    obtain ⟨u, _, l⟩ := hl i x v hi hv (.inl hk)
    rcases l with ⟨_, e⟩ | ⟨e | e, _⟩
    · rw [e]; rfl
    · rw [show X.env.kindOf x = some .local from hk] at e; cases e
    · rw [show X.env.kindOf x = some .local from hk] at e; cases e
  refine wpAny_nsDel_keeps hn fun h' v0 hn' hs => ?_
  rw [hm]
  refine h _ ⟨I.ok, I.os, I.bare, ⟨fun b o e n hb hx => ?_, fun b o e n hb hx => ?_, I.base.free, fun b o e hx => ?_, I.base.tups, I.base.frzs, I.base.tbls⟩, ⟨_, hn', fun j y v' e1 e2 e3 => ?_⟩, fun y c e => ?_, I.free, I.freeC, fun p hp => ?_, fun b ob e => ?_, by simpa using I.len⟩
  · exact (hs.2 b (Nat.ne_of_lt (Nat.lt_of_lt_of_le (Heap.lt_size e) I.ok.above))).trans (I.base.keep b o e n hb hx)
  · obtain ⟨sl, e1⟩ := I.base.slot b o e n hb hx
    exact ⟨sl, (hs.2 b (Nat.ne_of_lt (Nat.lt_of_lt_of_le (Heap.lt_size e) I.ok.above))).trans e1⟩
  · obtain ⟨o', e1⟩ := I.base.there b o e hx
    exact ⟨o', (hs.2 b (Nat.ne_of_lt (Nat.lt_of_lt_of_le (Heap.lt_size e) I.ok.above))).trans e1⟩
  · by_cases hj : j = i
    · subst hj
      rw [List.getElem?_set_self hiσ] at e2
      cases e2
    · rw [List.getElem?_set_ne (Ne.symm hj)] at e2
      obtain ⟨u', r', q⟩ := hl j y v' e1 e2 e3
      refine ⟨u', r', ?_⟩
      rcases q with ⟨k, e⟩ | ⟨k, c, e, z⟩
      · refine .inl ⟨k, ?_⟩
        have : y ≠ x := fun e => hj (nodup_ix hN e1 (e ▸ hi))
        simp [this, e]
      · exact .inr ⟨k, c, e, z.sameBut hs (cne y c e)⟩
  · obtain ⟨w', z⟩ := I.cell y c e
    exact ⟨w', z.sameBut hs (cne y c e)⟩
  · obtain ⟨e, n, ne, nf, d⟩ := I.pin p hp
    exact ⟨(hs.2 p.1 ne).trans e, n, ne, nf, d⟩
  · refine (I.hok b ob e).stay (fun c w' hc q => (hs.2 c ?_).trans q) (fun _ q => q) fun _ _ q => q
    rintro rfl
    rcases hc with rfl | hc
    · rw [I.free] at e; cases e
    · rw [I.free] at hc; cases hc
theorem name_goes {M : Model} {A : Around} {E : Value → Shared → Prop} {pins : List (Addr × Obj)} {σ : St} {H : Hp} {s : Shared} {i : Nat} {x : Str} {pos : Pos} {Q : Unit → Shared → Prop} (I : Inv X pins σ H s) (hN : X.N.Nodup) (hi : X.N[i]? = some x) (hk : X.env.scope.names.lookup x = some .local)
    (h : ∀ s', Inv X pins (σ.set i none) H s' → Q () s') : wpAny M A (do bindName X.env x .none; unbindBehindTheSuite X.env x pos) Q E s := by
  have hl : X.env.kindOf x = some .local := hk
  have hp : (X.env.scope.kind == .class || (X.env.scope.kind == .module && X.env.locals != X.env.globals)) = false := by rw [I.ok.kind]; rfl
  have hiσ : i < σ.length := by rw [I.len]; exact (List.getElem?_eq_some_iff.mp hi).1
  refine wpAny_bind (wpAny_bindName (store_ok I hN hi (.inl hk) (v := .non) (u := .none) rfl (fun s' I' => ?_) (.inr hk)))
  unfold unbindBehindTheSuite
  refine wpAny_onRaise ?_
  unfold unbindName
  refine wpAny_bind (wpAny_point (wpAny_bind ?_))
  unfold deleteName
  simp only [hl, hp]
  rw [if_neg (by decide)]
  refine wpAny_bind (del_ok I' hN hi hk (v := .non) (by rw [List.getElem?_set_self hiσ]) fun s2 I2 => ?_)
  rw [List.set_set] at I2
  simp only [if_true, Option.isSome_some, Bool.not_true, Bool.false_eq_true, if_false]
  exact wpAny_pure (wpAny_point (h s2 I2))
abbrev Cx.inH (X : Cx) (a : Addr) : Cx := { X with A := X.A.mark (some (.ref a)), calm := false, xe := fun _ _ => False }
theorem Inv.inH {pins : List (Addr × Obj)} {σ : St} {H : Hp} {s : Shared} {a : Addr} (I : Inv X pins σ H s) : Inv (X.inH a) pins σ H s :=
  ⟨⟨I.ok.mod, I.ok.kind, I.ok.glob, I.ok.blt, I.ok.above, I.ok.inj, I.ok.has, I.ok.cab, (fun z => by cases z), I.ok.frames, I.ok.stk, I.ok.exf, I.ok.bs, I.ok.bsz, I.ok.noex, I.ok.exfs, I.ok.funs, I.ok.frf⟩, I.os, I.bare, I.base, I.loc, I.cell, I.free, I.freeC, I.pin, I.hok, I.len⟩
theorem Inv.outH {pins : List (Addr × Obj)} {σ : St} {H : Hp} {s : Shared} {a : Addr} (ok : X.Ok) (I : Inv (X.inH a) pins σ H s) : Inv X pins σ H s :=
  ⟨ok, I.os, I.bare, I.base, I.loc, I.cell, I.free, I.freeC, I.pin, I.hok, I.len⟩
end
end L2
namespace L2
open PySem PySem.Spec PyProof.Rows
section
variable {prog : Program} {w : World} {A : Around} {E : Value → Shared → Prop} {s : Shared} {env : Env}
def Und (h : Heap) (e C2 : Addr) : Prop := ∃ C nm q N bs bm hdct sn sub ab col dd k0 k1 k2 k3 k5 newId nm2 q2 N2 bs2 bm2 hdct2 sn2 sub2 ab2 col2 dd2 j0 j1 j2 j3 j5 newId2 oe,
  h.get? C = some (excClassObj nm q C N bs bm hdct sn sub ab col dd k0 k1 k2 k3 k5 newId) ∧ h.get? C2 = some (excClassObj nm2 q2 C2 N2 bs2 bm2 hdct2 sn2 sub2 ab2 col2 dd2 j0 j1 j2 j3 j5 newId2) ∧
  h.get? e = some oe ∧ oe.cls = .ref C ∧ List.contains bm2 (.type "BaseException") = true ∧ (Value.ref C :: bm).contains (.ref C2) = true
theorem handleBy_x {e C2 : Addr} {t : Expr} {n : Str} {b₀ : Stmt} {suite : List Stmt} {pos : Pos} {rest : List ExceptHandler} {Q : Flow → Shared → Prop}
    (h : wpAny (model prog w) (A.mark (some (.ref e))) (eval t env) (fun c s₁ => c = .ref C2 ∧ Und s₁.heap e C2 ∧
      wpAny (model prog w) (A.mark (some (.ref e))) (setFlight (.ref e) none) (fun _ s₂ =>
          wpAny (model prog w) (A.mark (some (.ref e))) (storeName env n (.ref e)) (fun _ s₃ =>
            wpAny (model prog w) (A.mark (some (.ref e))) (execs (b₀ :: suite) env)
              (fun f s₄ => wpAny (model prog w) A (do bindName env n .none; unbindBehindTheSuite env n pos) (fun _ s₅ => Q f s₅) E s₄)
              (fun _ _ => False) s₃) (fun _ _ => False) s₂) (fun _ _ => False) s₁) (fun _ _ => False) s) :
    wpAny (model prog w) A (handleBy (.ref e) env (.ExceptHandler (some t) (some n) (b₀ :: suite) pos :: rest)) Q E s := by
  refine wpAny_handleBy_cons (codeAny_handlers_test (wpAny_mono h (fun c s₁ h₁ => ?_) fun _ _ y => y.elim)) (by intro q; cases q)
  obtain ⟨rfl, ⟨C, nm, q, N, bs, bm, hdct, sn, sub, ab, col, dd, k0, k1, k2, k3, k5, newId, nm2, q2, N2, bs2, bm2, hdct2, sn2, sub2, ab2, col2, dd2, j0, j1, j2, j3, j5, newId2, oe, hC, hC2, he, hcls, hb, hu⟩, hk⟩ := h₁
  obtain ⟨hh, g, d, tk, os⟩ := s₁
  refine x_match hC hC2 he hcls hb ?_
  rw [hu]
  refine codeAny_handlers_suite_as (wpAny_mono hk (fun _ s2 h2 => wpAny_mono h2 (fun _ s3 h3 => wpAny_mono h3 (fun _ _ z => z) fun _ _ z => z.elim) fun _ _ z => z.elim) fun _ _ z => z.elim)
end
section
variable {X : Cx} {k : Nat} {f C2 : Addr} {fd : FuncData} {ps : List Str} {sp : Sp} {dvs : List V} {ds : List Value} {x y n cn : Str} {p np pos apos hpos cpos xpos : Pos} {e : Expr} {es : List Expr} {t : TA} {ts : TS} {b0 : Stmt} {suite : List Stmt} {i j : Nat}
def sTry (K : PySem.W.Frag) (C2 : Addr) (i j : Nat) (sp : Sp) (dvs : List V) (t : TA) (ts : TS) : TS := fun D σ H => t σ H fun vs H1 => sp (vs ++ dvs) H1 (fun v H2 => D.nx (σ.set i (some v)) H2)
  (fun cls a H2 => ∃ b C Cb, cls = .ref C ∧ a = some b ∧ XCls K C Cb ∧ (C2 = C ∨ C2 = Cb) ∧ ts { nx := fun σ' H' => D.nx (σ'.set j none) H', rt := D.rt } (σ.set j (some (.ref b))) H2)
def sTry0 (K : PySem.W.Frag) (C2 : Addr) (i : Nat) (sp : Sp) (dvs : List V) (t : TA) (ts : TS) : TS := fun D σ H => t σ H fun vs H1 => sp (vs ++ dvs) H1 (fun v H2 => D.nx (σ.set i (some v)) H2)
  (fun cls a H2 => ∃ b C Cb, cls = .ref C ∧ a = some b ∧ XCls K C Cb ∧ (C2 = C ∨ C2 = Cb) ∧ ts D σ H2)
theorem xinst {cb : Bool} {pins : List (Addr × Obj)} {σ : St} {H : Hp} {s : Shared} {a C dx : Addr} {raw : Bool} {fs : List (Str × V)} (I : Inv X pins σ H s) (ea : H a = some (.ext (XOc cb C a (some dx) raw))) (ed : H dx = some (.xd fs)) :
    ∃ (ox od : Obj) (mA : Str → Option Value), PySem.W.InstAt s.heap a ox C (some od) ∧ (∀ name, PySem.W.lookIn name od = some (mA name)) ∧ ∀ g, RelO (fs.lookup g) (mA g) := by
  obtain ⟨⟨vs, sl, a0, e1, e2, e3, e4⟩, _, _⟩ := (show ObjOk X.prog X.w H s.heap a (.ext (XOc cb C a (some dx) raw)) from I.hok a _ ea)
  obtain ⟨mA, n1, r1⟩ := (show ObjOk X.prog X.w H s.heap dx (.xd fs) from I.hok dx _ ed)
  obtain ⟨od, h1, h2⟩ := lookIn_ns n1
  exact ⟨_, od, mA, ⟨e1, rfl, rfl, h1⟩, h2, r1⟩
def tXFld (K : PySem.W.Frag) (ta : TE) (g : Str) : TE := fun σ H Q => ta σ H fun x H1 => ∃ a C Cb dx fs raw i, x = .ref a ∧ H1 a = some (.ext (XO C a (some dx) raw)) ∧ H1 dx = some (.xd fs) ∧ XCls K C Cb ∧ PySem.W.findIn K (.ref C) g = some none ∧ fs.lookup g = some (.int i) ∧ Q (.int i) H1
end
section
variable {prog : Program} {w : World} {A : Around} {E : Value → Shared → Prop} {s : Shared}
theorem find_at0 {es : Array DictEntry} {p : DictEntry → Bool} (h : (es.toList.find? p).map (·.val) = none) : es.findIdx? p = none := by
  obtain ⟨l⟩ := es
  have h1 : l.find? p = none := by simpa using h
  have h2 : ∀ x ∈ l, p x = false := fun x hx => by
    have := List.find?_eq_none.mp h1 x hx
    simpa using this
  simp only [List.findIdx?_toArray]
  exact List.findIdx?_eq_none_iff.mpr h2
theorem kd_get0 {δ : Type} {R : δ → Value → Prop} {a : Addr} {D : List (Str × δ)} {k : Str} {tk : Tok} {Q : Value → Shared → Prop} (ht : KTD.TabOf R s.heap a D) (hd : KTD.datumAt k D = none)
    (h : Q .none { s with toks := s.toks + 1 }) : wpAny (model prog w) A (call (.builtin "dict.get") [.ref a, .str k tk]) Q E s := by
  obtain ⟨hm, o, es, ep, ho, ex, hdt, hrows⟩ := ht
  have hi := find_at0 (hrows.find_none hd)
  refine wpAny_call_entry PySem.F.slot_dict_get ⟨o, ho, ex.1⟩ PySem.F.entry_dict_get ?_ (PySem.F.args_dict_get_2 _ _)
  have hget : ∀ (Q' : Option Value → Shared → Prop) (E' : Value → Shared → Prop), Q' none { s with toks := s.toks + 1 } → wpAny (model prog w) A.in1 (dictGet a (.str k tk)) Q' E' s := fun Q' E' hq => by
    unfold dictGet
    refine wpAny_holding (wpAny_bind (wpAny_pyHash_str (wpAny_bind (KTD.kt_dictFind_strs (s := { s with toks := s.toks + 1 }) ho hdt (by rw [← Array.all_toList]; exact hrows.exact) ?_))))
    rw [hi]
    exact wpAny_pure hq
  unfold Builtin.«dict.get»
  repeat (first | (refine hget _ _ ?_) | wp_step | (refine AutoSeq1.wpAny_loadPart' ho ?_))
  exact ⟨_, rfl, h⟩
end
section
variable {X : Cx}
theorem mt_getK0 {a : Addr} {D : List (Str × Addr)} (t : TabK X.K a D) : MtR X "dict.get" (fun x vs H Q => ∃ k, x = .ref a ∧ vs = [.str k] ∧ ((∃ b, KTD.datumAt k D = some b ∧ Q (.ref b) H) ∨ (KTD.datumAt k D = none ∧ Q .non H))) := by
  intro pins s σ H x vs v us Q I rx rv h
  obtain ⟨k, rfl, rfl, h⟩ := h
  rcases h with ⟨b, hd, q⟩ | ⟨hd, q⟩
  · exact mt_getK t pins s σ H _ _ v us Q I rx rv ⟨k, b, rfl, rfl, hd, q⟩
  · cases rx
    obtain ⟨u, rfl, tk, rfl⟩ := rv.one
    exact kd_get0 (t.of fun c o e => I.kIn c o e) hd ⟨.non, H, I.tok _, rfl, q⟩
def tGetK0 (a : Addr) (D : List (Str × Addr)) (td ty : TE) : TE := fun σ H Q => td σ H fun x H1 => x = .ref a ∧ ty σ H1 fun y H2 => ∃ k, y = .str k ∧ ((∃ b, KTD.datumAt k D = some b ∧ Q (.ref b) H2) ∨ (KTD.datumAt k D = none ∧ Q .non H2))
theorem pe_getK0 {o e : Expr} {apos cpos : Pos} {td ty : TE} {a : Addr} {D : List (Str × Addr)} (t : TabK X.K a D) (ho : PE X o td) (he : PE X e ty) (m : M1 X o "get" apos e cpos) : PE X (.Call (.Attribute o "get" apos) [e] [] cpos) (tGetK0 a D td ty) := by
  intro pins s σ H Q I h
  refine wpAny_Call_method m.base m.few m.line PySem.F.plainAttrs_dict PySem.F.slot_dict_get PySem.F.type_dict_get (thn (ho pins s σ H _ I h) fun u s1 ⟨x, H1, I1, rx, ex, q1⟩ => ?_)
  subst ex
  obtain rfl : u = Value.ref a := rx
  obtain ⟨_, o1, es, ep, ho1, ex1, hdt, _⟩ := t.of (h := s1.heap) fun c o e => I1.kIn c o e
  refine ⟨⟨o1, ho1, ex1.1⟩, fun c ec => ?_, ?_⟩
  · cases ec
    exact ⟨o1, ho1, ex1.2.1⟩
  rw [m.trees]
  refine Calls.callWith_builtin rfl (Calls.evalArgs_plain (Calls.spliced_cons (thn (he pins s1 σ H1 _ I1 q1) fun iv s2 ⟨y, H2, I2, ry, k, ey, q2⟩ => Calls.spliced_nil ?_)))
  subst ey
  exact mt_getK0 t pins s2 σ H2 (.ref a) [.str k] (.ref a) [iv] Q I2 rfl (.cons ry .nil) ⟨k, rfl, rfl, q2⟩
def tFs3 (c c2 : Str) (te : TE) : TE := fun σ H Q => c.length ≤ sizeLine ∧ te σ H fun v H1 => ∃ n : Int, v = .int n ∧ n.natAbs.log2 < 1920 ∧ (c ++ (Str.ofString (toString n))).length ≤ sizeLine ∧ (c ++ (Str.ofString (toString n)) ++ c2).length ≤ sizeLine ∧ Q (.str (c ++ Str.ofString (toString n) ++ c2)) H1
theorem pe_fstr3 {c c2 : Str} {j j2 : Nat} {p1 p2 p3 p4 : Pos} {e : Expr} {te : TE} (he : PE X e te) : PE X (.JoinedStr [.Constant (.str c) j p1, .FormattedValue e (-1) none p2, .Constant (.str c2) j2 p4] p3) (tFs3 c c2 te) := by
  intro pins s σ H Q I h
  refine JoinedStr_many ?_
  obtain ⟨hc, h⟩ := h
  refine joinParts_cons (Calls.Constant_str ?_)
  show (Str.empty ++ c).length ≤ sizeLine ∧ wpAny (model X.prog X.w) X.A (joinParts (Str.empty ++ c) _) (EP X pins σ Q) X.xe _
  rw [Str.empty_append]
  refine ⟨hc, joinParts_cons (FormattedValue_plain (thn (he pins _ σ H _ (I.tok _) h) fun u s1 ⟨x, H1, I1, r1, n, e, hn, hl, hl2, q1⟩ => ?_))⟩
  subst e
  obtain ⟨t, rfl⟩ := r1
  refine formatField_int_small hn ⟨hl, joinParts_cons (Calls.Constant_str ?_)⟩
  show (_ ++ c2).length ≤ sizeLine ∧ wpAny (model X.prog X.w) X.A (joinParts (_ ++ c2) _) (EP X pins σ Q) X.xe _
  exact ⟨hl2, joinParts_nil ⟨.str _, H1, (I1.tok _), ⟨_, rfl⟩, q1⟩ hl2⟩
end
end L2
namespace L2
open PySem PySem.Spec PyProof.Rows
section
variable {X : Cx}
theorem stT.cats {i j : Nat} {x y : Str} {es : List Expr} {ws : List Str} {xs : List V} {l : Addr} {p1 p2 p3 p4 pos : Pos} {D : Ends} {σ : St} {H : Hp} (hN : X.N.Nodup) (hi : X.N[i]? = some x) (hx : Loc X.env.scope x) (he : strsOf es = some ws)
    (hy : X.N[j]? = some y) (hv : Vis X.env.scope y) (hd1 : (y == ("__debug__" : Str)) = false) (hd2 : (y == ("__classdict__" : Str)) = false)
    (hs : swapsWith (.BinOp (.Name y p3) .Add (.List es p2) p4) (some (.Name x p1)) pos.line X.env = pure false) (hf : X.fn x = true ∨ X.env.scope.names.lookup x = some .local) (hl : ws.length ≤ 100)
    (hσ : σ[j]? = some (some (.ref l))) (hL : H l = some (.lst xs)) (hxl : xs.length ≤ 900)
    (q : ∀ l2 H2, Same H H2 → H2 l2 = some (.lst (xs ++ ws.map V.str)) → D.nx (σ.set i (some (.ref l2))) H2) : stT X (.Assign [.Name x p1] (.BinOp (.Name y p3) .Add (.List es p2) p4) pos) D σ H := by
  refine stT.of (ps_set hN hi hx (pe_op op_catS (pv j hy hv hd1 hd2) (pe_lst (pa_strs he))) hs hf) ?_
  refine ⟨_, hσ, ?_, fun p hp => ⟨l, p, xs, ws.map V.str, rfl, rfl, SqL.of (Same.put hp _ _ hL), SqL.of upd_same, by rw [List.length_map, sizeLine_eq]; omega, fun p2 hp2 => q p2 _ ((Same.put hp).trans (.put hp2)) upd_same⟩⟩
  rw [List.length_map]
  exact Nat.le_of_lt (small1000 (by omega))
end
end L2
namespace L2
open PySem PySem.Spec PyProof.Rows
section
variable {X : Cx}
inductive DispR : List (Option Expr) → List Expr → List (Key × V) → Prop
  | nil : DispR [] [] []
  | int {x n u1 p1 u2 p2 ks vs r} : DispR ks vs r → DispR (some (.Constant (.str x) u1 p1) :: ks) (.Constant (.int n) u2 p2 :: vs) ((.inr x, .int n) :: r)
  | str {x y u1 p1 u2 p2 ks vs r} : DispR ks vs r → DispR (some (.Constant (.str x) u1 p1) :: ks) (.Constant (.str y) u2 p2 :: vs) ((.inr x, .str y) :: r)
end
end L2
namespace L2
open PySem PySem.Spec PyProof.Rows
abbrev calmA (A : Around) : Around := { A with handled := none }
structure FnOkH (P : Program) (w : World) (K : PySem.W.Frag) (mg : Str → Option Value) (base : Heap) (CX : CXT) (k : Nat) (f : Addr) (fd : FuncData) (ps : List Str) (sp : Sp) : Prop where
  len : ∀ vs H Q E, sp vs H Q E → vs.length = ps.length
  run : ∀ (A : Around) (outer : List Env) (s : Shared) (H : Hp) (args : Args) (us : List Value) (vs : List V) (Q : VK) (E : XK), Room k (calmA A) → Env0 P w K mg base A outer s H → BindsTo s fd args (ps.zip us) → Vals vs us → sp vs H Q E →
    codeAny (model P w) A (.call (.ref f) args) (CR CX outer P w H s Q E) s
theorem Room.marked {k : Nat} {A : Around} (r : Room k A) : Room k (calmA A) := ⟨rfl, r.dp, r.un⟩
theorem pass1 {P : Program} {w : World} {X : Cx} : Passes (CX1 P w) X E0 := fun _ _ _ _ _ _ _ ⟨_, _, _, _, _, _, _, _, _, _, _, _, h⟩ => h.elim
abbrev Cx.nocalm (X : Cx) : Cx := { X with calm := false }
theorem inv_startH {CX : CXT} {P : Program} {w : World} {K : PySem.W.Frag} {mg : Str → Option Value} {base : Heap} {N ps : List Str} {qual : Str} {scope : Scope} {f : Addr} {cd : Value} {A : Around} {outer : List Env} {s s1 : Shared} {H : Hp} {E : XK} {us : List Value} {vs : List V}
    (S : FnScope N ps scope) (e0 : Env0 P w K mg base A outer s H) (hl : vs.length = ps.length) (r : Vals vs us)
    (x : InCallC s s.heap.objs.size (bindL (envOfC qual scope s.heap.objs.size f cd).kindOf (ps.zip us) fun _ => none) (cellsFrom (s.heap.objs.size + 1) scope.names []) (bindC (envOfC qual scope s.heap.objs.size f cd).kindOf (ps.zip us) fun _ => none) s1) :
    Inv (cxOf CX P w K mg base N qual scope f cd A outer s H E).nocalm [] (start N vs) H s1 := by
  have e1 : Env0 P w K mg base (calmA A) outer s H := ⟨e0.frames, e0.mod, e0.bs, e0.bsz, e0.funs, e0.frf, e0.hok, e0.bare⟩
  have I := inv_start (CX := CX) (A := calmA A) (E := E) S rfl e1 hl r x
  exact ⟨⟨I.ok.mod, I.ok.kind, I.ok.glob, I.ok.blt, I.ok.above, I.ok.inj, I.ok.has, I.ok.cab, (fun z => by cases z), I.ok.frames, I.ok.stk, I.ok.exf, I.ok.bs, I.ok.bsz, I.ok.noex, I.ok.exfs, I.ok.funs, I.ok.frf⟩, I.os, I.bare, I.base, I.loc, I.cell, I.free, I.freeC, I.pin, I.hok, I.len⟩
section
variable {P : Program} {w : World} {K : PySem.W.Frag} {mg : Str → Option Value} {base : Heap}
theorem Fun.okH {x qual : Str} {st : Stmt} {f : Addr} {fd : FuncData} {N ps : List Str} {k : Nat} {sp : Sp} (F : Fun K x qual st f fd) (S : FnScope N ps (defScope st)) (len : ∀ vs H Q E, sp vs H Q E → vs.length = ps.length)
    (hbody : ∀ (cdv : Value) (A : Around) (outer : List Env) (s : Shared) (H : Hp) (vs : List V) (Q : VK) (E : XK), sp vs H Q E →
      ∃ t, PSs (cxOf CX0 P w K mg base N qual (defScope st) f cdv A outer s H E).nocalm.nox (defBody st) t ∧ t { nx := fun _ H' => Q .non H', rt := Q } (start N vs) H) : FnOkH P w K mg base CX0 (k + 1) f fd ps sp := by
  obtain ⟨oc, od, kV, doc, pm, an, cdv, ct, osl, rfl, lk, hcd⟩ := F.ex
  refine ⟨len, fun A outer s H args us vs Q E hr e0 hb r hsp => ?_⟩
  have hin : ∀ b o, base.get? b = some o → s.heap.get? b = some o := fun b o e => (e0.bs b o e).1
  have kin : K.In s.heap := e0.mod.kin.keeps hin
  have kinds : ∀ y ∈ ps.zip us, (defScope st).names.lookup y.1 = some .local ∨ ((defScope st).names.lookup y.1 = some .cell ∧ ((cellsFrom (s.heap.objs.size + 1) (defScope st).names []).lookup y.1).isSome = true) := fun y hy => by
    rcases S.par y.1 (List.of_mem_zip (show (y.1, y.2) ∈ ps.zip us from hy)).1 with q | q
    · exact .inl q
    · exact .inr ⟨q, PySem.W.cellsFrom_some _ _ _ (.inl q)⟩
  refine codeAny_call_function hr.depth (kin _ _ lk) rfl S.co S.gen rfl (PySem.W.codeRec_of kin hcd) (hb _ _ _ _ (wpAny_newFunctionEnv_cells S.kind kinds fun env he s1 x => ?_))
  subst he
  refine ⟨(e0.mod.nolimit.keeps hin).keeps x.toInCall.keep, codeAny_func ?_⟩
  obtain ⟨t, ht, hq⟩ := hbody cdv A outer s H vs Q E hsp
  have I := inv_startH (CX := CX0) (K := K) (mg := mg) (base := base) (qual := qual) (f := f) (cd := cdv) (E := E) S e0 (len _ _ _ _ hsp) r x
  refine wpAny_mono (ht.nox [] s1 (start N vs) H _ I hq) (fun fl s' hs => ?_) fun e s' hs => hs
  cases fl with
  | ret u =>
    obtain ⟨v, σ', H', J, rv, q⟩ := hs
    exact ⟨v, H', J.os, J.bare, J.base, J.hok, rv, q⟩
  | next =>
    obtain ⟨σ', H', J, q⟩ := hs
    exact ⟨.non, H', J.os, J.bare, J.base, J.hok, rfl, q⟩
  | brk =>
    obtain ⟨_, _, _, q⟩ := hs
    exact q.elim
  | cont =>
    obtain ⟨_, _, _, q⟩ := hs
    exact q.elim
end
section
variable {X : Cx} {CX : CXT} {k : Nat} {f C Cb : Addr} {fd : FuncData} {ps : List Str} {sp : Sp} {dvs : List V} {ds : List Value} {E : XK} {x m : Str} {p pos apos : Pos} {e o : Expr} {es : List Expr} {ta : TE} {t : TA}
theorem pe_xmakeH (c : XCls X.K C Cb) (hi : PySem.W.findIn X.K (.ref C) "__init__" = some (some (.ref f))) (hf : PySem.W.isFn X.K (.ref f) = true) (F : FnOkH X.prog X.w X.K X.mg X.base CX k f fd ps sp) (hr : Room (k + 1) (calmA X.A)) (hg : Gl X x) (hm : X.mg x = some (.ref C)) (hb : Binds X.K fd ps ds) (hd : Vals dvs ds) (hx : Passes CX X E)
    (ha : PA X (e :: es) t) (hdb : (x == ("__debug__" : Str)) = false := by decide) (he : starEach (e :: es) X.env = (false, eval e X.env) :: starEach es X.env := by rfl) (hpl : (backTo pos (starEach es X.env)).any (·.1) = false := by rfl) :
    PE X (.Call (.Name x p) (e :: es) [] pos) (tXMake C sp dvs E t) := by
  intro pins s0 σ H0 Q I0 h0
  refine wpAny_Call_Name_kw (ld_glob I0 hg hm ?_ hdb)
  refine PySem.W.callWith_K (h₀ := X.base) I0.ok.mod.kin c.kp (thn (ha pos pins s0 σ H0 _ I0 h0) fun us s ⟨vs, H, I, r, hl, h⟩ => ⟨I.kIn, ?_⟩) he hpl
  have hl0 : us.length ≤ sizeLine := by rw [← r.length]; exact Nat.le_of_lt (small1000 hl)
  have hq := h (s.heap.objs.size + 1) (I.hok.fresh (Nat.le_succ _))
  have I2 := Inv.xmade (C := C) (rest := us) I
  have r2 : Vals (V.ref (s.heap.objs.size + 1) :: (vs ++ dvs)) (Value.ref (s.heap.objs.size + 1) :: (us ++ ds)) := .cons rfl (r.append hd)
  have hl : (Value.ref (s.heap.objs.size + 1) :: us ++ ds).length = ps.length := by
    have e := r2.length
    rw [F.len _ _ _ _ hq] at e
    exact e.symm
  obtain ⟨nm, qn, N, bs, sn, sub, ab, col, dd, k0, k1, k2, k3, k5, lk⟩ := c.lk
  obtain ⟨hh, g, d, tk, os⟩ := s
  refine wpAny_call (xmake_core PySem.F.excBase_ValueError (by decide +kernel) PySem.F.excBase_ValueError (c.tail I.kIn) (I.kIn _ _ lk) (PySem.W.looks_findIn I.kIn hi) (fun self => PySem.W.bind_fn I.kIn self (beq_iff_eq.mp hf)) hl0 (codeAny_mono (F.run _ X.stack _ _ ⟨Value.ref (hh.objs.size + 1) :: us, []⟩ (Value.ref (hh.objs.size + 1) :: (us ++ ds)) _ _ E (show Room k _ from hr.make C us [])
    (I2.env0.make C us []) (hb _ (Value.ref (hh.objs.size + 1) :: us) I2.kIn hl) r2 hq) fun r s' hq' => ?_))
  cases r with
  | error e => exact hx pins σ _ _ e s' I2 hq'
  | ok fl =>
    cases fl with
    | ret u =>
      obtain ⟨v, H', I3, rv, ev, q3⟩ := I2.after hq'
      subst ev
      exact ⟨rv, ⟨V.ref (hh.objs.size + 1), H', I3, rfl, q3⟩⟩
    | next => exact False.elim hq'
    | brk => exact False.elim hq'
    | cont => exact False.elim hq'
end
theorem entry_unchain : entryFor table "proto.unchain" = some Builtin.«proto.unchain» := entryFor_of_tree (by kernel_rfl)
section
variable {prog : Program} {w : World} {A : Around} {E : Value → Shared → Prop} {s : Shared} {env : Env}
theorem raiseNewH {α : Type} {e h : Addr} {oe oh : Obj} {vs ws : Array Value} {Q : α → Shared → Prop} (hh : A.handled = some (.ref h)) (he : s.heap.get? e = some oe) (hd : oe.data = .fields vs) (hz : 2 < vs.size) (ho : s.heap.get? h = some oh) (hdh : oh.data = .fields ws) (h2 : ws[2]? = some .none) (hne : h ≠ e)
    (hE : E (.ref e) { s with heap := s.heap.update e (Obj.mapFields (·.setIfInBounds 2 (.ref h))) }) : wpAny (model prog w) A (raiseNew (.ref e) : Sem α) Q E s := by
  unfold raiseNew
  refine wpAny_bind (wpAny_handled ?_)
  rw [hh]
  have hb : (Value.ref h != Value.ref e) = true := by simpa using hne
  simp only [hb, if_true]
  refine wpAny_bind (wpAny_holding (wpAny_runValue (codeAny_builtin entry_unchain ?_)))
  unfold Builtin.«proto.unchain»
  refine wpAny_bind (wpAny_field ho hdh h2 ?_)
  refine wpAny_pure ?_
  refine wpAny_bind (show wpAny (model prog w) A (setField (.ref e) 2 (.ref h)) _ _ _ from wpAny_setField he hd hz (wpAny_throw hE))
theorem x_raiseN {h : Addr} {x cz : Sem Value} {Q : Flow → Shared → Prop} (hh : A.handled = some (.ref h))
    (h0 : wpAny (model prog w) A x (fun v s₁ => wpAny (model prog w) A cz (fun c s₂ => c = .none ∧ ∃ C nm q N bs bm hdct sn sub ab col dd k0 k1 k2 k3 k5 newId e oe vs oh ws, v = .ref e ∧ List.contains bm (.type "BaseException") = true ∧ s₂.heap.get? C = some (excClassObj nm q C N bs bm hdct sn sub ab col dd k0 k1 k2 k3 k5 newId) ∧
      s₂.heap.get? e = some oe ∧ oe.cls = .ref C ∧ oe.data = .fields vs ∧ vs[1]? = some .none ∧ 4 < vs.size ∧ s₂.heap.get? h = some oh ∧ oh.data = .fields ws ∧ ws[2]? = some .none ∧ h ≠ e ∧ C ≠ e ∧
      ∀ h', (∀ b o, b ≠ e → s₂.heap.get? b = some o → h'.get? b = some o) → h'.get? e = some { oe with data := .fields (((vs.setIfInBounds 3 .none).setIfInBounds 4 (.bool true)).setIfInBounds 2 (.ref h)) } → E (.ref e) { s₂ with heap := h' }) E s₁) E s) :
    wpAny (model prog w) A (raiseStmt env (some x) (some cz)) Q E s := by
  unfold raiseStmt
  refine wpAny_bind (wpAny_mono h0 (fun v s₁ h₁ => ?_) fun _ _ x => x)
  refine wpAny_bind (wpAny_holding (wpAny_mono h₁ (fun c s₂ h₂ => wpAny_bind (wpAny_pure ?_)) fun _ _ x => x))
  obtain ⟨rfl, C, nm, q, N, bs, bm, hdct, sn, sub, ab, col, dd, k0, k1, k2, k3, k5, newId, e, oe, vs, oh, ws, rfl, hbase, hC, he, hcls, hd, h1, hz, ho, hdh, h2, hne, hCe, hE⟩ := h₂
  have hcB : (Value.ref C :: bm).contains (.type "BaseException") = true := by rw [List.contains_cons, hbase, Bool.or_true]
  obtain ⟨oc, od, dt, osl⟩ := oe
  obtain rfl : oc = .ref C := hcls
  obtain rfl : dt = .fields vs := hd
  obtain ⟨hp, g, d, tk, os⟩ := s₂
  have ex : ∀ (Q' : Value → Shared → Prop), Q' (.ref e) ⟨hp, g, d, tk, os⟩ → wpAny (model prog w) A (excFromValue (.ref e) "exceptions must derive from BaseException") Q' E ⟨hp, g, d, tk, os⟩ := fun Q' hq => by
    unfold excFromValue
    repeat (first | with_reducible refine wpAny_loadPart_at he ?_ | with_reducible refine wpAny_loadPart_at hC ?_ | (with_reducible refine wpAny_isSubtype_exc hC ?_; rw [hcB]) | wp_step)
    exact hq
  refine wpAny_bind (wpAny_holding (ex _ ?_))
  dsimp only
  rw [if_pos (by decide)]
  refine wpAny_bind (wpAny_pure (wpAny_bind (wpAny_setField he rfl (by omega) ?_)))
  have f1 := Heap.get?_update_self (Obj.mapFields (·.setIfInBounds 3 Value.none)) he (Obj.isFreed_of_fields (Obj.data_mapFields rfl _))
  refine wpAny_bind (wpAny_setField f1 rfl (by simp; omega) ?_)
  have f2 := Heap.get?_update_self (Obj.mapFields (·.setIfInBounds 4 (Value.bool true))) f1 (Obj.isFreed_of_fields (Obj.data_mapFields rfl _))
  have oth : ∀ b o, b ≠ e → hp.get? b = some o → ((hp.update e (Obj.mapFields (·.setIfInBounds 3 Value.none))).update e (Obj.mapFields (·.setIfInBounds 4 (Value.bool true)))).get? b = some o := fun b o n q => by
    rw [Heap.get?_update_other _ _ (Ne.symm n), Heap.get?_update_other _ _ (Ne.symm n)]
    exact q
  have hC2 := oth _ _ hCe hC
  generalize (hp.update e (Obj.mapFields (·.setIfInBounds 3 Value.none))).update e (Obj.mapFields (·.setIfInBounds 4 (Value.bool true))) = hp2 at f2 oth hC2
  have f3 : hp2.get? e = some { cls := Value.ref C, dict := od, data := .fields ((vs.setIfInBounds 3 Value.none).setIfInBounds 4 (Value.bool true)), slots := osl } := f2
  have h13 : ((vs.setIfInBounds 3 Value.none).setIfInBounds 4 (Value.bool true))[1]? = some .none := by
    rw [Array.getElem?_setIfInBounds_ne (by decide), Array.getElem?_setIfInBounds_ne (by decide)]
    exact h1
  have hz2 : 4 < ((vs.setIfInBounds 3 Value.none).setIfInBounds 4 (Value.bool true)).size := by simpa using hz
  generalize (vs.setIfInBounds 3 Value.none).setIfInBounds 4 (Value.bool true) = vs2 at f3 h13 hz2 hE
  show wpAny (model prog w) A _ Q E ⟨hp2, g, d, tk, os⟩
  clear f1 f2 ex
  repeat (first | with_reducible refine wpAny_loadPart_at f3 ?_ | with_reducible refine wpAny_loadPart_at hC2 ?_ | (with_reducible refine wpAny_isSubtype_exc hC2 ?_; rw [hcB]) | (with_reducible refine wpAny_field f3 rfl h13 ?_) | wp_step)
  refine raiseNewH hh f3 rfl (by omega) (oth _ _ hne ho) hdh h2 hne (hE _ (fun b o n q => ?_) ?_)
  · rw [Heap.get?_update_other _ _ (Ne.symm n)]
    exact oth b o n q
  · exact Heap.get?_update_self (Obj.mapFields (·.setIfInBounds 2 (Value.ref h))) f3 (Obj.isFreed_of_fields (Obj.data_mapFields rfl _))
end
section
variable {P : Program} {w : World} {K : PySem.W.Frag} {mg : Str → Option Value} {base : Heap}
abbrev Cx.inHx (X : Cx) (h : Addr) : Cx := { X with A := X.A.mark (some (.ref h)), calm := false }
theorem Inv.inHx {X : Cx} {pins : List (Addr × Obj)} {σ : St} {H : Hp} {s : Shared} {a : Addr} (I : Inv X pins σ H s) : Inv (X.inHx a) pins σ H s :=
  ⟨⟨I.ok.mod, I.ok.kind, I.ok.glob, I.ok.blt, I.ok.above, I.ok.inj, I.ok.has, I.ok.cab, (fun z => by cases z), I.ok.frames, I.ok.stk, I.ok.exf, I.ok.bs, I.ok.bsz, I.ok.noex, I.ok.exfs, I.ok.funs, I.ok.frf⟩, I.os, I.bare, I.base, I.loc, I.cell, I.free, I.freeC, I.pin, I.hok, I.len⟩
theorem Inv.outHx {X : Cx} {pins : List (Addr × Obj)} {σ : St} {H : Hp} {s : Shared} {a : Addr} (ok : X.Ok) (I : Inv (X.inHx a) pins σ H s) : Inv X pins σ H s :=
  ⟨ok, I.os, I.bare, I.base, I.loc, I.cell, I.free, I.freeC, I.pin, I.hok, I.len⟩
theorem raise_outH {N : List Str} {qual : Str} {scope : Scope} {f : Addr} {cd : Value} {A : Around} {outer : List Env} {s0 s : Shared} {H0 H : Hp} {E : XK} {pins : List (Addr × Obj)} {σ : St} {cb : Bool} {a C dx h : Addr}
    (I : Inv ((cxOf (CX1 P w) P w K mg base N qual scope f cd A outer s0 H0 E).inHx h) pins σ H s) (ea : H a = some (.ext (XOc cb C a (some dx) true))) (hE : E (.ref C) (some a) (upd H a (.ext (XOc cb C a (some dx) false)))) :
    (cxOf (CX1 P w) P w K mg base N qual scope f cd A outer s0 H0 E).xe (.ref a) s := by
  obtain ⟨⟨vs, sl, a0, e1, e2, e3, e4⟩, _, _⟩ := (show ObjOk P w H s.heap a (.ext (XOc cb C a (some dx) true)) from I.hok a _ ea)
  refine leave1 (base := base) I.ok.frames I.stack rfl e1 rfl (e4.1 rfl) fun h' l => ?_
  obtain ⟨x1, x2⟩ := lft_xo (cb := cb) (H := upd H a (.ext (XOc cb C a (some dx) false))) l e2 e3 e4.2 (Heap.lt_size e1) fun T hT => by
    rw [upd_ne (Nat.ne_of_gt (Nat.lt_of_lt_of_le (Heap.lt_size e1) hT))]
    exact I.hok.fresh hT
  obtain ⟨u1, u2⟩ := lft_un (P := P) (w := w) (o1 := .ext (XOc cb C a (some dx) false)) I.base I.hok l rfl (Nat.le_refl _) ea (fun T z => by cases z) I.stkFree (XO.ok x1)
  exact ⟨a, C, dx, cb, _, rfl, I.os, I.bare, u1, u2, upd_same, x2, hE⟩
def sRaiseN (K : PySem.W.Frag) (E : XK) (h : Addr) (te : TE) : TS := fun _ σ H => te σ H fun v H1 => ∃ a C Cb dx Ch dh, v = .ref a ∧ XCls K C Cb ∧ H1 a = some (.ext (XO C a (some dx) true)) ∧ H1 h = some (.ext (XO Ch h dh false)) ∧ h ≠ a ∧ E (.ref C) (some a) (upd H1 a (.ext (XOc false C a (some dx) false)))
theorem ps_xraiseN {N : List Str} {qual : Str} {scope : Scope} {f : Addr} {cd : Value} {A : Around} {outer : List Env} {s0 : Shared} {H0 : Hp} {E : XK} {e ec : Expr} {te : TE} {h : Addr} {pos : Pos}
    (he : PE ((cxOf (CX1 P w) P w K mg base N qual scope f cd A outer s0 H0 E).inHx h) e te) (hc : PE ((cxOf (CX1 P w) P w K mg base N qual scope f cd A outer s0 H0 E).inHx h) ec (tC .non)) : PS ((cxOf (CX1 P w) P w K mg base N qual scope f cd A outer s0 H0 E).inHx h) (.Raise (some e) (some ec) pos) (sRaiseN K E h te) := by
  intro pins s σ H D I hq
  rw [arm_exec_Raise]
  refine wpAny_bind (wpAny_standAt ?_)
  simp only [evalOpt, Option.map]
  refine x_raiseN (h := h) rfl (wpAny_bind (thn (he pins s σ H _ I hq) fun u s1 ⟨x, H1, I1, rx, a, C, Cb, dx, Ch, dh, ex, c, ea, eh, hne, hE⟩ => wpAny_bind (wpAny_standAt (wpAny_pure ?_))))
  subst ex
  obtain rfl : u = Value.ref a := rx
  refine wpAny_bind (thn (hc pins s1 σ H1 (fun v H' => v = .non ∧ H' = H1) I1 ⟨rfl, rfl⟩) fun u2 s2 ⟨x2, H2, I2, rx2, ex2, eH⟩ => wpAny_bind (wpAny_standAt (wpAny_pure ?_)))
  subst ex2
  subst eH
  obtain rfl : u2 = Value.none := rx2
  obtain ⟨⟨vs, sl, a0, e1, e2, e3, e4⟩, _, _⟩ := (show ObjOk P w H2 s2.heap a (.ext (XO C a (some dx) true)) from I2.hok a _ ea)
  obtain ⟨⟨ws, sl2, b0, g1, g2, g3, g4⟩, _, _⟩ := (show ObjOk P w H2 s2.heap h (.ext (XO Ch h dh false)) from I2.hok h _ eh)
  obtain ⟨nm, qn, N', bs, sn, sub, ab, col, dd, k0, k1, k2, k3, k5, lk⟩ := c.lk
  have hC := I2.kIn _ _ lk
  have hCa : C ≠ a := fun z => by
    subst z
    rw [hC] at e1
    cases e1
  refine ⟨rfl, C, nm, qn, N', bs, .ref Cb :: bmV, true, sn, sub, ab, col, dd, k0, k1, k2, k3, k5, "ValueError.__new__", a, _, vs, _, ws, rfl, by simp [bmV], hC, e1, rfl, rfl, e4.1 rfl, e3, g1, rfl, g4.2 rfl, hne, hCa, fun h' oth at_ => ?_⟩
  have I3 := I2.write (x := a) (e := a) (o := .ext (XOc false C a (some dx) true)) (t' := s2.toks) (h' := h') (by rw [ea]; exact True.intro) (.inl rfl) (fun b w hb q => oth b w hb q) ⟨_, at_⟩ (XO.ok ⟨_, sl, a0, at_, ?_, ?_, fun _ => ?_, fun z => (by cases z)⟩)
  · refine raise_outH (cb := false) I3 upd_same ?_
    rw [upd_upd]
    exact hE
  · rw [Array.getElem?_setIfInBounds_ne (by decide), Array.getElem?_setIfInBounds_ne (by decide), Array.getElem?_setIfInBounds_ne (by decide)]
    exact e2
  · simpa using e3
  · rw [Array.getElem?_setIfInBounds_ne (by decide), Array.getElem?_setIfInBounds_ne (by decide), Array.getElem?_setIfInBounds_ne (by decide)]
    exact e4.1 rfl
end
section
variable {prog : Program} {w : World} {A : Around} {E : Value → Shared → Prop} {s : Shared} {env : Env}
theorem handleBy_x1 {e C2 : Addr} {t : Expr} {b₀ : Stmt} {suite : List Stmt} {pos : Pos} {rest : List ExceptHandler} {Q : Flow → Shared → Prop} (hE : PassesOwnAt (model prog w) (A.mark (some (.ref e))) A env E)
    (h : wpAny (model prog w) (A.mark (some (.ref e))) (eval t env) (fun c s₁ => c = .ref C2 ∧ Und s₁.heap e C2 ∧
      wpAny (model prog w) (A.mark (some (.ref e))) (setFlight (.ref e) none) (fun _ s₂ =>
          wpAny (model prog w) (A.mark (some (.ref e))) (execs (b₀ :: suite) env) Q E s₂) (fun _ _ => False) s₁) (fun _ _ => False) s) :
    wpAny (model prog w) A (handleBy (.ref e) env (.ExceptHandler (some t) none (b₀ :: suite) pos :: rest)) Q E s := by
  refine wpAny_handleBy_cons (codeAny_handlers_test (wpAny_mono h (fun c s₁ h₁ => ?_) fun _ _ y => y.elim)) (by intro q; cases q)
  obtain ⟨rfl, ⟨C, nm, q, N, bs, bm, hdct, sn, sub, ab, col, dd, k0, k1, k2, k3, k5, newId, nm2, q2, N2, bs2, bm2, hdct2, sn2, sub2, ab2, col2, dd2, j0, j1, j2, j3, j5, newId2, oe, hC, hC2, he, hcls, hb, hu⟩, hk⟩ := h₁
  obtain ⟨hh, g, d, tk, os⟩ := s₁
  refine x_match hC hC2 he hcls hb ?_
  rw [hu]
  exact codeAny_handlers_suite (wpAny_mono hk (fun _ s2 h2 => wpAny_passesOwnAt hE h2) fun _ _ z => z.elim)
end
def Cx.tr (X : Cx) (pins : List (Addr × Obj)) (σ : St) (E : XK) : Cx := { X with pn := X.pn ++ pins, xe := XP X pins σ E }
section
variable {X : Cx} {k : Nat} {f C2 : Addr} {fd : FuncData} {ps : List Str} {sp : Sp} {dvs : List V} {ds : List Value} {x y n cn : Str} {p np pos apos hpos cpos xpos : Pos} {e : Expr} {es : List Expr} {t : TA} {b0 : Stmt} {body suite : List Stmt} {i j : Nat}
theorem Inv.intr {pins : List (Addr × Obj)} {σ σ0 : St} {H : Hp} {s : Shared} {E : XK} (I : Inv X pins σ H s) : Inv (X.tr pins σ0 E) [] σ H s :=
  ⟨⟨I.ok.mod, I.ok.kind, I.ok.glob, I.ok.blt, I.ok.above, I.ok.inj, I.ok.has, I.ok.cab, I.ok.hd, I.ok.frames, I.ok.stk, I.ok.exf, I.ok.bs, I.ok.bsz, I.ok.noex, I.ok.exfs, I.ok.funs, I.ok.frf⟩, I.os, I.bare, I.base, I.loc, I.cell, I.free, I.freeC, (fun p hp => I.pin p (by simpa [Cx.tr] using hp)), I.hok, I.len⟩
theorem Inv.untr {pins pins0 : List (Addr × Obj)} {σ σ0 : St} {H : Hp} {s : Shared} {E : XK} (I : Inv (X.tr pins0 σ0 E) pins σ H s) : Inv X pins0 σ H s :=
  ⟨⟨I.ok.mod, I.ok.kind, I.ok.glob, I.ok.blt, I.ok.above, I.ok.inj, I.ok.has, I.ok.cab, I.ok.hd, I.ok.frames, I.ok.stk, I.ok.exf, I.ok.bs, I.ok.bsz, I.ok.noex, I.ok.exfs, I.ok.funs, I.ok.frf⟩, I.os, I.bare, I.base, I.loc, I.cell, I.free, I.freeC, (fun p hp => I.pin p (List.mem_append_left _ hp)), I.hok, I.len⟩
theorem SP.untr {pins pins0 : List (Addr × Obj)} {σ0 : St} {E : XK} {D : Ends} {fl : Flow} {s : Shared} (h : SP (X.tr pins0 σ0 E) pins D fl s) : SP X pins0 D fl s := by
  cases fl with
  | ret u =>
    obtain ⟨v, σ', H', J, q⟩ := h
    exact ⟨v, σ', H', J.untr, q⟩
  | next =>
    obtain ⟨σ', H', J, q⟩ := h
    exact ⟨σ', H', J.untr, q⟩
  | brk =>
    obtain ⟨σ', H', J, q⟩ := h
    exact ⟨σ', H', J.untr, q⟩
  | cont =>
    obtain ⟨σ', H', J, q⟩ := h
    exact ⟨σ', H', J.untr, q⟩
def tCallT (σ0 : St) (sp : Sp) (dvs : List V) (E : XK) (t : TA) : TE := fun σ H Q => σ = σ0 ∧ t σ H fun vs H1 => sp (vs ++ dvs) H1 Q E
theorem pe_callT {pins0 : List (Addr × Obj)} {σ0 : St} {E : XK} (F : FnOk X.prog X.w X.K X.mg X.base (CX1 X.prog X.w) k f fd ps sp) (hr : Room k X.A) (hg : Gl X y) (hm : X.mg y = some (.ref f)) (hk : PySem.W.keepIn X.K (.ref f) = true) (hb : Binds X.K fd ps ds) (hd : Vals dvs ds)
    (ha : PA (X.tr pins0 σ0 E) (e :: es) t)
    (hdb : (y == ("__debug__" : Str)) = false := by decide) (he : starEach (e :: es) X.env = (false, eval e X.env) :: starEach es X.env := by rfl) (hpl : (backTo cpos (starEach es X.env)).any (·.1) = false := by rfl) :
    PE (X.tr pins0 σ0 E) (.Call (.Name y p) (e :: es) [] cpos) (tCallT σ0 sp dvs E t) := by
  intro pins s σ H Q I h
  obtain ⟨rfl, h⟩ := h
  refine wpAny_Call_Name_kw (ld_glob (X := X.tr pins0 σ E) I hg hm ?_ hdb)
  refine PySem.W.callWith_K (h₀ := X.base) I.ok.mod.kin hk (thn (ha cpos pins s σ H _ I h) fun us s1 ⟨vs, H1, I1, r, q⟩ => ⟨I1.kIn, ?_⟩) he hpl
  refine wpAny_mono (run_fnX (X := X.tr pins0 σ E) F hr hb hd I1 r q) (fun _ _ z => z) fun e s2 z => ?_
  obtain ⟨a, C, dx, cb, H', rfl, I2, ea, tb, q⟩ := z
  exact ⟨a, C, dx, cb, H', rfl, I2.untr, ea, tb, q⟩
def sTryR (K : PySem.W.Frag) (C2 : Addr) (tb : St → XK → TS) (ts : Addr → TS) : TS := fun D σ H => tb σ (fun cls a H2 => ∃ b C Cb, cls = .ref C ∧ a = some b ∧ XCls K C Cb ∧ (C2 = C ∨ C2 = Cb) ∧ ts b D σ H2) D σ H
def sTryA (K : PySem.W.Frag) (C2 : Addr) (j : Nat) (tb : St → XK → TS) (ts : TS) : TS := fun D σ H => tb σ (fun cls a H2 => ∃ b C Cb, cls = .ref C ∧ a = some b ∧ XCls K C Cb ∧ (C2 = C ∨ C2 = Cb) ∧ ts { nx := fun σ' H' => D.nx (σ'.set j none) H', rt := D.rt } (σ.set j (some (.ref b))) H2) D σ H
theorem caught {pins : List (Addr × Obj)} {σ : St} {H1 : Hp} {s1 : Shared} {a C Cb dx : Addr} {cb : Bool} {Q : Unit → Shared → Prop} (hst : X.stack = X.env :: X.outer) (hfm : X.env.frame = some X.env.locals) (I1 : Inv X pins σ H1 s1) (ea : H1 a = some (.ext (XOc cb C a (some dx) false))) (tb : TBk s1.heap H1 a) (c : XCls X.K C Cb) (hu : C2 = C ∨ C2 = Cb)
    (h : ∀ h', Inv X pins σ H1 { s1 with heap := h' } → Und h' a C2 → (∀ (A : Around) (E : Value → Shared → Prop) (Q : Unit → Shared → Prop), (∀ h2, Inv X pins σ H1 { s1 with heap := h2 } → Q () { s1 with heap := h2 }) → wpAny (model X.prog X.w) A (setFlight (.ref a) none) Q E { s1 with heap := h' }) → Q () { s1 with heap := h' }) :
    wpAny (model X.prog X.w) X.A (noteFrame (.ref a) X.env) (fun _ s' => wpAny (model X.prog X.w) X.A (setFlight (.ref a) none) Q X.xe s') X.xe s1 := by
  obtain ⟨o, vs, T, oT, ts', o1, o2, o3, o4, o5, o6, o7, o8⟩ := tb
  refine noteS (base := X.base) (by rw [I1.ok.frames, hst]) (by rw [← hst]; exact I1.stack) hfm o1 o2 o3 o4 o5 o6 o7 fun h' l => ?_
  obtain ⟨⟨ws, sl, a0, e1, e2, e3, e4⟩, _, _⟩ := (show ObjOk X.prog X.w H1 s1.heap a (.ext (XOc cb C a (some dx) false)) from I1.hok a _ ea)
  rw [o1] at e1
  cases e1
  obtain ⟨x1, ⟨o', vs', T', oT', us, p1, p2, p3, p4, p5, p6, p7, p8⟩⟩ := lft_xo (cb := cb) (H := H1) l e2 e3 e4.2 (Heap.lt_size o1) fun T hT => I1.hok.fresh hT
  obtain ⟨u1, u2⟩ := lft_un2 (P := X.prog) (w := X.w) (o1 := .ext (XOc cb C a (some dx) false)) I1.hok l ea (by rw [← hst]; exact I1.stkFree) (XO.ok x1)
  rw [upd_id ea] at u1 u2
  have I2 : Inv X pins σ H1 { s1 with heap := h' } := I1.call (h' := h') (g' := s1.gens) (d' := s1.drawn) (t' := s1.toks) (ch := []) (by rw [hst]; exact u1) u2 I1.bare (fun b z => absurd z (by simp))
  obtain ⟨nm, qn, N', bs, sn, sub, ab, col, dd, k0, k1, k2, k3, k5, lk⟩ := c.lk
  obtain ⟨nm', qn', N'', bs', hd', sn', sub', ab', col', dd', k0', k1', k2', k3', k5', lb⟩ := c.lb
  have hC := I2.kIn _ _ lk
  have hCb := I2.kIn _ _ lb
  obtain ⟨w1, w2, w3, w4, _⟩ := x1
  have und : Und h' a C2 := by
    rcases hu with rfl | rfl
    · exact ⟨_, _, _, _, _, _, _, _, _, _, _, _, _, _, _, _, _, _, _, _, _, _, _, _, _, _, _, _, _, _, _, _, _, _, _, _, hC, hC, w4, rfl, by simp [bmV], by simp⟩
    · exact ⟨_, _, _, _, _, _, _, _, _, _, _, _, _, _, _, _, _, _, _, _, _, _, _, _, _, _, _, _, _, _, _, _, _, _, _, _, hC, hCb, w4, rfl, by simp [bmV], by simp⟩
  refine h h' I2 und fun A E Q hq => ?_
  refine wpAny_setFlight_none p1 p2 p3 p5 p6 (Array.getElem?_eq_some_iff.mp p7).1 ?_
  have all : ∀ b u, h'.get? b = some u → (h'.update T' (Obj.mapFields (·.setIfInBounds 3 .none))).get? b = some u := fun b u hb => by
    by_cases cc : b = T'
    · subst cc
      rw [p5] at hb
      cases hb
      obtain ⟨oc, od, dt, osl⟩ := oT'
      obtain rfl : dt = .fields us := p6
      rw [Heap.get?_update_self _ p5 (Obj.isFreed_of_fields (Obj.data_mapFields rfl _))]
      show some (Obj.mk oc od (.fields (us.setIfInBounds 3 .none)) osl) = _
      rw [same_set p7]
    · rw [Heap.get?_update_other _ _ (Ne.symm cc)]
      exact hb
  exact hq _ (I2.kept (t' := s1.toks) all)
theorem ps_tryR {tb : St → XK → TS} {ts : Addr → TS} (hst : X.stack = X.env :: X.outer) (hfm : X.env.frame = some X.env.locals) (hcg : Gl X cn) (hcm : X.mg cn = some (.ref C2)) (hp : ∀ a, PassesOwnAt (model X.prog X.w) (X.A.mark (some (.ref a))) X.A X.env X.xe)
    (hb : ∀ pins σ E, ∃ t, PSs (X.tr pins σ E) body t ∧ t = tb σ E) (hs : ∀ a, ∃ t, PSs (X.inHx a) (b0 :: suite) t ∧ t = ts a) (hdb2 : (cn == ("__debug__" : Str)) = false := by decide) :
    PS X (.Try body [.ExceptHandler (some (.Name cn np)) none (b0 :: suite) hpos] [] [] pos) (sTryR X.K C2 tb ts) := by
  have hb : ∀ pins σ E, PSs (X.tr pins σ E) body (tb σ E) := fun pins σ E => by
    obtain ⟨t, h, rfl⟩ := hb pins σ E
    exact h
  intro pins s σ H D I h
  refine wpAny_Try_except (wpAny_mono (hb pins σ _ [] s σ H D I.intr h) (fun fl s1 q => ?_) ?_)
  · have q := q.untr
    cases fl with
    | next => exact wpAny_execs_nil q
    | ret u => exact q
    | brk => exact q
    | cont => exact q
  · rintro _ s1 ⟨a, C, dx, cb, H1, rfl, I1, ea, tbk, b, C', Cb, ec, eb, c, hu, q⟩
    cases ec
    cases eb
    refine caught hst hfm I1 ea tbk c hu fun h' I2 und fl => ?_
    refine handleBy_x1 (C2 := C2) (hp a) (ld_glob (X := X.inH a) I2.inH hcg hcm ⟨rfl, und, fl _ _ _ fun h2 I3 => ?_⟩ hdb2)
    obtain ⟨t, hs, et⟩ := hs a
    subst et
    refine wpAny_mono (hs pins _ _ H1 _ I3.inHx q) (fun fl s5 z => ?_) fun _ _ z => z
    cases fl with
    | next =>
      obtain ⟨σ5, H5, I5, z⟩ := z
      exact ⟨_, H5, I5.outHx I1.ok, z⟩
    | ret u =>
      obtain ⟨v, σ5, H5, I5, rv, z⟩ := z
      exact ⟨v, _, H5, I5.outHx I1.ok, rv, z⟩
    | brk =>
      obtain ⟨_, H5, I5, z⟩ := z
      exact ⟨_, H5, I5.outHx I1.ok, z⟩
    | cont =>
      obtain ⟨_, H5, I5, z⟩ := z
      exact ⟨_, H5, I5.outHx I1.ok, z⟩
theorem ps_tryA {tb : St → XK → TS} {ts : TS} (hst : X.stack = X.env :: X.outer) (hfm : X.env.frame = some X.env.locals) (hN : X.N.Nodup) (hj : X.N[j]? = some n) (hn : X.env.scope.names.lookup n = some .local) (hcg : Gl X cn) (hcm : X.mg cn = some (.ref C2))
    (hb : ∀ pins σ E, ∃ t, PSs (X.tr pins σ E) body t ∧ t = tb σ E) (hs : ∀ a, PSs (X.inH a) (b0 :: suite) ts) (hdb2 : (cn == ("__debug__" : Str)) = false := by decide) :
    PS X (.Try body [.ExceptHandler (some (.Name cn np)) (some n) (b0 :: suite) hpos] [] [] pos) (sTryA X.K C2 j tb ts) := by
  have hb : ∀ pins σ E, PSs (X.tr pins σ E) body (tb σ E) := fun pins σ E => by
    obtain ⟨t, h, rfl⟩ := hb pins σ E
    exact h
  intro pins s σ H D I h
  refine wpAny_Try_except (wpAny_mono (hb pins σ _ [] s σ H D I.intr h) (fun fl s1 q => ?_) ?_)
  · have q := q.untr
    cases fl with
    | next => exact wpAny_execs_nil q
    | ret u => exact q
    | brk => exact q
    | cont => exact q
  · rintro _ s1 ⟨a, C, dx, cb, H1, rfl, I1, ea, tbk, b, C', Cb, ec, eb, c, hu, q⟩
    cases ec
    cases eb
    refine caught hst hfm I1 ea tbk c hu fun h' I2 und fl => ?_
    refine handleBy_x (C2 := C2) (ld_glob (X := X.inH a) I2.inH hcg hcm ⟨rfl, und, fl _ _ _ fun h2 I3 => ?_⟩ hdb2)
    refine store_ok I3 hN hj (.inl hn) (v := .ref a) (u := .ref a) rfl (fun s4 I4 => ?_) (.inr hn)
    refine wpAny_mono (hs a pins s4 _ H1 _ I4.inH q) (fun fl s5 z => ?_) fun _ _ z => z
    cases fl with
    | next =>
      obtain ⟨σ5, H5, I5, z⟩ := z
      exact name_goes (I5.outH I1.ok) hN hj hn fun s6 I6 => ⟨_, H5, I6, z⟩
    | ret u =>
      obtain ⟨v, σ5, H5, I5, rv, z⟩ := z
      exact name_goes (I5.outH I1.ok) hN hj hn fun s6 I6 => ⟨v, _, H5, I6, rv, z⟩
    | brk =>
      obtain ⟨_, _, _, z⟩ := z
      exact z.elim
    | cont =>
      obtain ⟨_, _, _, z⟩ := z
      exact z.elim
end
section
variable {X : Cx} {pos : Pos}
theorem call_isinstXc : CallR X (.builtin "isinstance") (fun xs H Q => ∃ cb a C Cb dx fs raw y c b, xs = [.ref a, y] ∧ ((∃ D, y = .ref D ∧ c = .ref D) ∨ ∃ m, y = .ty m ∧ c = .type m) ∧ H a = some (.ext (XOc cb C a (some dx) raw)) ∧ H dx = some (.xd fs) ∧ XCls X.K C Cb ∧ PySem.W.kitOne X.K (.ref C) c = some b ∧ Q (.bl b) H) := by
  intro pins s σ H xs us Q I r h
  obtain ⟨cb, a, C, Cb, dx, fs, raw, y, c, b, rfl, hy, ea, ed, xc, e, q⟩ := h
  obtain ⟨u, w', rfl, r1, r2⟩ := vals2 r
  cases (show u = Value.ref a from r1)
  obtain ⟨ox, od, mA, J, _, _⟩ := xinst I ea ed
  obtain ⟨cd, hc, hmro, _⟩ := xc.data
  have ew : w' = c := by
    rcases hy with ⟨D, rfl, rfl⟩ | ⟨m, rfl, rfl⟩
    · exact r2
    · exact r2
  subst ew
  exact PySem.W.kia_one (xkit hc hmro xc.ga xc.gn xc.cl xc.cg xc.ct xc.mo) I.kIn J e (fun z => nomatch z) fun tk => ⟨.bl b, H, I.tok _, rfl, q⟩
def tXFldc (K : PySem.W.Frag) (ta : TE) (g : Str) : TE := fun σ H Q => ta σ H fun x H1 => ∃ cb a C Cb dx fs raw i, x = .ref a ∧ H1 a = some (.ext (XOc cb C a (some dx) raw)) ∧ H1 dx = some (.xd fs) ∧ XCls K C Cb ∧ PySem.W.findIn K (.ref C) g = some none ∧ fs.lookup g = some (.int i) ∧ Q (.int i) H1
theorem pe_xfldc {o : Expr} {ta : TE} {g : Str} (hx : PE X o ta) (hb : attributeBase o g X.env (eval o X.env) = eval o X.env) : PE X (.Attribute o g pos) (tXFldc X.K ta g) := by
  intro pins s σ H Q I h
  refine attr_of hb (thn (hx pins s σ H _ I h) fun u s1 ⟨x, H1, I1, rx, cb, a, C, Cb, dx, fs, raw, iv, ex, ea, ed, c, hn, hl, q⟩ => ?_)
  subst ex
  obtain rfl : u = Value.ref a := rx
  obtain ⟨ox, od, mA, J, h1, h2⟩ := xinst I1 ea ed
  obtain ⟨cd, hc, hmro, hdct⟩ := c.data
  have r := h2 g
  rw [hl] at r
  cases em : mA g with
  | none => rw [em] at r; exact r.elim
  | some uv =>
    rw [em] at r
    obtain ⟨tk, rfl⟩ := (show ∃ tk, uv = Value.int iv tk from r)
    obtain ⟨hh, g', d, t', os⟩ := s1
    exact xget I1.kIn J hc hdct hmro c.ga c.gn hn (by rw [h1, em]) (fun id z => by cases z) fun tk2 => ⟨.int iv, H1, I1.tok _, ⟨tk, rfl⟩, q⟩
theorem stT.catsF {i j : Nat} {x y : Str} {es : List Expr} {ws : List Str} {xs : List V} {l : Addr} {p1 p2 p3 p4 pos : Pos} {D : Ends} {σ : St} {H : Hp} (hN : X.N.Nodup) (hi : X.N[i]? = some x) (hx : Loc X.env.scope x) (he : strsOf es = some ws)
    (hy : X.N[j]? = some y) (hv : Vis X.env.scope y) (hd1 : (y == ("__debug__" : Str)) = false) (hd2 : (y == ("__classdict__" : Str)) = false)
    (hs : swapsWith (.BinOp (.Name y p3) .Add (.List es p2) p4) (some (.Name x p1)) pos.line X.env = pure false) (hf : X.fn x = true ∨ X.env.scope.names.lookup x = some .local) (hl : ws.length ≤ 100)
    (hσ : σ[j]? = some (some (.ref l))) (hL : H l = some (.lst xs)) (hxl : xs.length ≤ 900)
    (q : ∀ l2 H2, H l2 = none → Same H H2 → H2 l2 = some (.lst (xs ++ ws.map V.str)) → D.nx (σ.set i (some (.ref l2))) H2) : stT X (.Assign [.Name x p1] (.BinOp (.Name y p3) .Add (.List es p2) p4) pos) D σ H := by
  refine stT.of (ps_set hN hi hx (pe_op op_catS (pv j hy hv hd1 hd2) (pe_lst (pa_strs he))) hs hf) ?_
  refine ⟨_, hσ, ?_, fun p hp => ⟨l, p, xs, ws.map V.str, rfl, rfl, SqL.of (Same.put hp _ _ hL), SqL.of upd_same, by rw [List.length_map, sizeLine_eq]; omega, fun p2 hp2 => q p2 _ ((Same.put hp).free hp2) ((Same.put hp).trans (.put hp2)) upd_same⟩⟩
  rw [List.length_map]
  exact Nat.le_of_lt (small1000 (by omega))
end
end L2
set_option Elab.async false
set_option linter.all false
set_option maxRecDepth 100000
set_option maxHeartbeats 4000000
namespace K09
open PySem L2
local macro_rules | `(tactic| dsimp! [$xs,*]) => `(tactic| simp only [tSeq, tNext, tRet, tRetN, tIfS, tIf, tB, tTest, tOp, tUn, tVar, tC, rI0, rI, rU, tAsg, gName, gNil, gCons, gLst, gTup, gSub, tDrop, tCons, tNil, tCall, tCB, tBM, tBM0, tMeth, tMake, tSl, tPart, tNoPart, tFld, sFld, tAnd, tOr, tNot, tAndV, tOrV, tNotV, L2.start, rEq, rNe, scal_ii, scal_bb, scal_ss, scal_in, scal_ni, tLst, tTup, cxOf_K, List.map_cons, List.map_nil, List.length_cons, List.length_nil, List.replicate_succ, List.replicate_zero, Nat.reduceAdd, Nat.reduceSub, Nat.zero_add, Nat.sub_self, Nat.zero_le, List.cons_append, List.nil_append, List.append_nil, List.set_cons_zero, List.set_cons_succ, List.getElem?_cons_zero, List.getElem?_cons_succ, Option.some.injEq, V.int.injEq, V.bl.injEq, V.ref.injEq, V.ty.injEq, V.str.injEq, List.cons.injEq, exists_eq_left', exists_eq_left, exists_eq_right, exists_and_left, exists_const, true_and, and_true, Bool.not_true, Bool.not_false, Bool.false_eq_true, if_true, if_false, reduceCtorEq, false_and, and_false, false_or, or_false, exists_false, decide_true, decide_false, eq_self, and_assoc, Int.toNat_natCast, tLc, tForW, tWhileW, iRng1, iRng2, iList, iTup, iEnum, iEnum0, iZip, iStr, tLc2, tGetK, tNever, tChain, tAug, ipI, tMethV, tDGet, tDIn, tDNotIn, sDPut, tDNewK, tDGet1, tDGet2, tDPop1, tDPop2, iDict, tThaw, tThawV, tFs, tFs3, tGetK0, tXMake, tXInit, sXFld, sRaise, sTry, sTry0, tXFld, tDisp, tPairs, tCallT, sTryR, sTryA, sRaiseN, tXFldc, $xs,*])
def top (i : Nat) : Stmt := PySem.Challenge.pw_heapsafe_k09_whole_programs_as_rows.main.body.getD i (.Pass ⟨0, 0, 0, 0⟩)
abbrev s_NoDeed_init : Stmt := inClass (top 2) 0
abbrev s_is_root : Stmt := top 8
abbrev s_is_number : Stmt := top 9
abbrev s_part_read : Stmt := top 10
abbrev s_deed_read : Stmt := top 11
abbrev s_deed_shown : Stmt := top 12
abbrev s_program_read : Stmt := top 13
abbrev s_program_shown : Stmt := top 14
abbrev s_law_whole : Stmt := top 16
abbrev s_law_cell_at : Stmt := top 17
abbrev s_law_drawn : Stmt := top 18
abbrev s_law_deed_by : Stmt := top 19
abbrev s_law_row : Stmt := top 20
abbrev s_law_odd_row : Stmt := top 21
abbrev s_law_told_of : Stmt := top 22
abbrev s_law_refused : Stmt := top 23
abbrev s_law : Stmt := top 24
theorem sc_NoDeed_init : FnScope ["self", "row"] ["self", "row"] (defScope s_NoDeed_init) := ⟨rfl, rfl, rfl, by decide +kernel, rfl, by decide +kernel, by decide +kernel⟩
theorem sc_is_root : FnScope ["text"] ["text"] (defScope s_is_root) := ⟨rfl, rfl, rfl, by decide +kernel, rfl, by decide +kernel, by decide +kernel⟩
theorem sc_is_number : FnScope ["text"] ["text"] (defScope s_is_number) := ⟨rfl, rfl, rfl, by decide +kernel, rfl, by decide +kernel, by decide +kernel⟩
theorem sc_part_read : FnScope ["text", "wanted", "number"] ["text", "wanted"] (defScope s_part_read) := ⟨rfl, rfl, rfl, by decide +kernel, rfl, by decide +kernel, by decide +kernel⟩
theorem sc_deed_read : FnScope ["text", "words", "wanted", "parts"] ["text"] (defScope s_deed_read) := ⟨rfl, rfl, rfl, by decide +kernel, rfl, by decide +kernel, by decide +kernel⟩
theorem sc_deed_shown : FnScope ["deed"] ["deed"] (defScope s_deed_shown) := ⟨rfl, rfl, rfl, by decide +kernel, rfl, by decide +kernel, by decide +kernel⟩
theorem sc_program_read : FnScope ["text", "deeds", "number", "row"] ["text"] (defScope s_program_read) := ⟨rfl, rfl, rfl, by decide +kernel, rfl, by decide +kernel, by decide +kernel⟩
theorem sc_program_shown : FnScope ["deeds"] ["deeds"] (defScope s_program_shown) := ⟨rfl, rfl, rfl, by decide +kernel, rfl, by decide +kernel, by decide +kernel⟩
theorem sc_law_whole : FnScope ["_law_found"] ["_law_found"] (defScope s_law_whole) := ⟨rfl, rfl, rfl, by decide +kernel, rfl, by decide +kernel, by decide +kernel⟩
theorem sc_law_cell_at : FnScope ["_law_script", "_law_k"] ["_law_script", "_law_k"] (defScope s_law_cell_at) := ⟨rfl, rfl, rfl, by decide +kernel, rfl, by decide +kernel, by decide +kernel⟩
theorem sc_law_drawn : FnScope ["_law_cell", "_law_sizes", "_law_free", "_law_number", "_law_other", "_law_found", "_law_size"] ["_law_cell", "_law_sizes", "_law_free"] (defScope s_law_drawn) := ⟨rfl, rfl, rfl, by decide +kernel, rfl, by decide +kernel, by decide +kernel⟩
theorem sc_law_deed_by : FnScope ["_law_cell", "_law_free", "_law_words", "_law_signs", "_law_which", "_law_one", "_law_two", "_law_three", "_law_at", "_law_few", "_law_far", "_law_word", "_law_number"] ["_law_cell", "_law_free"] (defScope s_law_deed_by) := ⟨rfl, rfl, rfl, by decide +kernel, rfl, by decide +kernel, by decide +kernel⟩
theorem sc_law_row : FnScope ["_law_deed", "_law_found", "_law_part"] ["_law_deed"] (defScope s_law_row) := ⟨rfl, rfl, rfl, by decide +kernel, rfl, by decide +kernel, by decide +kernel⟩
theorem sc_law_odd_row : FnScope ["_law_number", "_law_some"] ["_law_number"] (defScope s_law_odd_row) := ⟨rfl, rfl, rfl, by decide +kernel, rfl, by decide +kernel, by decide +kernel⟩
theorem sc_law_told_of : FnScope ["_law_text", "_law_told", "e"] ["_law_text"] (defScope s_law_told_of) := ⟨rfl, rfl, rfl, by decide +kernel, rfl, by decide +kernel, by decide +kernel⟩
theorem sc_law_refused : FnScope ["_law_rows", "_law_number", "_law_at", "_law_odd", "_law_bad", "_law_behind", "_law_told"] ["_law_rows", "_law_number"] (defScope s_law_refused) := ⟨rfl, rfl, rfl, by decide +kernel, rfl, by decide +kernel, by decide +kernel⟩
theorem sc_law : FnScope ["_law_script", "_law_deeds", "_law_rows", "_law_text", "_law_handed", "_law_shown_so", "_law_found", "_law_k"] ["_law_script"] (defScope s_law) := ⟨rfl, rfl, rfl, by decide +kernel, rfl, by decide +kernel, by decide +kernel⟩
set_option genInjectivity false in
set_option genSizeOfSpec false in
structure Adr where
  a_NoDeed_init : Addr
  d_NoDeed_init : FuncData
  a_is_root : Addr
  d_is_root : FuncData
  a_is_number : Addr
  d_is_number : FuncData
  a_part_read : Addr
  d_part_read : FuncData
  a_deed_read : Addr
  d_deed_read : FuncData
  a_deed_shown : Addr
  d_deed_shown : FuncData
  a_program_read : Addr
  d_program_read : FuncData
  a_program_shown : Addr
  d_program_shown : FuncData
  a_law_whole : Addr
  d_law_whole : FuncData
  a_law_cell_at : Addr
  d_law_cell_at : FuncData
  a_law_drawn : Addr
  d_law_drawn : FuncData
  a_law_deed_by : Addr
  d_law_deed_by : FuncData
  a_law_row : Addr
  d_law_row : FuncData
  a_law_odd_row : Addr
  d_law_odd_row : FuncData
  a_law_told_of : Addr
  d_law_told_of : FuncData
  a_law_refused : Addr
  d_law_refused : FuncData
  a_law : Addr
  d_law : FuncData
  c_HeapError : Addr
  c_NoDeed : Addr
  t_MOST_FIELDS : Tok
  t_MOST_FIGURES : Tok
  t_FIGURES : Tok
  t_PARTS : Addr
  u_PARTS_0 : Addr
  u_PARTS_1 : Addr
  u_PARTS_2 : Addr
  u_PARTS_3 : Addr
  u_PARTS_4 : Addr
  u_PARTS_5 : Addr
  u_PARTS_6 : Addr
  u_PARTS_7 : Addr
  u_PARTS_8 : Addr
  u_PARTS_9 : Addr
  u_PARTS_10 : Addr
  u_PARTS_11 : Addr
  u_PARTS_12 : Addr
  u_PARTS_13 : Addr
structure Txt (K : PySem.W.Frag) (mg : Str → Option Value) (a : Adr) : Prop where
  f_NoDeed_init : Fun K "__init__" "NoDeed.__init__" s_NoDeed_init a.a_NoDeed_init a.d_NoDeed_init
  b_NoDeed_init : Binds K a.d_NoDeed_init ["self", "row"] []
  in_NoDeed : PySem.W.findIn K (.ref a.c_NoDeed) "__init__" = some (some (.ref a.a_NoDeed_init))
  if_NoDeed : PySem.W.isFn K (.ref a.a_NoDeed_init) = true
  f_is_root : Fun K "is_root" "is_root" s_is_root a.a_is_root a.d_is_root
  b_is_root : Binds K a.d_is_root ["text"] []
  m_is_root : mg "is_root" = some (.ref a.a_is_root)
  f_is_number : Fun K "is_number" "is_number" s_is_number a.a_is_number a.d_is_number
  b_is_number : Binds K a.d_is_number ["text"] []
  m_is_number : mg "is_number" = some (.ref a.a_is_number)
  f_part_read : Fun K "part_read" "part_read" s_part_read a.a_part_read a.d_part_read
  b_part_read : Binds K a.d_part_read ["text", "wanted"] []
  m_part_read : mg "part_read" = some (.ref a.a_part_read)
  f_deed_read : Fun K "deed_read" "deed_read" s_deed_read a.a_deed_read a.d_deed_read
  b_deed_read : Binds K a.d_deed_read ["text"] []
  m_deed_read : mg "deed_read" = some (.ref a.a_deed_read)
  f_deed_shown : Fun K "deed_shown" "deed_shown" s_deed_shown a.a_deed_shown a.d_deed_shown
  b_deed_shown : Binds K a.d_deed_shown ["deed"] []
  m_deed_shown : mg "deed_shown" = some (.ref a.a_deed_shown)
  f_program_read : Fun K "program_read" "program_read" s_program_read a.a_program_read a.d_program_read
  b_program_read : Binds K a.d_program_read ["text"] []
  m_program_read : mg "program_read" = some (.ref a.a_program_read)
  f_program_shown : Fun K "program_shown" "program_shown" s_program_shown a.a_program_shown a.d_program_shown
  b_program_shown : Binds K a.d_program_shown ["deeds"] []
  m_program_shown : mg "program_shown" = some (.ref a.a_program_shown)
  f_law_whole : Fun K "_law_whole" "_law_whole" s_law_whole a.a_law_whole a.d_law_whole
  b_law_whole : Binds K a.d_law_whole ["_law_found"] []
  m_law_whole : mg "_law_whole" = some (.ref a.a_law_whole)
  f_law_cell_at : Fun K "_law_cell_at" "_law_cell_at" s_law_cell_at a.a_law_cell_at a.d_law_cell_at
  b_law_cell_at : Binds K a.d_law_cell_at ["_law_script", "_law_k"] []
  m_law_cell_at : mg "_law_cell_at" = some (.ref a.a_law_cell_at)
  f_law_drawn : Fun K "_law_drawn" "_law_drawn" s_law_drawn a.a_law_drawn a.d_law_drawn
  b_law_drawn : Binds K a.d_law_drawn ["_law_cell", "_law_sizes", "_law_free"] []
  m_law_drawn : mg "_law_drawn" = some (.ref a.a_law_drawn)
  f_law_deed_by : Fun K "_law_deed_by" "_law_deed_by" s_law_deed_by a.a_law_deed_by a.d_law_deed_by
  b_law_deed_by : Binds K a.d_law_deed_by ["_law_cell", "_law_free"] []
  m_law_deed_by : mg "_law_deed_by" = some (.ref a.a_law_deed_by)
  f_law_row : Fun K "_law_row" "_law_row" s_law_row a.a_law_row a.d_law_row
  b_law_row : Binds K a.d_law_row ["_law_deed"] []
  m_law_row : mg "_law_row" = some (.ref a.a_law_row)
  f_law_odd_row : Fun K "_law_odd_row" "_law_odd_row" s_law_odd_row a.a_law_odd_row a.d_law_odd_row
  b_law_odd_row : Binds K a.d_law_odd_row ["_law_number"] []
  m_law_odd_row : mg "_law_odd_row" = some (.ref a.a_law_odd_row)
  f_law_told_of : Fun K "_law_told_of" "_law_told_of" s_law_told_of a.a_law_told_of a.d_law_told_of
  b_law_told_of : Binds K a.d_law_told_of ["_law_text"] []
  m_law_told_of : mg "_law_told_of" = some (.ref a.a_law_told_of)
  f_law_refused : Fun K "_law_refused" "_law_refused" s_law_refused a.a_law_refused a.d_law_refused
  b_law_refused : Binds K a.d_law_refused ["_law_rows", "_law_number"] []
  m_law_refused : mg "_law_refused" = some (.ref a.a_law_refused)
  f_law : Fun K "law" "law" s_law a.a_law a.d_law
  m_law : mg "law" = some (.ref a.a_law)
  xc_NoDeed : XCls K a.c_NoDeed a.c_HeapError
  mc_NoDeed : mg "NoDeed" = some (.ref a.c_NoDeed)
  tk_NoDeed : PySem.W.takerIn K a.c_NoDeed "row" = some none
  fr_NoDeed : PySem.W.findIn K (.ref a.c_NoDeed) "row" = some none
  xi_HeapError : XInit K a.c_HeapError
  mc_HeapError : mg "HeapError" = some (.ref a.c_HeapError)
  ki_NoDeed_NoDeed : PySem.W.kitOne K (.ref a.c_NoDeed) (.ref a.c_NoDeed) = some true
  c_MOST_FIELDS : mg "MOST_FIELDS" = some (.int 8 a.t_MOST_FIELDS)
  c_MOST_FIGURES : mg "MOST_FIGURES" = some (.int 60 a.t_MOST_FIGURES)
  c_FIGURES : mg "FIGURES" = some (.str "0123456789" a.t_FIGURES)
  c_PARTS : mg "PARTS" = some (.ref a.t_PARTS)
  tb_PARTS : TabK K a.t_PARTS [("num", a.u_PARTS_0), ("make", a.u_PARTS_1), ("weak", a.u_PARTS_2), ("pair", a.u_PARTS_3), ("words", a.u_PARTS_4), ("put", a.u_PARTS_5), ("get", a.u_PARTS_6), ("look", a.u_PARTS_7), ("find", a.u_PARTS_8), ("copy", a.u_PARTS_9), ("drop", a.u_PARTS_10), ("tell", a.u_PARTS_11), ("same", a.u_PARTS_12), ("hear", a.u_PARTS_13)]
  qu_PARTS_0 : ∀ H : Hp, SqT K H a.u_PARTS_0 [.str "root", .str "number"]
  qu_PARTS_1 : ∀ H : Hp, SqT K H a.u_PARTS_1 [.str "root", .str "fields"]
  qu_PARTS_2 : ∀ H : Hp, SqT K H a.u_PARTS_2 [.str "root", .str "root"]
  qu_PARTS_3 : ∀ H : Hp, SqT K H a.u_PARTS_3 [.str "root", .str "root", .str "root"]
  qu_PARTS_4 : ∀ H : Hp, SqT K H a.u_PARTS_4 [.str "root", .str "number"]
  qu_PARTS_5 : ∀ H : Hp, SqT K H a.u_PARTS_5 [.str "root", .str "number", .str "root"]
  qu_PARTS_6 : ∀ H : Hp, SqT K H a.u_PARTS_6 [.str "root", .str "root", .str "number"]
  qu_PARTS_7 : ∀ H : Hp, SqT K H a.u_PARTS_7 [.str "root", .str "root"]
  qu_PARTS_8 : ∀ H : Hp, SqT K H a.u_PARTS_8 [.str "root", .str "root", .str "root"]
  qu_PARTS_9 : ∀ H : Hp, SqT K H a.u_PARTS_9 [.str "root", .str "root"]
  qu_PARTS_10 : ∀ H : Hp, SqT K H a.u_PARTS_10 [.str "root"]
  qu_PARTS_11 : ∀ H : Hp, SqT K H a.u_PARTS_11 [.str "root"]
  qu_PARTS_12 : ∀ H : Hp, SqT K H a.u_PARTS_12 [.str "root", .str "root"]
  qu_PARTS_13 : ∀ H : Hp, SqT K H a.u_PARTS_13 [.str "root"]
  n_abs : mg "abs" = none
  n_all : mg "all" = none
  n_any : mg "any" = none
  n_bool : mg "bool" = none
  n_enumerate : mg "enumerate" = none
  n_int : mg "int" = none
  n_isinstance : mg "isinstance" = none
  n_len : mg "len" = none
  n_list : mg "list" = none
  n_range : mg "range" = none
  n_str : mg "str" = none
  n_tuple : mg "tuple" = none
  n_zip : mg "zip" = none
section
variable {P : Program} {w : World} {K : PySem.W.Frag} {mg : Str → Option Value} {base : Heap} {a : Adr}
def sp_is_root : Sp := fun vs H Q _ => ∃ z, vs = [.str z] ∧ z.length ≤ 1000 ∧ Q (.bl (rootB z)) H
theorem ok_is_root (T : Txt K mg a) : FnOk P w K mg base CX0 1 a.a_is_root a.d_is_root ["text"] sp_is_root := by
  refine T.f_is_root.ok sc_is_root (fun vs H Q E h => ?_) (fun cdv A outer s H vs Q E hr h => ?_)
  · obtain ⟨_, rfl, _⟩ := h
    rfl
  · obtain ⟨z, rfl, hz, q⟩ := h
    refine ⟨_, (@pss_one _ _ _ (@ps_ret _ _ _ _ (pe_and (pe_cmpR op_eq (pe_callB call_len_str rfl T.n_len bt_len (@pa_cons _ _ _ _ _ (pv 0) pa_nil (by rfl))) pe_int (nomark _)) (pe_one (pe_chain op_leS op_leS pe_str (pv 0) pe_str))))), ?_⟩
    dsimp! []
    refine ⟨Nat.le_of_lt (small1000 hz), ?_⟩
    unfold rootB at q
    by_cases c1 : z.length = 1
    · rw [if_pos (by simpa using (by exact_mod_cast c1 : (z.length : Int) = 1))]
      rw [decide_eq_true c1, Bool.true_and] at q
      split
      · next e => rw [e, Bool.true_and] at q; exact q
      · next e =>
        rw [Bool.eq_false_iff.mpr e, Bool.false_and] at q
        exact q
    · rw [if_neg (by simpa using fun e : (z.length : Int) = 1 => c1 (by exact_mod_cast e))]
      rw [decide_eq_false c1, Bool.false_and] at q
      exact q
def sp_is_number : Sp := fun vs H Q _ => ∃ z, vs = [.str z] ∧ asc z ∧ z.length ≤ 1000 ∧ ∀ H', Same H H' → Q (.bl (numB z)) H'
theorem ok_is_number (T : Txt K mg a) : FnOk P w K mg base CX0 2 a.a_is_number a.d_is_number ["text"] sp_is_number := by
  refine T.f_is_number.ok sc_is_number (fun vs H Q E h => ?_) (fun cdv A outer s H vs Q E hr h => ?_)
  · obtain ⟨_, rfl, _⟩ := h
    rfl
  · obtain ⟨z, rfl, ha, hz, q⟩ := h
    refine ⟨_, (@pss_cons _ _ _ _ _ (ps_if (pt_not (pt_chain op_le op_le pe_int (pe_callB call_len_str rfl T.n_len bt_len (@pa_cons _ _ _ _ _ (pv 0) pa_nil (by rfl))) (pe_glob (v := .int 60) rfl T.c_MOST_FIGURES ⟨_, rfl⟩))) (@pss_one _ _ _ (@ps_ret _ _ _ _ pe_bl)) pss_nil) (@pss_cons _ _ _ _ _ ps_stT pss_bodyT)), ?_⟩
    dsimp! []
    refine ⟨Nat.le_of_lt (small1000 hz), ?_⟩
    unfold numB at q
    by_cases c1 : 1 ≤ z.length
    · rw [if_pos (by simp; omega)]
      rw [decide_eq_true c1, Bool.true_and] at q
      by_cases c2 : z.length ≤ 60
      · rw [if_neg (by simp; omega)]
        rw [decide_eq_true c2, Bool.true_and] at q
        have h0 : 0 < z.cps.size := by unfold Str.length at c1; omega
        refine joinW (fun σ' H' => σ' = [some (.str z)] ∧ H' = H ∧ (decide (z.cps[0]? = some 48) && decide (1 < z.length)) = false) (stT.of (ps_if (PW.pt (pw_and (pt_cmpR op_eq (pe_ix ix_str (pv 0) pe_int (fun _ _ => rfl)) pe_str (nomark _)) (pw_and1 (pt_cmpR op_gt (pe_callB call_len_str rfl T.n_len bt_len (@pa_cons _ _ _ _ _ (pv 0) pa_nil (by rfl))) pe_int (nomark _))))) (@pss_one _ _ _ (@ps_ret _ _ _ _ pe_bl)) pss_nil) ?_) ?_
        · dsimp! []
          refine ⟨z, 0, z.cps[0], rfl, rfl, Nat.le_of_lt (small1000 hz), atI_nat (j := 0) (by simp [h0]), ?_⟩
          refine ⟨rfl, ?_⟩
          have e0 : z.cps[0]? = some z.cps[0] := by simp [h0]
          by_cases c3 : z.cps[0] = 48
          · have e1 : decide (V.str ⟨#[z.cps[0]]⟩ = V.str "0") = true := decide_eq_true (by rw [c3]; rfl)
            have e2 : decide (z.cps[0]? = some 48) = true := decide_eq_true (by rw [e0, c3])
            rw [if_pos e1, e2, Bool.true_and]
            rw [e2, Bool.true_and] at q
            refine ⟨Nat.le_of_lt (small1000 hz), ?_⟩
            by_cases c4 : 1 < z.length
            · rw [if_pos (by simp; omega)]
              rw [decide_eq_true c4] at q
              exact q H (.refl H)
            · rw [if_neg (by simp; omega)]
              exact ⟨rfl, decide_eq_false c4⟩
          · have e1 : ¬ decide (V.str ⟨#[z.cps[0]]⟩ = V.str "0") = true := fun e => by
              have e := of_decide_eq_true e
              injection e with e
              injection e with e
              injection e with e
              injection e with e
              exact c3 e
            rw [if_neg e1]
            refine ⟨rfl, ?_⟩
            rw [decide_eq_false (by rw [e0]; simpa using c3)]
            rfl
        · rintro σ' H' ⟨rfl, rfl, hq⟩
          rw [hq, Bool.not_false, Bool.true_and] at q
          refine bodyT.of (@pss_one _ _ _ (@ps_ret _ _ _ _ (pe_callB (call_allL rfl) rfl T.n_all bt_all (@pa_cons _ _ _ _ _ (pe_lc rfl (lcok (x := "sign") (ns := []) (fr := []) rfl (by decide +kernel) rfl (by decide +kernel) rfl (List.forall_mem_nil _) rfl rfl (List.forall_mem_nil _) (by decide +kernel)) (pi_str (pv 0)) (fun _ _ _ _ => (pe_cmpR op_in_str (pv 0) (pe_glob (v := .str "0123456789") rfl T.c_FIGURES ⟨_, rfl⟩) (by with_unfolding_all rfl))) (fun _ _ _ _ => .nil)) pa_nil (by rfl))))) ?_
          dsimp! []
          refine ⟨ha, fun D hD => lc_str (fun c => .bl (figB c)) (by unfold Str.length at hz; exact hz) (fun i c ys R hc h => ?_) ⟨z.cps.toList.map figB, ?_, ?_⟩⟩
          · dsimp! [lcSlots]
            rw [in_fig (asc_lt ha hc)]
            exact h
          · refine SqL.of ?_
            rw [upd_same, List.map_map]
            rfl
          · rw [List.all_map]
            exact q _ (.put hD)
      · rw [if_pos (by simp; omega)]
        rw [decide_eq_false c2, Bool.false_and, Bool.false_and] at q
        exact q H (.refl H)
    · rw [if_neg (by simp; omega)]
      rw [decide_eq_false c1, Bool.false_and, Bool.false_and, Bool.false_and] at q
      exact q H (.refl H)
def sp_part_read : Sp := fun vs H Q _ => ∃ z t, vs = [.str z, .str t] ∧ asc z ∧ z.length ≤ 1000 ∧ ∀ H', Same H H' → Q (partV z t) H'
theorem ok_part_read (T : Txt K mg a) : FnOk P w K mg base CX0 3 a.a_part_read a.d_part_read ["text", "wanted"] sp_part_read := by
  refine T.f_part_read.ok sc_part_read (fun vs H Q E h => ?_) (fun cdv A outer s H vs Q E hr h => ?_)
  · obtain ⟨_, _, rfl, _⟩ := h
    rfl
  · obtain ⟨z, t, rfl, ha, hz, q⟩ := h
    refine ⟨_, (@pss_cons _ _ _ _ _ (ps_if (pt_cmpR op_eq (pv 1) pe_str (nomark _)) (@pss_one _ _ _ (@ps_ret _ _ _ _ (pe_ifExp (pt_val (pe_call (ok_is_root T) (hr.mono (by decide)) rfl T.m_is_root T.f_is_root.kp T.b_is_root .nil pass0 (@pa_cons _ _ _ _ _ (pv 0) pa_nil (by rfl)))) (pv 0) pe_non))) pss_nil) (@pss_cons _ _ _ _ _ (ps_if (pt_not (pt_val (pe_call (ok_is_number T) (hr.mono (by decide)) rfl T.m_is_number T.f_is_number.kp T.b_is_number .nil pass0 (@pa_cons _ _ _ _ _ (pv 0) pa_nil (by rfl))))) (@pss_one _ _ _ (@ps_ret _ _ _ _ pe_non)) pss_nil) (@pss_cons _ _ _ _ _ (ps_set (i := 2) sc_part_read.nd rfl (Or.inl rfl) (pe_callTy call_intT rfl T.n_int bt_int (@pa_cons _ _ _ _ _ (pv 0) pa_nil (by rfl)))) (@pss_one _ _ _ (@ps_ret _ _ _ _ (pe_ifExp (PW.pt (pw_and (pt_cmpR op_eq (pv 1) pe_str (nomark _)) (pw_and1 (pt_cmpR op_gt (pv 2) (pe_glob (v := .int 8) rfl T.c_MOST_FIELDS ⟨_, rfl⟩) (nomark _))))) pe_non (pv 2))))))), ?_⟩
    dsimp! [sp_is_root, sp_is_number]
    unfold partV at q
    by_cases c1 : t = "root"
    · rw [if_pos (decide_eq_true (by rw [c1]))]
      rw [if_pos c1] at q
      refine ⟨hz, ?_⟩
      split
      · next e => rw [if_pos e] at q; exact q H (.refl H)
      · next e => rw [if_neg e] at q; exact q H (.refl H)
    · rw [if_neg (by simpa using c1)]
      rw [if_neg c1] at q
      refine ⟨ha, hz, fun H' hs => ?_⟩
      by_cases c2 : numB z = true
      · rw [if_neg (by rw [c2]; decide)]
        rw [if_pos c2] at q
        have hl := (numB_all c2).2.2
        refine ⟨_, numB_int c2, by omega, ?_⟩
        by_cases c3 : t = "fields"
        · rw [if_pos (decide_eq_true (by rw [c3]))]
          by_cases c4 : 8 < numV z
          · rw [if_pos (by simp; omega)]
            rw [if_pos ⟨c3, c4⟩] at q
            exact q H' hs
          · rw [if_neg (by simp; omega)]
            rw [if_neg (fun e => c4 e.2)] at q
            exact q H' hs
        · rw [if_neg (by simpa using c3)]
          rw [if_neg (fun e => c3 e.1)] at q
          exact q H' hs
      · rw [if_pos (by simpa using c2)]
        rw [if_neg c2] at q
        exact q H' hs
def partsD : List (Str × List Str) := [("num", ["root", "number"]), ("make", ["root", "fields"]), ("weak", ["root", "root"]), ("pair", ["root", "root", "root"]), ("words", ["root", "number"]), ("put", ["root", "number", "root"]), ("get", ["root", "root", "number"]), ("look", ["root", "root"]), ("find", ["root", "root", "root"]), ("copy", ["root", "root"]), ("drop", ["root"]), ("tell", ["root"]), ("same", ["root", "root"]), ("hear", ["root"])]
def partsAt (k : Str) : Option (List Str) := PyProof.Rows.KTD.datumAt k partsD
def dParts (a : Adr) : List (Str × Addr) := [("num", a.u_PARTS_0), ("make", a.u_PARTS_1), ("weak", a.u_PARTS_2), ("pair", a.u_PARTS_3), ("words", a.u_PARTS_4), ("put", a.u_PARTS_5), ("get", a.u_PARTS_6), ("look", a.u_PARTS_7), ("find", a.u_PARTS_8), ("copy", a.u_PARTS_9), ("drop", a.u_PARTS_10), ("tell", a.u_PARTS_11), ("same", a.u_PARTS_12), ("hear", a.u_PARTS_13)]
theorem parts_at {K : PySem.W.Frag} : ∀ (D : List (Str × Addr)) (D2 : List (Str × List Str)), (∀ i : Nat, ∀ x y, D[i]? = some x → D2[i]? = some y → x.1 = y.1 ∧ ∀ H : Hp, SqT K H x.2 (y.2.map V.str)) → D.length = D2.length → ∀ k l, PyProof.Rows.KTD.datumAt k D2 = some l → ∃ b, PyProof.Rows.KTD.datumAt k D = some b ∧ ∀ H : Hp, SqT K H b (l.map V.str)
  | [], [], _, _, k, l, h => by cases h
  | x :: D, y :: D2, hh, hl, k, l, h => by
    have h0 := hh 0 x y rfl rfl
    unfold PyProof.Rows.KTD.datumAt at h ⊢
    rw [h0.1]
    by_cases c : k = y.1
    · rw [if_pos (decide_eq_true c)] at h ⊢
      cases h
      exact ⟨_, rfl, h0.2⟩
    · rw [if_neg (by simpa using c)] at h ⊢
      exact parts_at D D2 (fun i x y e1 e2 => hh (i + 1) x y e1 e2) (by simpa using hl) k l h
theorem parts_mem : ∀ {D : List (Str × List Str)} {k : Str} {l : List Str}, PyProof.Rows.KTD.datumAt k D = some l → (k, l) ∈ D
  | [], _, _, h => by cases h
  | y :: D, k, l, h => by
    unfold PyProof.Rows.KTD.datumAt at h
    by_cases c : k = y.1
    · rw [if_pos (decide_eq_true c)] at h
      cases h
      rw [c]
      exact List.mem_cons_self ..
    · rw [if_neg (by simpa using c)] at h
      exact List.mem_cons_of_mem _ (parts_mem h)
theorem parts_few {k : Str} {l : List Str} (h : partsAt k = some l) : l.length ≤ 3 := (by decide +kernel : ∀ p ∈ partsD, p.2.length ≤ 3) _ (parts_mem h)
theorem cut_tail {x : V} {xs : List V} : cutV (x :: xs) (some 1) none = xs := by
  unfold cutV HT.sIx
  simp
theorem mapStr {ws : List Str} {i : Nat} {x : V} (h : (ws.map V.str)[i]? = some x) : ∃ y, ws[i]? = some y ∧ x = V.str y := by
  rw [List.getElem?_map, Option.map_eq_some_iff] at h
  obtain ⟨y, h1, rfl⟩ := h
  exact ⟨y, h1, rfl⟩
theorem zipStr (f : Str → Str → V) : ∀ (ws ss : List Str), List.zipWith (fun x y => match x, y with | V.str x, V.str y => f x y | _, _ => .non) (ws.map V.str) (ss.map V.str) = List.zipWith f ws ss
  | [], _ => by simp
  | _ :: _, [] => by simp
  | w :: ws, s :: ss => by
    rw [List.map_cons, List.map_cons, List.zipWith_cons_cons, List.zipWith_cons_cons, zipStr f ws ss]
theorem parts_of (T : Txt K mg a) {k : Str} {l : List Str} (h : partsAt k = some l) : ∃ b, PyProof.Rows.KTD.datumAt k (dParts a) = some b ∧ ∀ H : Hp, SqT K H b (l.map V.str) := by
  refine parts_at (dParts a) partsD (fun i x y e1 e2 => ?_) rfl k l h
  have hi : i < 14 := (List.getElem?_eq_some_iff.mp e1).1
  rcases i with _ | _ | _ | _ | _ | _ | _ | _ | _ | _ | _ | _ | _ | _ | i
  · cases e1; cases e2; exact ⟨rfl, T.qu_PARTS_0⟩
  · cases e1; cases e2; exact ⟨rfl, T.qu_PARTS_1⟩
  · cases e1; cases e2; exact ⟨rfl, T.qu_PARTS_2⟩
  · cases e1; cases e2; exact ⟨rfl, T.qu_PARTS_3⟩
  · cases e1; cases e2; exact ⟨rfl, T.qu_PARTS_4⟩
  · cases e1; cases e2; exact ⟨rfl, T.qu_PARTS_5⟩
  · cases e1; cases e2; exact ⟨rfl, T.qu_PARTS_6⟩
  · cases e1; cases e2; exact ⟨rfl, T.qu_PARTS_7⟩
  · cases e1; cases e2; exact ⟨rfl, T.qu_PARTS_8⟩
  · cases e1; cases e2; exact ⟨rfl, T.qu_PARTS_9⟩
  · cases e1; cases e2; exact ⟨rfl, T.qu_PARTS_10⟩
  · cases e1; cases e2; exact ⟨rfl, T.qu_PARTS_11⟩
  · cases e1; cases e2; exact ⟨rfl, T.qu_PARTS_12⟩
  · cases e1; cases e2; exact ⟨rfl, T.qu_PARTS_13⟩
  · omega
structure Rds (z w0 : Str) (ws ss : List Str) : Prop where
  sp : PySem.Txt.split z " " = w0 :: ws
  at_ : partsAt w0 = some ss
  len : ws.length = ss.length
  few : z.length ≤ 1000
  asc : ∀ x ∈ ws, asc x ∧ x.length ≤ 1000
  ok : ∀ (i : Nat) x s, ws[i]? = some x → ss[i]? = some s → partV x s ≠ .non
theorem log60x {n : Nat} (h : n < 10 ^ 60) : ((n : Int)).natAbs.log2 < 1920 := by
  rw [Int.natAbs_natCast]
  by_cases c : n = 0
  · subst c
    decide
  · exact (Nat.log2_lt c).mpr (Nat.lt_trans h (by decide))
def sp_NoDeed (a : Adr) : Sp := fun vs H Q _ => ∃ (x : Addr) (n : Nat), vs = [.ref x, .int (n : Int)] ∧ H x = some (.ext (XO a.c_NoDeed x none true)) ∧ n < 10 ^ 60 ∧ ∀ dx, H dx = none → Q .non (upd (upd H x (.ext (XO a.c_NoDeed x (some dx) true))) dx (.xd [("row", .int (n : Int))]))
theorem ok_NoDeed_init (T : Txt K mg a) : FnOk P w K mg base CX0 1 a.a_NoDeed_init a.d_NoDeed_init ["self", "row"] (sp_NoDeed a) := by
  refine T.f_NoDeed_init.ok sc_NoDeed_init (fun vs H Q E h => ?_) (fun cdv A outer s H vs Q E hr h => ?_)
  · obtain ⟨_, _, rfl, _⟩ := h
    rfl
  · obtain ⟨x, n, rfl, hx, hn, q⟩ := h
    refine ⟨_, (@pss_cons _ _ _ _ _ (ps_expr (pe_xinit (pe_glob (v := .ref a.c_HeapError) rfl T.mc_HeapError rfl) T.xi_HeapError (@pa_cons _ _ _ _ _ (pv 0) (@pa_cons _ _ _ _ _ (pe_fstr3 (pv 1)) pa_nil (by rfl)) (by rfl)))) (@pss_one _ _ _ (ps_xset (pv 0) (pv 1) rfl))), ?_⟩
    dsimp! []
    have h1 := nt_len hn
    have e1 : (Str.ofString "row ").length = 4 := rfl
    have e2 : (Str.ofString " is no deed").length = 11 := rfl
    have e3 : (Str.ofString (toString (n : Int))).length ≤ 60 := h1
    refine ⟨by rw [sizeLine_eq]; decide, log60x hn, by rw [PySem.strLen_append, sizeLine_eq]; omega, by rw [PySem.strLen_append, PySem.strLen_append, sizeLine_eq]; omega, _, _, _, hx, T.xc_NoDeed, _, hx, _, T.xc_NoDeed, T.tk_NoDeed, q⟩
theorem datum_none : ∀ (D : List (Str × Addr)) (D2 : List (Str × List Str)), D.map (·.1) = D2.map (·.1) → ∀ k, PyProof.Rows.KTD.datumAt k D2 = none → PyProof.Rows.KTD.datumAt k D = none
  | [], [], _, k, _ => rfl
  | x :: D, y :: D2, e, k, h => by
    injection e with e1 e2
    obtain ⟨x1, x2⟩ := x
    obtain ⟨y1, y2⟩ := y
    obtain rfl : x1 = y1 := e1
    unfold PyProof.Rows.KTD.datumAt at h ⊢
    split at h
    · cases h
    · next c => rw [if_neg c]; exact datum_none D D2 e2 k h
  | [], _ :: _, e, _, _ => by cases e
  | _ :: _, [], e, _, _ => by cases e
theorem jn_in {c x : Nat} : ∀ {l : List (List Nat)} {b : List Nat}, b ∈ l → x ∈ b → x ∈ jn c l
  | [b], _, h, hx => by rw [List.mem_singleton.mp h] at hx; exact hx
  | b :: d :: r, e, h, hx => by
    show x ∈ b ++ c :: jn c (d :: r)
    rcases List.mem_cons.mp h with rfl | h
    · exact List.mem_append_left _ hx
    · exact List.mem_append_right _ (List.mem_cons_of_mem _ (jn_in h hx))
theorem jn_len {c : Nat} : ∀ {l : List (List Nat)} {b : List Nat}, b ∈ l → b.length ≤ (jn c l).length
  | [b], _, h => by rw [List.mem_singleton.mp h]; exact Nat.le_refl _
  | b :: d :: r, e, h => by
    show e.length ≤ (b ++ c :: jn c (d :: r)).length
    rw [List.length_append, List.length_cons]
    rcases List.mem_cons.mp h with rfl | h
    · omega
    · have := jn_len (c := c) h
      omega
theorem split_asc {z : Str} (ha : asc z) {x : Str} (hx : x ∈ PySem.Txt.split z " ") : asc x ∧ x.length ≤ z.length := by
  have e : ((⟨#[32]⟩ : Str).join (PySem.Txt.split z " ")).cps.toList = z.cps.toList := by
    have := PySem.StrLaws.join_split z " "
    rw [show (⟨#[32]⟩ : Str) = " " from rfl, this]
  rw [join_jn] at e
  have hm : x.cps.toList ∈ (PySem.Txt.split z " ").map fun w => w.cps.toList := List.mem_map.mpr ⟨x, hx, rfl⟩
  refine ⟨?_, ?_⟩
  · unfold asc at ha ⊢
    rw [← Array.all_toList, List.all_eq_true] at ha ⊢
    intro c hc
    have h1 := jn_in (c := 32) hm hc
    rw [e] at h1
    exact ha c h1
  · have h1 := jn_len (c := 32) hm
    rw [e] at h1
    exact h1
theorem raise_shape (T : Txt K mg a) {H1 : Hp} {E : XK} (hq : ∀ H' (x dx : Addr), Same H1 H' → H' x = some (.ext (XO a.c_NoDeed x (some dx) false)) → H' dx = some (.xd [("row", .int 1)]) → E (.ref a.c_NoDeed) (some x) H') :
    1 ≤ 1000 ∧ ∀ (x : Addr), H1 x = none → ∃ x_1 : Nat, (1 : Int) = (x_1 : Int) ∧ upd H1 x (HO.ext (XO a.c_NoDeed x none true)) x = some (HO.ext (XO a.c_NoDeed x none true)) ∧ x_1 < 10 ^ 60 ∧ ∀ (dx : Addr), upd H1 x (HO.ext (XO a.c_NoDeed x none true)) dx = none →
      ∃ x_2 x_3, XCls K x_2 x_3 ∧ ∃ x_4, upd (upd (upd H1 x (HO.ext (XO a.c_NoDeed x none true))) x (HO.ext (XO a.c_NoDeed x (some dx) true))) dx (HO.xd [(Str.ofString "row", V.int (x_1 : Int))]) x = some (HO.ext (XO x_2 x (some x_4) true)) ∧
        E (.ref x_2) (some x) (upd (upd (upd (upd H1 x (HO.ext (XO a.c_NoDeed x none true))) x (HO.ext (XO a.c_NoDeed x (some dx) true))) dx (HO.xd [(Str.ofString "row", V.int (x_1 : Int))])) x (HO.ext (XO x_2 x (some x_4) false))) := by
  refine ⟨by decide, fun x hx => ⟨1, rfl, upd_same, by decide, fun dx hd => ?_⟩⟩
  have nd : x ≠ dx := ne_of_none upd_same hd
  have hd1 : H1 dx = none := by rw [upd_ne nd.symm] at hd; exact hd
  refine ⟨_, _, T.xc_NoDeed, dx, by rw [upd_ne nd, upd_same], hq _ x dx (fun b o e => ?_) upd_same ?_⟩
  · rw [upd_ne (ne_of_none e hx), upd_ne (ne_of_none e hd1), upd_ne (ne_of_none e hx), upd_ne (ne_of_none e hx)]
    exact e
  · rw [upd_ne nd.symm, upd_same]
    rfl
def sp_deed_readX (a : Adr) : Sp := fun vs H Q E => ∃ z, vs = [.str z] ∧ asc z ∧ z.length ≤ 1000 ∧ (∀ w0 ws ss, Rds z w0 ws ss → ∀ H' (l : Addr), Same H H' → H' l = some (.tup (.str w0 :: List.zipWith partV ws ss)) → Q (.ref l) H') ∧
  ((∀ w0 ws ss, ¬ Rds z w0 ws ss) → ∀ H' (x dx : Addr), Same H H' → H' x = some (.ext (XO a.c_NoDeed x (some dx) false)) → H' dx = some (.xd [("row", .int 1)]) → E (.ref a.c_NoDeed) (some x) H')
theorem ok_deed_read (T : Txt K mg a) : FnOk P w K mg base (CX1 P w) 5 a.a_deed_read a.d_deed_read ["text"] (sp_deed_readX a) := by
  refine T.f_deed_read.okX sc_deed_read (fun vs H Q E h => ?_) (fun cdv A outer s H vs Q E hr h => ?_)
  · obtain ⟨_, rfl, _⟩ := h
    rfl
  · obtain ⟨z, rfl, ha, hz, q, qe⟩ := h
    refine ⟨_, (@pss_cons _ _ _ _ _ (ps_set (i := 1) sc_deed_read.nd rfl (Or.inl rfl) (@pe_bm _ _ _ _ _ _ _ _ _ _ _ _ PySem.F.plainAttrs_str PySem.F.slot_str_split PySem.F.type_str_split mt_split (pv 0) (@pa_cons _ _ _ _ _ pe_str pa_nil (by rfl)) (by rfl) (by rfl) (by rfl) (by rfl) (by rfl))) (@pss_cons _ _ _ _ _ (ps_set (i := 2) sc_deed_read.nd rfl (Or.inl rfl) (pe_getK0 T.tb_PARTS (pe_glob (v := .ref a.t_PARTS) rfl T.c_PARTS rfl) (pe_ix ix_list (pv 1) pe_int (fun _ _ => rfl)) ⟨rfl, rfl, rfl, rfl⟩)) pss_bodyT)), ?_⟩
    dsimp! []
    obtain ⟨w0, ws, esp⟩ : ∃ w0 ws, Txt.split z (Str.ofString " ") = w0 :: ws := by
      cases e : Txt.split z (Str.ofString " ") with
      | nil =>
        have := PyProof.Rows.len_of_split (l := (Txt.split z " ").map fun w => (w, 0)) (x := z) (y := " ") (by rw [List.map_map]; exact List.map_id _)
        rw [List.length_map, show Txt.split z " " = [] from e] at this
        exact absurd this (by decide)
      | cons w0 ws => exact ⟨w0, ws, rfl⟩
    refine ⟨rfl, by decide, by rw [sizeLine_eq]; omega, fun l hl => ?_⟩
    rw [esp]
    have h1 : upd H l (HO.lst (List.map V.str (w0 :: ws))) l = some (.lst (List.map V.str (w0 :: ws))) := upd_same
    have s1 : Same H (upd H l (HO.lst (List.map V.str (w0 :: ws)))) := .put hl
    generalize upd H l (HO.lst (List.map V.str (w0 :: ws))) = H1 at h1 s1
    refine ⟨l, _, 0, .str w0, rfl, rfl, .of h1, atI_nat (j := 0) rfl, w0, rfl, ?_⟩
    cases ep : partsAt w0 with
    | none =>
      refine .inr ⟨datum_none (dParts a) partsD rfl w0 ep, ?_⟩
      refine bodyT.of (@pss_cons _ _ _ _ _ (ps_if (PW.pt (pw_or (pt_cmpR op_isN (pv 2) pe_non (nomark _)) (pw_or1 (pt_cmpR op_ne (pe_callB call_len_seq rfl T.n_len bt_len (@pa_cons _ _ _ _ _ (pv 1) pa_nil (by rfl))) (@pe_op _ _ _ _ _ _ _ _ op_add (pe_callB call_len_seq rfl T.n_len bt_len (@pa_cons _ _ _ _ _ (pv 2) pa_nil (by rfl))) pe_int) (nomark _))))) (@pss_one _ _ _ (ps_xraise (pe_xmake T.xc_NoDeed T.in_NoDeed T.if_NoDeed (ok_NoDeed_init T) (hr.mono (by decide)) rfl T.mc_NoDeed T.b_NoDeed_init .nil pass0 (@pa_cons _ _ _ _ _ pe_int pa_nil (by rfl))))) pss_nil) pss_bodyT) ?_
      dsimp! [sp_NoDeed]
      refine raise_shape T fun H' x dx s' h1' h2' => qe (fun w1 ws1 ss1 R => ?_) H' x dx (s1.trans s') h1' h2'
      have := R.sp
      rw [show Txt.split z " " = w0 :: ws from esp] at this
      injection this with e1 e2
      have := R.at_
      rw [← e1, ep] at this
      cases this
    | some ss =>
      obtain ⟨b, hb, hqb⟩ := parts_of T ep
      refine .inl ⟨b, hb, ?_⟩
      refine bodyT.of (@pss_cons _ _ _ _ _ (ps_if (PW.pt (pw_or (pt_cmpR op_isN (pv 2) pe_non (nomark _)) (pw_or1 (pt_cmpR op_ne (pe_callB call_len_seq rfl T.n_len bt_len (@pa_cons _ _ _ _ _ (pv 1) pa_nil (by rfl))) (@pe_op _ _ _ _ _ _ _ _ op_add (pe_callB call_len_seq rfl T.n_len bt_len (@pa_cons _ _ _ _ _ (pv 2) pa_nil (by rfl))) pe_int) (nomark _))))) (@pss_one _ _ _ (ps_xraise (pe_xmake T.xc_NoDeed T.in_NoDeed T.if_NoDeed (ok_NoDeed_init T) (hr.mono (by decide)) rfl T.mc_NoDeed T.b_NoDeed_init .nil pass0 (@pa_cons _ _ _ _ _ pe_int pa_nil (by rfl))))) pss_nil) pss_bodyT) ?_
      dsimp! [sp_NoDeed]
      refine ⟨_, .inl (.of h1), _, .inr (hqb _), ?_⟩
      have uniq : ∀ w1 ws1 ss1, Rds z w1 ws1 ss1 → w1 = w0 ∧ ws1 = ws ∧ ss1 = ss := fun w1 ws1 ss1 R => by
        have h2 := R.sp
        rw [show Txt.split z " " = w0 :: ws from esp] at h2
        injection h2 with e1 e2
        have h3 := R.at_
        rw [← e1, ep] at h3
        cases h3
        exact ⟨e1.symm, e2.symm, rfl⟩
      by_cases cl : ws.length = ss.length
      · rw [if_neg (by simp [cl])]
        refine bodyT.of (@pss_cons _ _ _ _ _ (ps_lc2 (j := 3) rfl sc_deed_read.nd rfl rfl (lcok2 (x := "word") (x2 := "sort") (ns := []) (fr := []) rfl (by decide +kernel) rfl (by decide +kernel) rfl rfl (List.forall_mem_nil _) rfl rfl (List.forall_mem_nil _) (by decide +kernel)) (pi_zip rfl T.n_zip (pe_slice sl_list (pv 1) (po_some pe_int) po_none) (pv 2)) (fun _ _ _ _ => (pe_call (ok_part_read T) (hr.mono (by decide)) rfl T.m_part_read T.f_part_read.kp T.b_part_read .nil pass0 (@pa_cons _ _ _ _ _ (pv 0) (@pa_cons _ _ _ _ _ (pv 1) pa_nil (by rfl)) (by rfl)))) (fun _ _ _ _ => .nil)) pss_bodyT) ?_
        dsimp! []
        refine ⟨l, _, rfl, .of h1, fun p hp => ?_⟩
        have ec : cutV (List.map V.str (w0 :: ws)) (some 1) none = ws.map V.str := cut_tail
        rw [ec]
        have hlp : Same H (upd H1 p (.lst (ws.map V.str))) := s1.trans (.put hp)
        have hlv : upd H1 p (.lst (ws.map V.str)) l = some (.lst (V.str w0 :: List.map V.str ws)) := Same.put hp l _ h1
        have hpv : upd H1 p (.lst (ws.map V.str)) p = some (.lst (ws.map V.str)) := upd_same
        generalize upd H1 p (.lst (ws.map V.str)) = H2 at hlp hlv hpv
        have wasc : ∀ x ∈ ws, asc x ∧ x.length ≤ 1000 := fun x hx => by
          have := split_asc ha (x := x) (by rw [show Txt.split z " " = w0 :: ws from esp]; exact List.mem_cons_of_mem _ hx)
          exact ⟨this.1, Nat.le_trans this.2 hz⟩
        refine ⟨p, rfl, ⟨_, .of hpv⟩, ⟨_, hqb _⟩, fun D hD => lc_zip (fun x y => match x, y with | .str x, .str y => partV x y | _, _ => .non) hD (.of hpv) (hqb _) (by simp [cl]) (by rw [List.length_map, cl]; exact Nat.le_trans (parts_few ep) (by decide)) (fun i x y H3 R' hx hy hs h => ?_) (fun H3 hs hd => ?_)⟩
        · dsimp! [lcSlots2, sp_part_read]
          obtain ⟨x', hx', rfl⟩ := mapStr hx
          obtain ⟨y', hy', rfl⟩ := mapStr hy
          exact ⟨x', rfl, y', rfl, (wasc x' (List.mem_of_getElem? hx')).1, (wasc x' (List.mem_of_getElem? hx')).2, fun H' hs' => h H' hs'⟩
        · rw [zipStr] at hd
          refine bodyT.of (@pss_cons _ _ _ _ _ (ps_if (pt_val (pe_callB (call_anyL rfl) rfl T.n_any bt_any (@pa_cons _ _ _ _ _ (pe_lc rfl (lcok (x := "part") (ns := []) (fr := []) rfl (by decide +kernel) rfl (by decide +kernel) rfl (List.forall_mem_nil _) rfl rfl (List.forall_mem_nil _) (by decide +kernel)) (pi_list (pv 3)) (fun _ _ _ _ => (pe_cmpR op_isN (pv 0) pe_non (nomark _))) (fun _ _ _ _ => .nil)) pa_nil (by rfl)))) (@pss_one _ _ _ (ps_xraise (pe_xmake T.xc_NoDeed T.in_NoDeed T.if_NoDeed (ok_NoDeed_init T) (hr.mono (by decide)) rfl T.mc_NoDeed T.b_NoDeed_init .nil pass0 (@pa_cons _ _ _ _ _ pe_int pa_nil (by rfl))))) pss_nil) (@pss_one _ _ _ (@ps_ret _ _ _ _ (pe_callTy call_tuple_of rfl T.n_tuple bt_tuple (@pa_cons _ _ _ _ _ (@pe_op _ _ _ _ _ _ _ _ op_catS (pe_lst (@pa_cons _ _ _ _ _ (pe_ix ix_list (pv 1) pe_int (fun _ _ => rfl)) pa_nil (by rfl))) (pv 3)) pa_nil (by rfl)))))) ?_
          dsimp! [sp_NoDeed]
          have hzl : (List.zipWith partV ws ss).length ≤ 3 := by
            have := parts_few ep
            simp
            omega
          refine ⟨⟨_, .of hd⟩, fun D2 hD2 => lc_lstS ((List.zipWith partV ws ss).map fun v => .bl (decide (v = .non))) hD2 (.of hd) (by simp) (by omega) (fun i x y H4 R' hx hy hs' h => ?_) fun H4 hs' hd' => ⟨(List.zipWith partV ws ss).map fun v => decide (v = .non), ?_, ?_⟩⟩
          · dsimp! [lcSlots]
            rw [List.getElem?_map, hx] at hy
            cases hy
            exact h H4 (.refl H4)
          · refine .of ?_
            rw [hd', List.map_map]
            rfl
          · have s4 : Same H H4 := (hlp.trans hs).trans hs'
            by_cases cn : ∃ v ∈ List.zipWith partV ws ss, v = .non
            · rw [if_pos (by
                rw [List.any_map, List.any_eq_true]
                obtain ⟨v, hv, e⟩ := cn
                exact ⟨v, hv, decide_eq_true e⟩)]
              refine raise_shape T fun H' x dx s' h1' h2' => qe (fun w1 ws1 ss1 R => ?_) H' x dx (s4.trans s') h1' h2'
              obtain ⟨rfl, rfl, rfl⟩ := uniq w1 ws1 ss1 R
              obtain ⟨v, hv, e⟩ := cn
              obtain ⟨i, hi, ei⟩ := List.mem_iff_getElem.mp hv
              rw [List.getElem_zipWith] at ei
              exact R.ok i _ _ (List.getElem?_eq_getElem (by simp at hi; omega)) (List.getElem?_eq_getElem (by simp at hi; omega)) (ei.trans e)
            · rw [if_neg (by
                rw [List.any_map, List.any_eq_true]
                rintro ⟨v, hv, e⟩
                exact cn ⟨v, hv, of_decide_eq_true e⟩)]
              have R : Rds z w0 ws ss := ⟨esp, ep, cl, hz, wasc, fun i x s hx hs2 e => cn ⟨.non, by
                have hi := (List.getElem?_eq_some_iff.mp hx).1
                refine List.mem_of_getElem? (i := i) ?_
                rw [List.getElem?_zipWith, hx, hs2]
                exact congrArg some e, rfl⟩⟩
              refine ⟨l, _, 0, .str w0, rfl, rfl, .of (hs' l _ (hs l _ hlv)), atI_nat (j := 0) rfl, by rw [sizeLine_eq]; decide, fun p2 hp2 => ?_⟩
              have hD4 : upd H4 p2 (HO.lst [V.str w0]) D = some (.lst (List.zipWith partV ws ss)) := Same.put hp2 D _ (hs' D _ hd)
              refine ⟨p2, D, _, _, rfl, rfl, .of upd_same, .of hD4, by simp only [sizeLine_eq, List.length_cons, List.length_nil]; omega, fun p3 hp3 => ⟨p3, rfl, _, .inl ⟨.of upd_same, fun l3 hl3 => q w0 ws ss R _ l3 ?_ upd_same⟩⟩⟩
              exact (s4.trans (.put hp2)).trans ((Same.put hp3).trans (.put hl3))
      · rw [if_pos (by simp; omega)]
        refine raise_shape T fun H' x dx s' h1' h2' => qe (fun w1 ws1 ss1 R => ?_) H' x dx (s1.trans s') h1' h2'
        obtain ⟨rfl, rfl, rfl⟩ := uniq w1 ws1 ss1 R
        exact cl R.len
def shv : V → Str
  | .int n => Str.ofString (toString n)
  | .str z => z
  | _ => ""
def Shw (x : V) : Prop := (∃ n : Nat, n < 10 ^ 60 ∧ x = .int (n : Int)) ∨ ∃ z : Str, z.length ≤ 100 ∧ x = .str z
theorem Shw.len {x : V} (h : Shw x) : (shv x).length ≤ 100 := by
  rcases h with ⟨n, hn, rfl⟩ | ⟨z, hz, rfl⟩
  · exact Nat.le_trans (nt_len hn) (by decide)
  · exact hz
theorem log60 {n : Nat} (h : n < 10 ^ 60) : ((n : Int)).natAbs.log2 < 1920 := by
  rw [Int.natAbs_natCast]
  by_cases c : n = 0
  · subst c
    decide
  · exact (Nat.log2_lt c).mpr (Nat.lt_trans h (by decide))
theorem sum_len {ts : List Str} (h : ∀ t ∈ ts, t.length ≤ 100) : (ts.map (·.length)).sum ≤ 100 * ts.length := by
  induction ts with
  | nil => exact Nat.le_refl _
  | cons t ts ih =>
    have h1 := h t (List.mem_cons_self ..)
    have h2 := ih fun x hx => h x (List.mem_cons_of_mem _ hx)
    simp only [List.map_cons, List.sum_cons, List.length_cons]
    omega
def sp_deed_shown (K : PySem.W.Frag) : Sp := fun vs H Q _ => ∃ p xs, vs = [.ref p] ∧ SqT K H p xs ∧ xs.length ≤ 10 ∧ (∀ x ∈ xs, Shw x) ∧ ∀ H', Same H H' → Q (.str (PySem.Txt.join " " (xs.map shv))) H'
theorem ok_deed_shown (T : Txt K mg a) : FnOk P w K mg base CX0 2 a.a_deed_shown a.d_deed_shown ["deed"] (sp_deed_shown K) := by
  refine T.f_deed_shown.ok sc_deed_shown (fun vs H Q E h => ?_) (fun cdv A outer s H vs Q E hr h => ?_)
  · obtain ⟨_, _, rfl, _⟩ := h
    rfl
  · obtain ⟨p, xs, rfl, hx, hl, hs, q⟩ := h
    refine ⟨_, (@pss_one _ _ _ (@ps_ret _ _ _ _ (@pe_bm _ _ _ _ _ _ _ _ _ _ _ _ PySem.F.plainAttrs_str PySem.F.slot_str_join PySem.F.type_str_join mt_join pe_str (@pa_cons _ _ _ _ _ (pe_lc rfl (lcok (x := "part") (ns := []) (fr := []) rfl (by decide +kernel) rfl (by decide +kernel) rfl (List.forall_mem_nil _) rfl rfl (List.forall_mem_nil _) (by decide +kernel)) (pi_tup (pv 0)) (fun _ _ _ _ => (pe_callTy call_strA rfl T.n_str bt_str (@pa_cons _ _ _ _ _ (pv 0) pa_nil (by rfl)))) (fun _ _ _ _ => .nil)) pa_nil (by rfl)) (by rfl) (by rfl) (by rfl) (by rfl) (by rfl)))), ?_⟩
    dsimp! []
    refine ⟨rfl, ⟨_, hx⟩, fun D hD => lc_tupS (xs.map fun x => .str (shv x)) hD hx (by simp) (by omega) (fun i x y H2 R h1 h2 h3 h => ?_) fun H2 h1 h2 => ⟨xs.map shv, ?_, ?_, q H2 h1⟩⟩
    · dsimp! [lcSlots]
      rw [List.getElem?_map, h1] at h2
      cases h2
      rcases hs x (List.mem_of_getElem? h1) with ⟨n, hn, rfl⟩ | ⟨z, hz, rfl⟩
      · exact .inl ⟨_, rfl, log60 hn, h H2 (.refl H2)⟩
      · exact .inr ⟨_, rfl, h H2 (.refl H2)⟩
    · refine .of ?_
      rw [h2, List.map_map]
      rfl
    · have := sum_len (ts := xs.map shv) fun t ht => by
        obtain ⟨x, hx', rfl⟩ := List.mem_map.mp ht
        exact (hs x hx').len
      have e1 : (Str.ofString " ").length = 1 := by decide
      rw [e1]
      rw [List.length_map] at this ⊢
      omega
def sp_law_whole : Sp := fun vs H Q _ => ∃ n, vs = [.int n] ∧ Q (.bl true) H
theorem ok_law_whole (T : Txt K mg a) : FnOk P w K mg base CX0 1 a.a_law_whole a.d_law_whole ["_law_found"] sp_law_whole := by
  refine T.f_law_whole.ok sc_law_whole (fun vs H Q E h => ?_) (fun cdv A outer s H vs Q E hr h => ?_)
  · obtain ⟨_, rfl, _⟩ := h
    rfl
  · obtain ⟨n, rfl, q⟩ := h
    refine ⟨_, (@pss_one _ _ _ (@ps_ret _ _ _ _ (pe_and (pe_callB call_isinst rfl T.n_isinstance bt_isinstance (@pa_cons _ _ _ _ _ (pv 0) (@pa_cons _ _ _ _ _ (pe_bltn (v := .ty "int") rfl T.n_int bt_int rfl) pa_nil (by rfl)) (by rfl))) (pe_one (pe_not (pe_callB call_isinst rfl T.n_isinstance bt_isinstance (@pa_cons _ _ _ _ _ (pv 0) (@pa_cons _ _ _ _ _ (pe_bltn (v := .ty "bool") rfl T.n_bool bt_bool rfl) pa_nil (by rfl)) (by rfl)))))))), ?_⟩
    refine ⟨_, rfl, _, _, _, _, rfl, .int n, kit_same K _, true, rfl, ?_⟩
    exact iteT ⟨_, rfl, _, _, _, _, rfl, .int n, kit_int_bool K, _, rfl, q⟩
def sp_row (K : PySem.W.Frag) : Sp := fun vs H Q _ => ∃ p w0 xs, vs = [.ref p] ∧ SqT K H p (.str w0 :: xs) ∧ xs.length ≤ 9 ∧ w0.length ≤ 100 ∧ (∀ x ∈ xs, Shw x) ∧ ∀ H', Same H H' → Q (.str (PySem.Txt.join " " (w0 :: xs.map shv))) H'
theorem ok_law_row (T : Txt K mg a) : FnOk P w K mg base CX0 1 a.a_law_row a.d_law_row ["_law_deed"] (sp_row K) := by
  refine T.f_law_row.ok sc_law_row (fun vs H Q E h => ?_) (fun cdv A outer s H vs Q E hr h => ?_)
  · obtain ⟨_, _, _, rfl, _⟩ := h
    rfl
  · obtain ⟨p, w0, xs, rfl, hx, hl, h0, hs, q⟩ := h
    refine ⟨_, (@pss_cons _ _ _ _ _ (ps_set (i := 1) sc_law_row.nd rfl (Or.inl rfl) (pe_ix ix_tup (pv 0) pe_int (fun _ _ => rfl))) (@pss_cons _ _ _ _ _ (ps_forW PassesOwn.never rfl (pi_tup (pe_slice sl_tup (pv 0) (po_some pe_int) po_none)) (pg_name (i := 2) sc_law_row.nd rfl (Or.inl rfl)) pss_bodyT) pss_bodyT)), ?_⟩
    dsimp! []
    refine ⟨p, _, 0, .str w0, rfl, rfl, hx, atI_nat (j := 0) rfl, p, _, rfl, hx, ?_, fun p2 hp2 => ?_⟩
    · rw [HT.sIx_none, show (some (1 : Int)) = some ((1 : Nat) : Int) from rfl, HT.sIx_nat]
      simp
    rw [cut_tail]
    refine ⟨p2, rfl, ⟨_, .of upd_same⟩, ?_⟩
    have h2 : upd H p2 (HO.tup xs) p2 = some (.tup xs) := upd_same
    have hs2 : Same H (upd H p2 (HO.tup xs)) := .put hp2
    generalize upd H p2 (HO.tup xs) = H2 at h2 hs2
    refine fw_tup xs (fun i σ' H' => H' = H2 ∧ ∃ (o : Option V) (u : Str), u = ((xs.map shv).take i).foldl (fun u v => u ++ (" " : Str) ++ v) w0 ∧ u.length ≤ 100 + 101 * i ∧ σ' = [some (.ref p), some (.str u), o]) ⟨rfl, none, w0, rfl, by omega, rfl⟩ ?_ ?_ ?_
    · rintro i σ' H' hi ⟨rfl, _⟩
      exact .of h2
    · rintro i x σ' H' hi ⟨rfl, o, u, hu, hul, rfl⟩
      have hil := (List.getElem?_eq_some_iff.mp hi).1
      have sx := hs x (List.mem_of_getElem? hi)
      have sl := sx.len
      refine bodyT.of (@pss_one _ _ _ (ps_set (i := 1) sc_law_row.nd rfl (Or.inl rfl) (@pe_op _ _ _ _ _ _ _ _ op_add_str (@pe_op _ _ _ _ _ _ _ _ op_add_str (pv 1) pe_str) (pe_callTy call_strA rfl T.n_str bt_str (@pa_cons _ _ _ _ _ (pv 2) pa_nil (by rfl)))))) ?_
      dsimp! []
      have e1 : (Str.ofString " ").length = 1 := by decide
      have e2 : (u ++ Str.ofString " ").length = u.length + 1 := by
        unfold Str.length at *
        rw [Str.cps_append, Array.size_append]
        omega
      have e3 : ((xs.map shv).take (i + 1)).foldl (fun u v => u ++ Str.ofString " " ++ v) w0 = u ++ Str.ofString " " ++ shv x := by
        rw [List.take_add_one, List.getElem?_map, hi, List.foldl_append, hu]
        rfl
      have e4 : (u ++ Str.ofString " " ++ shv x).length = u.length + 1 + (shv x).length := by
        rw [← e2]
        unfold Str.length
        rw [Str.cps_append (u ++ Str.ofString " "), Array.size_append]
      rw [e3]
      refine ⟨by rw [sizeLine_eq]; omega, ?_⟩
      rcases sx with ⟨n, hn, rfl⟩ | ⟨z, hz, rfl⟩
      · exact .inl ⟨_, rfl, log60 hn, by rw [sizeLine_eq, e2]; exact Nat.le_trans (Nat.add_le_add_left sl _) (by omega), by omega, rfl, _, rfl⟩
      · exact .inr ⟨_, rfl, by rw [sizeLine_eq, e2]; exact Nat.le_trans (Nat.add_le_add_left sl _) (by omega), by omega, rfl, _, rfl⟩
    · rintro σ' H' ⟨rfl, o, u, hu, hul, rfl⟩
      refine bodyT.of (@pss_one _ _ _ (@ps_ret _ _ _ _ (pv 1))) ?_
      dsimp! []
      rw [hu, ← List.length_map (f := shv), List.take_length, fold_join, ← txt_join]
      exact q _ hs2
def digs : List Int → Int → List Int
  | [], _ => []
  | z :: r, n => n % z :: digs r (n / z)
def Sizes (zs : List Int) : Prop := ∀ z ∈ zs, DivOk z
def sp_law_drawn : Sp := fun vs H Q _ => ∃ c p zs f, vs = [.int c, .ref p, .bl f] ∧ H p = some (.lst (zs.map V.int)) ∧ Sizes zs ∧ zs.length ≤ 100 ∧
  ∀ n q, H q = none → Q (.ref q) (upd H q (.lst ((digs zs n).map V.int)))
theorem ok_law_drawn (T : Txt K mg a) : FnOk P w K mg base CX0 1 a.a_law_drawn a.d_law_drawn ["_law_cell", "_law_sizes", "_law_free"] sp_law_drawn := by
  refine T.f_law_drawn.ok sc_law_drawn (fun vs H Q E h => ?_) (fun cdv A outer s H vs Q E hr h => ?_)
  · obtain ⟨_, _, _, _, rfl, _⟩ := h
    rfl
  · obtain ⟨c, p, zs, f, rfl, hp, hz, hl, k⟩ := h
    refine cut 2 (fun σ' H' => H' = H ∧ ∃ (n : Int) (o4 : Option V), σ' = [some (.int c), some (.ref p), some (.bl f), some (.int n), o4, none, none])
      ⟨_, (pss_cons (ps_set (i := 5) sc_law_drawn.nd rfl (Or.inl rfl) (pe_lst pa_nil)) (pss_cons (ps_forW PassesOwn.never rfl (pi_list (pv 1)) (pg_name (i := 6) sc_law_drawn.nd rfl (Or.inl rfl)) pss_bodyT) pss_bodyT)), ?_⟩ (fun t2 B2 R2 => ⟨_, (pss_cons (ps_set (i := 3) sc_law_drawn.nd rfl (Or.inl rfl) (pe_callB call_abs rfl T.n_abs bt_abs (@pa_cons _ _ _ _ _ (pv 0) pa_nil (by rfl)))) (pss_cons (ps_if (pt_not (pt_val (pv 2))) (pss_cons (ps_set (i := 4) sc_law_drawn.nd rfl (Or.inl rfl) (pe_op op_mod (pe_op op_mul (pe_op op_add (pv 0) pe_int) pe_int) pe_int)) (pss_cons (ps_set (i := 4) sc_law_drawn.nd rfl (Or.inl rfl) (pe_op op_mul (pe_op op_mul (pe_op op_mul (pe_op op_mul (pe_op op_mul (pv 4) (pv 4)) (pv 4)) (pv 4)) (pv 4)) pe_int)) (pss_one (ps_set (i := 3) sc_law_drawn.nd rfl (Or.inl rfl) (pe_op op_add (pe_op op_mod (pe_op op_mul (pv 0) pe_int) pe_int) (pe_op op_mul pe_int (pv 4))))))) pss_nil) B2)), ?_⟩)
    · rintro σ' H' ⟨rfl, n0, o4, rfl⟩
      dsimp! []
      refine fun q hq => ?_
      have npq : p ≠ q := ne_of_none hp hq
      refine ⟨⟨_, SqL.of (by rw [upd_ne npq]; exact hp)⟩, fw_list (zs.map V.int) (fun i σ H2 => ∃ (n : Int) (l : List Int) (o6 : Option V),
        σ = [some (.int c), some (.ref p), some (.bl f), some (.int n), o4, some (.ref q), o6] ∧ H2 = upd H' q (.lst (l.map V.int)) ∧ l.length = i ∧ l ++ digs (zs.drop i) n = digs zs n0)
        ⟨n0, [], none, rfl, rfl, rfl, rfl⟩ ?_ ?_ ?_⟩
      · rintro i σ H2 _ ⟨n, l, o6, rfl, rfl, _⟩
        exact SqL.of (by rw [upd_ne npq]; exact hp)
      · rintro i x σ H2 hi ⟨n, l, o6, rfl, rfl, hl2, e⟩
        rw [List.getElem?_map] at hi
        cases ez : zs[i]? with
        | none =>
          rw [ez] at hi
          cases hi
        | some z =>
          rw [ez] at hi
          cases hi
          obtain ⟨hlt, ez2⟩ := List.getElem?_eq_some_iff.mp ez
          have hd2 : zs.drop i = z :: zs.drop (i + 1) := by rw [List.drop_eq_getElem_cons hlt, ez2]
          rw [hd2] at e
          have hzz := hz z (List.mem_of_getElem? ez)
          refine bodyT.of (@pss_cons _ _ _ _ _ (ps_expr (@pe_bm _ _ _ _ _ _ _ _ _ _ _ _ PySem.F.plainAttrs_list PySem.F.slot_list_append PySem.F.type_list_append mt_append (pv 5) (@pa_cons _ _ _ _ _ (@pe_op _ _ _ _ _ _ _ _ op_mod (pv 3) (pv 6)) pa_nil (by rfl)) (by rfl) (by rfl) (by rfl) (by rfl) (by rfl))) (@pss_one _ _ _ (ps_set (i := 3) sc_law_drawn.nd rfl (Or.inl rfl) (@pe_op _ _ _ _ _ _ _ _ op_fdivL (pv 3) (pv 6))))) ?_
          dsimp! []
          refine ⟨.inl ⟨rfl, _, SqL.of upd_same⟩, hzz.1, q, l.map V.int, _, rfl, rfl, upd_same, small1000 (by rw [List.length_map]; omega), hzz, l ++ [n % z], ?_, by simp [hl2], ?_⟩
          · rw [upd_upd, List.map_append]
            all_goals rfl
          · rw [← e]
            simp [digs]
      · rintro σ H2 ⟨n, l, o6, rfl, rfl, hl2, e⟩
        rw [List.length_map, List.drop_length] at e
        have e2 : l = digs zs n0 := by simpa [digs] using e
        rw [e2]
        refine bodyT.of (@pss_one _ _ _ (@ps_ret _ _ _ _ (pv 5))) ?_
        dsimp! []
        exact k n0 q hq
    · cases f
      · dsimp! []
        have o1 := Int.emod_nonneg ((c + 7) * 69621) (show (2147483629 : Int) ≠ 0 by decide)
        have o2 := Int.emod_lt_of_pos ((c + 7) * 69621) (show (0 : Int) < 2147483629 by decide)
        generalize (c + 7) * 69621 % 2147483629 = o at o1 o2 ⊢
        exact ⟨.inr ⟨by decide, by decide⟩, by decide, .inr ⟨by omega, by omega⟩, .inr ⟨by omega, by omega⟩, .inr ⟨by omega, by omega⟩, .inr ⟨by omega, by omega⟩, .inr ⟨by decide, by decide⟩, .inr ⟨by decide, by decide⟩, by decide, .inl ⟨by decide, by decide⟩, R2 _ _ ⟨rfl, _, _, rfl⟩⟩
      · dsimp! []
        exact R2 _ _ ⟨rfl, _, _, rfl⟩
theorem Shw.flat {x : V} (h : Shw x) : flatV x = true := by
  rcases h with ⟨n, hn, rfl⟩ | ⟨z, hz, rfl⟩ <;> rfl
def Fit (s : Str) (x : V) : Prop := (s = "root" ∧ ∃ k : Nat, k < 26 ∧ x = .str ⟨#[97 + k]⟩) ∨ (s = "number" ∧ ∃ n : Nat, n < 10 ^ 60 ∧ x = .int (n : Int)) ∨ (s = "fields" ∧ ∃ n : Nat, n ≤ 8 ∧ x = .int (n : Int))
structure Deed (w0 : Str) (xs : List V) (ss : List Str) : Prop where
  at_ : partsAt w0 = some ss
  len : xs.length = ss.length
  fit : ∀ (i : Nat) x s, xs[i]? = some x → ss[i]? = some s → Fit s x
theorem root_sign {k : Nat} (h : k < 26) : rootB ⟨#[97 + k]⟩ = true := (by decide +kernel : ∀ k < 26, rootB ⟨#[97 + k]⟩ = true) k h
theorem Fit.shw {s : Str} {x : V} (h : Fit s x) : Shw x := by
  rcases h with ⟨_, k, hk, rfl⟩ | ⟨_, n, hn, rfl⟩ | ⟨_, n, hn, rfl⟩
  · exact .inr ⟨⟨#[97 + k]⟩, (by decide : 1 ≤ 100), rfl⟩
  · exact .inl ⟨n, hn, rfl⟩
  · exact .inl ⟨n, by have : (8 : Nat) < 10 ^ 60 := by decide
                      omega, rfl⟩
theorem Fit.back {s : Str} {x : V} (h : Fit s x) : partV (shv x) s = x := by
  rcases h with ⟨rfl, k, hk, rfl⟩ | ⟨rfl, n, hn, rfl⟩ | ⟨rfl, n, hn, rfl⟩
  · unfold partV
    rw [if_pos rfl]
    show (if rootB ⟨#[97 + k]⟩ = true then _ else _) = _
    rw [if_pos (root_sign hk)]
    rfl
  · have e : shv (.int (n : Int)) = nt n := rfl
    unfold partV
    rw [e, if_neg (by decide), if_pos (numB_nt hn), if_neg (fun e => absurd e.1 (by decide)), numV_nt]
  · have hn' : n < 10 ^ 60 := by
      have : (8 : Nat) < 10 ^ 60 := by decide
      omega
    have e : shv (.int (n : Int)) = nt n := rfl
    unfold partV
    rw [e, if_neg (by decide), if_pos (numB_nt hn'), if_neg (fun e => absurd e.2 (by rw [numV_nt]; omega)), numV_nt]
theorem Fit.signs {s : Str} {x : V} (h : Fit s x) : asc (shv x) ∧ 32 ∉ (shv x).cps.toList ∧ 10 ∉ (shv x).cps.toList := by
  have num : ∀ n : Nat, asc (shv (.int (n : Int))) ∧ 32 ∉ (shv (.int (n : Int))).cps.toList ∧ 10 ∉ (shv (.int (n : Int))).cps.toList := fun n => ⟨asc_nt n, nt_free n 32 (by decide), nt_free n 10 (by decide)⟩
  rcases h with ⟨_, k, hk, rfl⟩ | ⟨_, n, hn, rfl⟩ | ⟨_, n, hn, rfl⟩
  · exact (by decide +kernel : ∀ k < 26, ((⟨#[97 + k]⟩ : Str).cps.all fun x => decide (x < 128)) = true ∧ 32 ∉ (⟨#[97 + k]⟩ : Str).cps.toList ∧ 10 ∉ (⟨#[97 + k]⟩ : Str).cps.toList) k hk
  · exact num n
  · exact num n
def rowT (w0 : Str) (xs : List V) : Str := PySem.Txt.join " " (w0 :: xs.map shv)
theorem Deed.word {w0 : Str} {xs : List V} {ss : List Str} (h : Deed w0 xs ss) : w0.length ≤ 100 ∧ 32 ∉ w0.cps.toList ∧ 10 ∉ w0.cps.toList := (by decide +kernel : ∀ p ∈ partsD, p.1.length ≤ 100 ∧ 32 ∉ p.1.cps.toList ∧ 10 ∉ p.1.cps.toList) _ (parts_mem h.at_)
theorem Deed.all {w0 : Str} {xs : List V} {ss : List Str} (h : Deed w0 xs ss) {x : V} (hx : x ∈ xs) : ∃ s, Fit s x := by
  obtain ⟨i, hi, e⟩ := List.mem_iff_getElem.mp hx
  have hl := h.len
  exact ⟨_, h.fit i x _ (by rw [List.getElem?_eq_getElem hi, e]) (List.getElem?_eq_getElem (by omega))⟩
theorem join_len (s : Str) : ∀ ts : List Str, (s.join ts).length ≤ (ts.map (·.length)).sum + ts.length * s.length
  | [] => by
    rw [Str.join.eq_1]
    exact Nat.zero_le _
  | [x] => by
    rw [Str.join.eq_2]
    simp
  | x :: y :: r => by
    have ih := join_len s (y :: r)
    rw [Str.join.eq_3 s x (y :: r) (by simp)]
    have e : (x ++ s ++ s.join (y :: r)).length = x.length + s.length + (s.join (y :: r)).length := by
      unfold Str.length
      rw [Str.cps_append, Str.cps_append, Array.size_append, Array.size_append]
    rw [e, List.map_cons, List.sum_cons, List.length_cons (a := x), Nat.succ_mul]
    omega
theorem Deed.rds {w0 : Str} {xs : List V} {ss : List Str} (h : Deed w0 xs ss) : Rds (rowT w0 xs) w0 (xs.map shv) ss := by
  have few := parts_few h.at_
  have hl := h.len
  have hall : ∀ t ∈ w0 :: xs.map shv, t.length ≤ 100 ∧ 32 ∉ t.cps.toList := fun t ht => by
    rcases List.mem_cons.mp ht with rfl | ht
    · exact ⟨h.word.1, h.word.2.1⟩
    · obtain ⟨x, hx, rfl⟩ := List.mem_map.mp ht
      obtain ⟨s, hs⟩ := h.all hx
      exact ⟨hs.shw.len, hs.signs.2.1⟩
  have e : rowT w0 xs = (⟨#[32]⟩ : Str).join (w0 :: xs.map shv) := by
    unfold rowT
    rw [txt_join]
    rfl
  refine ⟨?_, h.at_, by simp [hl], ?_, fun t ht => ?_, fun i x s hx hs => ?_⟩
  · rw [e]
    exact split_join (fun t ht => (hall t ht).2) (by simp)
  · rw [e]
    have h1 := join_len ⟨#[32]⟩ (w0 :: xs.map shv)
    have h2 := sum_len (ts := w0 :: xs.map shv) fun t ht => (hall t ht).1
    have h3 : (⟨#[32]⟩ : Str).length = 1 := rfl
    rw [h3] at h1
    rw [List.length_cons, List.length_map] at h1 h2
    omega
  · obtain ⟨x, hx, rfl⟩ := List.mem_map.mp ht
    obtain ⟨s, hs⟩ := h.all hx
    exact ⟨hs.signs.1, Nat.le_trans hs.shw.len (by decide)⟩
  · rw [List.getElem?_map, Option.map_eq_some_iff] at hx
    obtain ⟨y, hy, rfl⟩ := hx
    have f := h.fit i y s hy hs
    rw [f.back]
    rcases f with ⟨_, _, _, rfl⟩ | ⟨_, _, _, rfl⟩ | ⟨_, _, _, rfl⟩ <;> simp
theorem Deed.back {w0 : Str} {xs : List V} {ss : List Str} (h : Deed w0 xs ss) : List.zipWith partV (xs.map shv) ss = xs := by
  apply List.ext_getElem?
  intro i
  rw [List.getElem?_zipWith, List.getElem?_map]
  cases hx : xs[i]? with
  | none => rfl
  | some x =>
    have hi := (List.getElem?_eq_some_iff.mp hx).1
    have hl := h.len
    have hs : ss[i]? = some ss[i] := List.getElem?_eq_getElem (by omega)
    rw [hs]
    exact congrArg some (h.fit i x _ hx hs).back
def sp_deed_by : Sp := fun vs H Q _ => ∃ c f, vs = [.int c, .bl f] ∧ ∀ H' (l : Addr) w0 xs ss, Same H H' → H' l = some (.tup (.str w0 :: xs)) → Deed w0 xs ss → Q (.ref l) H'
def wordsD : List Str := ["num", "make", "weak", "pair", "words", "put", "get", "look", "find", "copy", "drop", "tell", "same"]
theorem words_at : ∀ d < 14, ∃ wd ∈ wordsD ++ [Str.ofString "hear"], (wordsD.map V.str ++ [V.str "hear"])[d]? = some (V.str wd) := fun d hd =>
  ⟨(wordsD ++ [Str.ofString "hear"])[d]'hd, List.getElem_mem hd, by
    rw [show wordsD.map V.str ++ [V.str "hear"] = (wordsD ++ [Str.ofString "hear"]).map V.str from rfl, List.getElem?_map, List.getElem?_eq_getElem hd]
    rfl⟩
theorem sign_at {d : Nat} (h : d < 26) : atI (Str.ofString "abcdefghijklmnopqrstuvwxyz").cps.toList (d : Int) = some (97 + d) := atI_nat ((by decide +kernel : ∀ d < 26, (Str.ofString "abcdefghijklmnopqrstuvwxyz").cps.toList[d]? = some (97 + d)) d h)
theorem Deed.one {wd : Str} {x : V} {s : Str} (h : partsAt wd = some [s]) (f : Fit s x) : Deed wd [x] [s] := ⟨h, rfl, fun i y t h1 h2 => by
  rcases i with _ | i
  · cases h1; cases h2; exact f
  · cases h1⟩
theorem Deed.two {wd : Str} {x y : V} {s t : Str} (h : partsAt wd = some [s, t]) (f : Fit s x) (g : Fit t y) : Deed wd [x, y] [s, t] := ⟨h, rfl, fun i y t h1 h2 => by
  rcases i with _ | _ | i
  · cases h1; cases h2; exact f
  · cases h1; cases h2; exact g
  · cases h1⟩
theorem Deed.three {wd : Str} {x y z : V} {s t u : Str} (h : partsAt wd = some [s, t, u]) (f : Fit s x) (g : Fit t y) (k : Fit u z) : Deed wd [x, y, z] [s, t, u] := ⟨h, rfl, fun i y t h1 h2 => by
  rcases i with _ | _ | _ | i
  · cases h1; cases h2; exact f
  · cases h1; cases h2; exact g
  · cases h1; cases h2; exact k
  · cases h1⟩
theorem dw2 : ∀ wd ∈ wordsD ++ [Str.ofString "hear"], inV (V.str wd) [V.str "num", V.str "words"] = true → partsAt wd = some (["root", "number"] : List Str) := by decide +kernel
theorem dw5 : ∀ wd ∈ wordsD ++ [Str.ofString "hear"], inV (V.str wd) [V.str "pair", V.str "find"] = true → partsAt wd = some (["root", "root", "root"] : List Str) := by decide +kernel
theorem dw6 : ∀ wd ∈ wordsD ++ [Str.ofString "hear"], inV (V.str wd) [V.str "drop", V.str "tell", V.str "hear"] = true → partsAt wd = some (["root"] : List Str) := by decide +kernel
theorem dw7 : ∀ wd ∈ wordsD ++ [Str.ofString "hear"], ¬ wd = "make" → ¬ inV (V.str wd) [V.str "num", V.str "words"] = true → ¬ wd = "put" → ¬ wd = "get" → ¬ inV (V.str wd) [V.str "pair", V.str "find"] = true → ¬ inV (V.str wd) [V.str "drop", V.str "tell", V.str "hear"] = true → partsAt wd = some (["root", "root"] : List Str) := by decide +kernel
theorem iteT' {b : Bool} {x y : Prop} (h : b = true) (hx : x) : (if (if false = true then !b else b) = true then x else y) := by
  rw [h]
  exact hx
theorem iteF' {b : Bool} {x y : Prop} (h : ¬ b = true) (hy : y) : (if (if false = true then !b else b) = true then x else y) := by
  rw [Bool.eq_false_iff.mpr h]
  exact hy
theorem sizes07 : Sizes [14, 26, 26, 26, 9, 4, 10 ^ 60] := fun z hz => by
  have h : z = 14 ∨ z = 26 ∨ z = 9 ∨ z = 4 ∨ z = 10 ^ 60 := by
    simp only [List.mem_cons, List.not_mem_nil, or_false] at hz
    omega
  rcases h with rfl | rfl | rfl | rfl | rfl
  · exact .small (by decide) (by decide)
  · exact .small (by decide) (by decide)
  · exact .small (by decide) (by decide)
  · exact .small (by decide) (by decide)
  · exact ⟨by decide, .inr (by decide +kernel)⟩
theorem mod_nat (n z : Int) (h : 0 < z) : ∃ d : Nat, n % z = (d : Int) ∧ (d : Int) < z :=
  ⟨(n % z).toNat, by have := Int.emod_nonneg n (Int.ne_of_gt h); omega, by have := Int.emod_nonneg n (Int.ne_of_gt h); have := Int.emod_lt_of_pos n h; omega⟩
theorem ok_law_deed_by (T : Txt K mg a) : FnOk P w K mg base CX0 2 a.a_law_deed_by a.d_law_deed_by ["_law_cell", "_law_free"] sp_deed_by := by
  refine T.f_law_deed_by.ok sc_law_deed_by (fun vs H Q E h => ?_) (fun cdv A outer s H vs Q E hr h => ?_)
  · obtain ⟨_, _, rfl, _⟩ := h
    rfl
  · obtain ⟨c, f, rfl, q⟩ := h
    refine ⟨_, @pss_cons _ _ _ _ _ ps_stT pss_bodyT, ?_⟩
    dsimp! []
    refine stT.strs (i := 2) (ws := wordsD) sc_law_deed_by.nd rfl (.inl rfl) rfl rfl (.inl rfl) (by decide) fun l hl => ?_
    have h1 : upd H l (HO.lst (wordsD.map V.str)) l = some (.lst (wordsD.map V.str)) := upd_same
    have s1 : Same H (upd H l (HO.lst (wordsD.map V.str))) := .put hl
    generalize upd H l (HO.lst (wordsD.map V.str)) = H1 at h1 s1
    refine bodyT.of (@pss_cons _ _ _ _ _ (ps_expr (@pe_bm _ _ _ _ _ _ _ _ _ _ _ _ PySem.F.plainAttrs_list PySem.F.slot_list_append PySem.F.type_list_append mt_append (pv 2) (@pa_cons _ _ _ _ _ pe_str pa_nil (by rfl)) (by rfl) (by rfl) (by rfl) (by rfl) (by rfl))) pss_bodyT) ?_
    dsimp! []
    refine ⟨.inl ⟨rfl, _, SqL.of h1⟩, l, _, _, rfl, rfl, h1, small1000 (by decide), ?_⟩
    have h2 : upd H1 l (HO.lst (wordsD.map V.str ++ [V.str "hear"])) l = some (.lst (wordsD.map V.str ++ [V.str "hear"])) := upd_same
    have s2 : Same H (upd H1 l (HO.lst (wordsD.map V.str ++ [V.str "hear"]))) := .putD s1 hl
    generalize upd H1 l (HO.lst (wordsD.map V.str ++ [V.str "hear"])) = H2 at h2 s2
    refine bodyT.of (@pss_cons _ _ _ _ _ (ps_set (i := 3) sc_law_deed_by.nd rfl (Or.inl rfl) pe_str) pss_bodyT) ?_
    dsimp! []
    refine bodyT.of (@pss_cons _ _ _ _ _ (ps_asg (pe_call (ok_law_drawn T) (hr.mono (by decide)) rfl T.m_law_drawn T.f_law_drawn.kp T.b_law_drawn .nil pass0 (@pa_cons _ _ _ _ _ (pv 0) (@pa_cons _ _ _ _ _ (@pe_lst _ _ _ _ (@pa_cons _ _ _ _ _ pe_int (@pa_cons _ _ _ _ _ pe_int (@pa_cons _ _ _ _ _ pe_int (@pa_cons _ _ _ _ _ pe_int (@pa_cons _ _ _ _ _ pe_int (@pa_cons _ _ _ _ _ pe_int (@pa_cons _ _ _ _ _ (@pe_op _ _ _ _ _ _ _ _ op_pow pe_int pe_int) pa_nil rfl) rfl) rfl) rfl) rfl) rfl) rfl)) (@pa_cons _ _ _ _ _ (pv 1) pa_nil rfl) rfl) rfl)) (pg_lst (n := 7) rfl (pgs_cons (pg_name (i := 4) sc_law_deed_by.nd rfl (Or.inl rfl)) (pgs_cons (pg_name (i := 5) sc_law_deed_by.nd rfl (Or.inl rfl)) (pgs_cons (pg_name (i := 6) sc_law_deed_by.nd rfl (Or.inl rfl)) (pgs_cons (pg_name (i := 7) sc_law_deed_by.nd rfl (Or.inl rfl)) (pgs_cons (pg_name (i := 8) sc_law_deed_by.nd rfl (Or.inl rfl)) (pgs_cons (pg_name (i := 9) sc_law_deed_by.nd rfl (Or.inl rfl)) (pgs_cons (pg_name (i := 10) sc_law_deed_by.nd rfl (Or.inl rfl)) pgs_nil))))))))) pss_bodyT) ?_
    dsimp! [sp_law_drawn]
    refine ⟨⟨by decide, by decide, by decide⟩, by rw [sizeLine_eq]; decide, fun p hp => ⟨[14, 26, 26, 26, 9, 4, 10 ^ 60], upd_same, sizes07, by decide, fun n r hr0 => ?_⟩⟩
    refine ⟨_, SqL.of upd_same, rfl, _, _, rfl, _, _, rfl, _, _, rfl, _, _, rfl, _, _, rfl, _, _, rfl, _, _, rfl, rfl, ?_⟩
    have nlp : l ≠ p := ne_of_none h2 hp
    have nlr : l ≠ r := ne_of_none (H := upd H2 p _) (by rw [upd_ne nlp]; exact h2) hr0
    have h3 : upd (upd H2 p (HO.lst [V.int 14, V.int 26, V.int 26, V.int 26, V.int 9, V.int 4, V.int (10 ^ Int.toNat 60)])) r (HO.lst (List.map V.int (digs [14, 26, 26, 26, 9, 4, 10 ^ 60] n))) l = some (.lst (wordsD.map V.str ++ [V.str "hear"])) := by
      rw [upd_ne nlr, upd_ne nlp]
      exact h2
    have s3 : Same H (upd (upd H2 p (HO.lst [V.int 14, V.int 26, V.int 26, V.int 26, V.int 9, V.int 4, V.int (10 ^ Int.toNat 60)])) r (HO.lst (List.map V.int (digs [14, 26, 26, 26, 9, 4, 10 ^ 60] n)))) := (s2.trans (.put hp)).trans (.put hr0)
    generalize upd (upd H2 p (HO.lst [V.int 14, V.int 26, V.int 26, V.int 26, V.int 9, V.int 4, V.int (10 ^ Int.toNat 60)])) r (HO.lst (List.map V.int (digs [14, 26, 26, 26, 9, 4, 10 ^ 60] n))) = H3 at h3 s3
    obtain ⟨d1, e1, b1⟩ := mod_nat n 14 (by decide)
    obtain ⟨d2, e2, b2⟩ := mod_nat (n / 14) 26 (by decide)
    obtain ⟨d3, e3, b3⟩ := mod_nat (n / 14 / 26) 26 (by decide)
    obtain ⟨d4, e4, b4⟩ := mod_nat (n / 14 / 26 / 26) 26 (by decide)
    obtain ⟨d5, e5, b5⟩ := mod_nat (n / 14 / 26 / 26 / 26) 9 (by decide)
    obtain ⟨d6, e6, b6⟩ := mod_nat (n / 14 / 26 / 26 / 26 / 9) 4 (by decide)
    obtain ⟨d7, e7, b7⟩ := mod_nat (n / 14 / 26 / 26 / 26 / 9 / 4) (10 ^ 60) (by decide)
    rw [e1, e2, e3, e4, e5, e6, e7]
    refine bodyT.of (@pss_cons _ _ _ _ _ (ps_set (i := 11) sc_law_deed_by.nd rfl (Or.inl rfl) (pe_ix ix_list (pv 2) (pv 4) (fun _ _ => rfl))) (@pss_cons _ _ _ _ _ (ps_set (i := 5) sc_law_deed_by.nd rfl (Or.inl rfl) (pe_ix ix_str (pv 3) (pv 5) (fun _ _ => rfl))) (@pss_cons _ _ _ _ _ (ps_set (i := 6) sc_law_deed_by.nd rfl (Or.inl rfl) (pe_ix ix_str (pv 3) (pv 6) (fun _ _ => rfl))) (@pss_cons _ _ _ _ _ (ps_set (i := 12) sc_law_deed_by.nd rfl (Or.inl rfl) (pe_ix ix_list (pe_lst (@pa_cons _ _ _ _ _ (pv 8) (@pa_cons _ _ _ _ _ (pv 10) pa_nil (by rfl)) (by rfl))) (pe_callTy call_int1 rfl T.n_int bt_int (@pa_cons _ _ _ _ _ (pe_cmpR op_eq (pv 9) pe_int (nomark _)) pa_nil (by rfl))) (fun _ _ => rfl))) pss_bodyT)))) ?_
    dsimp! []
    have far : ((d5 : Nat) : Int) < 10 ^ 60 := Int.lt_trans b5 (by decide)
    obtain ⟨m, hm, em⟩ : ∃ m : Nat, m < 10 ^ 60 ∧ atI [V.int (d5 : Int), V.int (d7 : Int)] (if decide ((d6 : Int) = 0) = true then 1 else 0) = some (.int (m : Int)) := by
      by_cases c6 : (d6 : Int) = 0
      · exact ⟨d7, by exact_mod_cast b7, by rw [decide_eq_true c6]; rfl⟩
      · exact ⟨d5, by exact_mod_cast far, by rw [decide_eq_false c6]; rfl⟩
    have g2 : d2 < 26 := by omega
    have g3 : d3 < 26 := by omega
    have g4 : d4 < 26 := by omega
    have g5 : d5 ≤ 8 := by omega
    have g1 : d1 < 14 := by omega
    obtain ⟨wd, ew, hw⟩ : ∃ wd ∈ wordsD ++ [Str.ofString "hear"], (wordsD.map V.str ++ [V.str "hear"])[d1]? = some (V.str wd) := words_at d1 g1
    refine ⟨l, _, d1, .str wd, rfl, rfl, SqL.of h3, atI_nat hw, _, _, _, rfl, rfl, by rw [sizeLine_eq]; decide, sign_at g2, _, _, _, rfl, rfl, by rw [sizeLine_eq]; decide, sign_at g3, by rw [sizeLine_eq]; decide, fun p4 hp4 => ⟨p4, _, _, _, rfl, rfl, SqL.of upd_same, em, ?_⟩⟩
    have s4 : Same H (upd H3 p4 (HO.lst [V.int (d5 : Int), V.int (d7 : Int)])) := s3.trans (.put hp4)
    generalize upd H3 p4 (HO.lst [V.int (d5 : Int), V.int (d7 : Int)]) = H4 at s4
    refine bodyT.of (@pss_cons _ _ _ _ _ (ps_if (pt_cmpR op_eq (pv 11) pe_str (nomark _)) (@pss_one _ _ _ (@ps_ret _ _ _ _ (pe_tup (@pa_cons _ _ _ _ _ (pv 11) (@pa_cons _ _ _ _ _ (pv 5) (@pa_cons _ _ _ _ _ (pv 8) pa_nil (by rfl)) (by rfl)) (by rfl))))) pss_nil) (@pss_cons _ _ _ _ _ (ps_if (pt_cmpR op_in_seq (pv 11) (pe_lst (@pa_cons _ _ _ _ _ pe_str (@pa_cons _ _ _ _ _ pe_str pa_nil (by rfl)) (by rfl))) (by with_unfolding_all rfl)) (@pss_one _ _ _ (@ps_ret _ _ _ _ (pe_tup (@pa_cons _ _ _ _ _ (pv 11) (@pa_cons _ _ _ _ _ (pv 5) (@pa_cons _ _ _ _ _ (pv 12) pa_nil (by rfl)) (by rfl)) (by rfl))))) pss_nil) (@pss_cons _ _ _ _ _ (ps_if (pt_cmpR op_eq (pv 11) pe_str (nomark _)) (@pss_one _ _ _ (@ps_ret _ _ _ _ (pe_tup (@pa_cons _ _ _ _ _ (pv 11) (@pa_cons _ _ _ _ _ (pv 5) (@pa_cons _ _ _ _ _ (pv 12) (@pa_cons _ _ _ _ _ (pv 6) pa_nil (by rfl)) (by rfl)) (by rfl)) (by rfl))))) pss_nil) (@pss_cons _ _ _ _ _ (ps_if (pt_cmpR op_eq (pv 11) pe_str (nomark _)) (@pss_one _ _ _ (@ps_ret _ _ _ _ (pe_tup (@pa_cons _ _ _ _ _ (pv 11) (@pa_cons _ _ _ _ _ (pv 5) (@pa_cons _ _ _ _ _ (pv 6) (@pa_cons _ _ _ _ _ (pv 12) pa_nil (by rfl)) (by rfl)) (by rfl)) (by rfl))))) pss_nil) (@pss_cons _ _ _ _ _ (ps_if (pt_cmpR op_in_seq (pv 11) (pe_lst (@pa_cons _ _ _ _ _ pe_str (@pa_cons _ _ _ _ _ pe_str pa_nil (by rfl)) (by rfl))) (by with_unfolding_all rfl)) (@pss_one _ _ _ (@ps_ret _ _ _ _ (pe_tup (@pa_cons _ _ _ _ _ (pv 11) (@pa_cons _ _ _ _ _ (pv 5) (@pa_cons _ _ _ _ _ (pv 6) (@pa_cons _ _ _ _ _ (pe_ix ix_str (pv 3) (pv 7) (fun _ _ => rfl)) pa_nil (by rfl)) (by rfl)) (by rfl)) (by rfl))))) pss_nil) (@pss_cons _ _ _ _ _ (ps_if (pt_cmpR op_in_seq (pv 11) (pe_lst (@pa_cons _ _ _ _ _ pe_str (@pa_cons _ _ _ _ _ pe_str (@pa_cons _ _ _ _ _ pe_str pa_nil (by rfl)) (by rfl)) (by rfl))) (by with_unfolding_all rfl)) (@pss_one _ _ _ (@ps_ret _ _ _ _ (pe_tup (@pa_cons _ _ _ _ _ (pv 11) (@pa_cons _ _ _ _ _ (pv 5) pa_nil (by rfl)) (by rfl))))) pss_nil) (@pss_one _ _ _ (@ps_ret _ _ _ _ (pe_tup (@pa_cons _ _ _ _ _ (pv 11) (@pa_cons _ _ _ _ _ (pv 5) (@pa_cons _ _ _ _ _ (pv 6) pa_nil (by rfl)) (by rfl)) (by rfl))))))))))) ?_
    dsimp! []
    have r2 : Fit "root" (.str ⟨#[97 + d2]⟩) := .inl ⟨rfl, d2, g2, rfl⟩
    have r3 : Fit "root" (.str ⟨#[97 + d3]⟩) := .inl ⟨rfl, d3, g3, rfl⟩
    have r4 : Fit "root" (.str ⟨#[97 + d4]⟩) := .inl ⟨rfl, d4, g4, rfl⟩
    have rm : Fit "number" (.int (m : Int)) := .inr (.inl ⟨rfl, m, hm, rfl⟩)
    have r5 : Fit "fields" (.int (d5 : Int)) := .inr (.inr ⟨rfl, d5, g5, rfl⟩)
    have z9 : 9 ≤ sizeLine := by rw [sizeLine_eq]; decide
    have fin : ∀ H5 (xs : List V) ss, Same H H5 → Deed wd xs ss → ∀ p, H5 p = none → Q (.ref p) (upd H5 p (.tup (.str wd :: xs))) := fun H5 xs ss s5 hd p hp => q _ p wd xs ss (s5.trans (.put hp)) upd_same hd
    by_cases c1 : wd = "make"
    · rw [if_pos (decide_eq_true c1)]
      subst c1
      exact ⟨by omega, fin _ _ _ s4 (.two rfl r2 r5)⟩
    rw [if_neg (by rw [decide_eq_false c1]; decide)]
    refine ⟨by omega, fun p5 hp5 => ⟨p5, _, rfl, .inl (.of upd_same), rfl, rfl, _, rfl, ?_⟩⟩
    have s5 := s4.trans (.put (o := .lst [V.str "num", V.str "words"]) hp5)
    generalize upd H4 p5 (HO.lst [V.str (Str.ofString "num"), V.str (Str.ofString "words")]) = H5 at s5
    by_cases c2 : inV (V.str wd) [V.str "num", V.str "words"] = true
    · exact iteT' c2 ⟨by omega, fin _ _ _ s5 (.two (dw2 wd ew c2) r2 rm)⟩
    refine iteF' c2 ?_
    by_cases c3 : wd = "put"
    · rw [if_pos (decide_eq_true c3)]
      subst c3
      exact ⟨by omega, fin _ _ _ s5 (.three rfl r2 rm r3)⟩
    rw [if_neg (by rw [decide_eq_false c3]; decide)]
    by_cases c4 : wd = "get"
    · rw [if_pos (decide_eq_true c4)]
      subst c4
      exact ⟨by omega, fin _ _ _ s5 (.three rfl r2 r3 rm)⟩
    rw [if_neg (by rw [decide_eq_false c4]; decide)]
    refine ⟨by omega, fun p6 hp6 => ⟨p6, _, rfl, .inl (.of upd_same), rfl, rfl, _, rfl, ?_⟩⟩
    have s6 := s5.trans (.put (o := .lst [V.str "pair", V.str "find"]) hp6)
    generalize upd H5 p6 (HO.lst [V.str (Str.ofString "pair"), V.str (Str.ofString "find")]) = H6 at s6
    by_cases c5 : inV (V.str wd) [V.str "pair", V.str "find"] = true
    · exact iteT' c5 ⟨_, _, _, rfl, rfl, by rw [sizeLine_eq]; decide, sign_at g4, by omega, fin _ _ _ s6 (.three (dw5 wd ew c5) r2 r3 r4)⟩
    refine iteF' c5 ?_
    refine ⟨by omega, fun p7 hp7 => ⟨p7, _, rfl, .inl (.of upd_same), rfl, rfl, _, rfl, ?_⟩⟩
    have s7 := s6.trans (.put (o := .lst [V.str "drop", V.str "tell", V.str "hear"]) hp7)
    generalize upd H6 p7 (HO.lst [V.str (Str.ofString "drop"), V.str (Str.ofString "tell"), V.str (Str.ofString "hear")]) = H7 at s7
    by_cases c6 : inV (V.str wd) [V.str "drop", V.str "tell", V.str "hear"] = true
    · exact iteT' c6 ⟨by omega, fin _ _ _ s7 (.one (dw6 wd ew c6) r2)⟩
    exact iteF' c6 ⟨by omega, fin _ _ _ s7 (.two (dw7 wd ew c1 c2 c3 c4 c5 c6) r2 r3)⟩
def sp_law_cell_at (K : PySem.W.Frag) : Sp := fun vs H Q _ => ∃ (p : Addr) (ns : List Int) (k : Int), vs = [.ref p, .int k] ∧ SqL K H p (ns.map V.int) ∧ 0 ≤ k ∧ ∀ z, Q (.int z) H
theorem ok_law_cell_at (T : Txt K mg a) : FnOk P w K mg base CX0 1 a.a_law_cell_at a.d_law_cell_at ["_law_script", "_law_k"] (sp_law_cell_at K) := by
  refine T.f_law_cell_at.ok sc_law_cell_at (fun vs H Q E h => ?_) (fun cdv A outer s H vs Q E hr h => ?_)
  · obtain ⟨_, _, _, rfl, _⟩ := h
    rfl
  · obtain ⟨p, ns, k, rfl, hS, hk, q⟩ := h
    refine ⟨_, (@pss_cons _ _ _ _ _ (ps_if (pt_cmpR op_lt (pv 1) (pe_callB call_len_seq rfl T.n_len bt_len (@pa_cons _ _ _ _ _ (pv 0) pa_nil (by rfl))) (nomark _)) (@pss_one _ _ _ (@ps_ret _ _ _ _ (pe_ix ix_list (pv 0) (pv 1) (fun _ _ => rfl)))) pss_nil) (@pss_one _ _ _ (@ps_ret _ _ _ _ pe_int))), ?_⟩
    dsimp! []
    refine ⟨_, .inl hS, ite2 (fun h => ?_) fun _ => q 0⟩
    have hlt : k.toNat < ns.length := by
      have := of_decide_eq_true h
      rw [List.length_map] at this
      omega
    have e : k = ((k.toNat : Nat) : Int) := by omega
    have hx : (ns.map V.int)[k.toNat]? = some (V.int ns[k.toNat]) := by simp [hlt]
    exact ⟨p, _, k, _, rfl, rfl, hS, (congrArg (atI _) e).trans (atI_nat hx), q _⟩
def deedR (u : Str) : Option (Str × List V) := match PySem.Txt.split u " " with
  | [] => none
  | w0 :: ws => match partsAt w0 with
    | none => none
    | some ss => if ws.length = ss.length ∧ (List.zipWith partV ws ss).all (fun v => decide (v ≠ .non)) = true then some (w0, List.zipWith partV ws ss) else none
theorem deedR_some {u w0 : Str} {ws ss : List Str} (R : Rds u w0 ws ss) : deedR u = some (w0, List.zipWith partV ws ss) := by
  unfold deedR
  rw [R.sp]
  show (match partsAt w0 with | none => none | some ss => _) = _
  rw [R.at_]
  refine if_pos ⟨R.len, ?_⟩
  rw [List.all_eq_true]
  intro v hv
  obtain ⟨i, hi, rfl⟩ := List.mem_iff_getElem.mp hv
  rw [List.getElem_zipWith]
  have hi2 : i < ws.length := by simp at hi; omega
  have hi3 : i < ss.length := by simp at hi; omega
  exact decide_eq_true (R.ok i _ _ (List.getElem?_eq_getElem hi2) (List.getElem?_eq_getElem hi3))
theorem deedR_is {u w0 : Str} {xs : List V} (ha : asc u) (hz : u.length ≤ 1000) (h : deedR u = some (w0, xs)) : ∃ ws ss, Rds u w0 ws ss ∧ xs = List.zipWith partV ws ss := by
  unfold deedR at h
  split at h
  · cases h
  · next w1 ws e1 =>
    split at h
    · cases h
    · next ss e2 =>
      split at h
      · next e3 =>
        cases h
        refine ⟨ws, ss, ⟨e1, e2, e3.1, hz, fun x hx => ?_, fun i x s hx hs e => ?_⟩, rfl⟩
        · have := split_asc ha (x := x) (by rw [e1]; exact List.mem_cons_of_mem _ hx)
          exact ⟨this.1, Nat.le_trans this.2 hz⟩
        · have h4 := List.all_eq_true.mp e3.2 .non (by
            refine List.mem_of_getElem? (i := i) ?_
            rw [List.getElem?_zipWith, hx, hs]
            exact congrArg some e)
          exact absurd rfl (of_decide_eq_true h4)
      · cases h
theorem ok_NoDeed_initH (T : Txt K mg a) : FnOkH P w K mg base CX0 1 a.a_NoDeed_init a.d_NoDeed_init ["self", "row"] (sp_NoDeed a) := by
  refine T.f_NoDeed_init.okH sc_NoDeed_init (fun vs H Q E h => ?_) (fun cdv A outer s H vs Q E h => ?_)
  · obtain ⟨_, _, rfl, _⟩ := h
    rfl
  · obtain ⟨x, n, rfl, hx, hn, q⟩ := h
    refine ⟨_, (@pss_cons _ _ _ _ _ (ps_expr (pe_xinit (pe_glob (v := .ref a.c_HeapError) rfl T.mc_HeapError rfl) T.xi_HeapError (@pa_cons _ _ _ _ _ (pv 0) (@pa_cons _ _ _ _ _ (pe_fstr3 (pv 1)) pa_nil (by rfl)) (by rfl)))) (@pss_one _ _ _ (ps_xset (pv 0) (pv 1) rfl))), ?_⟩
    dsimp! []
    have h1 := nt_len hn
    have e1 : (Str.ofString "row ").length = 4 := rfl
    have e2 : (Str.ofString " is no deed").length = 11 := rfl
    have e3 : (Str.ofString (toString (n : Int))).length ≤ 60 := h1
    refine ⟨by rw [sizeLine_eq]; decide, log60x hn, by rw [PySem.strLen_append, sizeLine_eq]; omega, by rw [PySem.strLen_append, PySem.strLen_append, sizeLine_eq]; omega, _, _, _, hx, T.xc_NoDeed, _, hx, _, T.xc_NoDeed, T.tk_NoDeed, q⟩
theorem sum_lenB {b : Nat} {ts : List Str} (h : ∀ t ∈ ts, t.length ≤ b) : (ts.map (·.length)).sum ≤ b * ts.length := by
  induction ts with
  | nil => exact Nat.zero_le _
  | cons t ts ih =>
    have h1 := h t (List.mem_cons_self ..)
    have h2 := ih fun x hx => h x (List.mem_cons_of_mem _ hx)
    simp only [List.map_cons, List.sum_cons, List.length_cons, Nat.mul_succ]
    omega
structure Lin (t : Str) : Prop where
  asc : asc t
  len : t.length ≤ 1000
  one : 10 ∉ t.cps.toList
abbrev Dd := Str × List V
def DdAt (H : Hp) (p : Addr) (d : Dd) : Prop := H p = some (.tup (.str d.1 :: d.2))
def DdsAt (H : Hp) (ps : List Addr) (ds : List Dd) : Prop := ps.length = ds.length ∧ ∀ (i : Nat) p d, ps[i]? = some p → ds[i]? = some d → DdAt H p d
theorem DdsAt.same {H H' : Hp} {ps : List Addr} {ds : List Dd} (h : DdsAt H ps ds) (s : Same H H') : DdsAt H' ps ds := ⟨h.1, fun i p d e1 e2 => s _ _ (h.2 i p d e1 e2)⟩
def linesT (ts : List Str) : Str := (⟨#[10]⟩ : Str).join ts
def sp_prog (a : Adr) : Sp := fun vs H Q E => ∃ ts : List Str, vs = [.str (linesT ts)] ∧ ts.length ≤ 100 ∧ (∀ t ∈ ts, Lin t) ∧ ts ≠ [Str.ofString ""] ∧
  (∀ ds : List Dd, ts.map deedR = ds.map some → ∀ H' l (ps : List Addr), Same H H' → H l = none → H' l = some (.lst (ps.map V.ref)) → DdsAt H' ps ds → Q (.ref l) H') ∧
  (∀ (j : Nat) t, ts[j]? = some t → deedR t = none → (∀ (i : Nat) t, i < j → ts[i]? = some t → deedR t ≠ none) → ∀ H' (x dx : Addr), Same H H' → H' x = some (.ext (XOc false a.c_NoDeed x (some dx) false)) → H' dx = some (.xd [("row", .int ((j + 1 : Nat) : Int))]) → E (.ref a.c_NoDeed) (some x) H')
theorem lines_len {ts : List Str} (hn : ts.length ≤ 100) (h : ∀ t ∈ ts, Lin t) : (linesT ts).length ≤ 200000 := by
  have h1 := join_len ⟨#[10]⟩ ts
  have h2 := sum_lenB (b := 1000) (ts := ts) fun t ht => (h t ht).len
  rw [show (⟨#[10]⟩ : Str).length = 1 from rfl] at h1
  unfold linesT
  omega
theorem lines_ne {ts : List Str} (h0 : ts ≠ []) (h : ts ≠ [Str.ofString ""]) : linesT ts ≠ "" := fun e => by
  have hl : (linesT ts).length = 0 := by rw [e]; rfl
  match ts, h0, h, hl with
  | [x], _, h, hl =>
    unfold linesT at hl
    rw [Str.join.eq_2] at hl
    refine h (congrArg (fun x => [x]) (str_toList ?_))
    have : x.cps.toList.length = 0 := by rw [len_toList]; exact hl
    rw [List.length_eq_zero_iff.mp this]
    rfl
  | x :: y :: r, _, _, hl =>
    unfold linesT at hl
    rw [Str.join.eq_3 _ _ _ (by simp), strLen_append, strLen_append, show (⟨#[10]⟩ : Str).length = 1 from rfl] at hl
    omega
theorem ok_program_read (T : Txt K mg a) : FnOk P w K mg base (CX1 P w) 6 a.a_program_read a.d_program_read ["text"] (sp_prog a) := by
  refine T.f_program_read.okX sc_program_read (fun vs H Q E h => ?_) (fun cdv A outer s H vs Q E hr h => ?_)
  · obtain ⟨_, rfl, _⟩ := h
    rfl
  · obtain ⟨ts, rfl, hz, ho, h1, q, qe⟩ := h
    refine ⟨_, (@pss_cons _ _ _ _ _ (ps_if (pt_cmpR op_eq (pv 0) pe_str (nomark _)) (@pss_one _ _ _ (@ps_ret _ _ _ _ (pe_lst pa_nil))) pss_nil) (@pss_cons _ _ _ _ _ (ps_set (i := 1) sc_program_read.nd rfl (Or.inl rfl) (pe_lst pa_nil)) (@pss_cons _ _ _ _ _ (ps_forW PassesOwn.leaving rfl (pi_enum rfl T.n_enumerate (@pe_bm _ _ _ _ _ _ _ _ _ _ _ _ PySem.F.plainAttrs_str PySem.F.slot_str_split PySem.F.type_str_split mt_split (pv 0) (@pa_cons _ _ _ _ _ pe_str pa_nil (by rfl)) (by rfl) (by rfl) (by rfl) (by rfl) (by rfl)) pe_int) (pg_tup (n := 2) rfl (pgs_cons (pg_name (i := 2) sc_program_read.nd rfl (Or.inl rfl)) (pgs_cons (pg_name (i := 3) sc_program_read.nd rfl (Or.inl rfl)) pgs_nil))) pss_bodyT) pss_bodyT))), ?_⟩
    dsimp! []
    by_cases c : ts = []
    · subst c
      rw [if_pos (by decide +kernel)]
      exact fun p hp => q [] rfl _ p [] (.put hp) hp upd_same ⟨rfl, (fun _ _ _ h => nomatch h)⟩
    rw [if_neg (fun h => lines_ne c h1 (of_decide_eq_true h))]
    have hll := lines_len hz ho
    have esp : Txt.split (linesT ts) (Str.ofString "\n") = ts := split_join (c := 10) (fun t ht => (ho t ht).one) c
    refine fun p hp => ⟨rfl, by decide, by rw [sizeLine_eq]; omega, fun l hl0 => ?_⟩
    rw [esp]
    have s1 := (Same.put (o := .lst []) hp).trans (Same.put (o := .lst (ts.map V.str)) hl0)
    have npl : p ≠ l := ne_of_none upd_same hl0
    have h1 : upd (upd H p (HO.lst [])) l (HO.lst (ts.map V.str)) p = some (.lst []) := by rw [upd_ne npl, upd_same]
    have h2 : upd (upd H p (HO.lst [])) l (HO.lst (ts.map V.str)) l = some (.lst (ts.map V.str)) := upd_same
    generalize upd (upd H p (HO.lst [])) l (HO.lst (ts.map V.str)) = H1 at h1 h2 s1
    refine ⟨1, rfl, ⟨_, .of h2⟩, by decide, fw_enum (ts.map V.str) (fun j σ' H' => ∃ (o2 o3 : Option V) (ps : List Addr) (ds : List Dd), σ' = [some (.str (linesT ts)), some (.ref p), o2, o3] ∧ Same H H' ∧ H' p = some (.lst (ps.map V.ref)) ∧ H' l = some (.lst (ts.map V.str)) ∧ ps.length = j ∧ (ts.take j).map deedR = ds.map some ∧ DdsAt H' ps ds)
      ⟨none, none, [], [], rfl, s1, h1, h2, rfl, rfl, rfl, (fun _ _ _ h => nomatch h)⟩ ?_ ?_ ?_⟩
    · rintro j σ' H' _ ⟨o2, o3, ps, ds, rfl, _, _, h, _⟩
      exact .of h
    · rintro j x t σ' H' hx ⟨o2, o3, ps, ds, rfl, s2, hp2, hl2, hpl, hrs, hR⟩ ht
      have hjl := (List.getElem?_eq_some_iff.mp hx).1
      rw [List.length_map] at hjl
      obtain ⟨z, hz2, rfl⟩ := mapStr hx
      clear hx
      have hx := hz2
      have s3 := Same.put (o := .tup [V.int ((1 + j : Nat) : Int), V.str z]) ht
      refine ⟨t, _, rfl, SqT.of upd_same, rfl, ?_⟩
      generalize upd H' t (.tup [V.int ((1 + j : Nat) : Int), V.str z]) = H3 at s3
      dsimp! []
      refine bodyT.of (@pss_one _ _ _ (ps_tryR rfl rfl rfl T.mc_NoDeed (fun _ => PassesOwnAt.leaving) (fun _ _ _ => ⟨_, (@pss_one _ _ _ (ps_expr (pe_bm PySem.F.plainAttrs_list PySem.F.slot_list_append PySem.F.type_list_append mt_append (pv 1) (pa_cons (by exact (pe_callT (ok_deed_read T) (hr.mono (by decide)) rfl T.m_deed_read T.f_deed_read.kp T.b_deed_read .nil (pa_cons (pv 3) pa_nil))) pa_nil)))), by first | exact rfl | dsimp only [Cx.tr]⟩) (fun _ => ⟨_, (@pss_one _ _ _ (ps_xraiseN (by exact (pe_xmakeH T.xc_NoDeed T.in_NoDeed T.if_NoDeed (ok_NoDeed_initH T) (hr.marked.mono (by decide)) rfl T.mc_NoDeed T.b_NoDeed_init .nil pass0 (pa_cons (pv 2) pa_nil))) pe_non)), by first | exact rfl | dsimp only [Cx.tr]⟩))) ?_
      dsimp! [sp_deed_readX, sp_NoDeed]
      have lz := ho z (List.mem_of_getElem? hx)
      have hp3 := s3 _ _ hp2
      refine ⟨.inl ⟨rfl, _, .of hp3⟩, lz.asc, lz.len, fun w0 ws ss R H4 l4 s4 h4 => ?_, fun nb H4 x4 dx4 s4 hx4 hd4 => ?_⟩
      · have hp4 := s4 _ _ hp3
        have er := deedR_some R
        have hdl : ds.length = j := by
          have := congrArg List.length hrs
          rw [List.length_map, List.length_map, List.length_take] at this
          omega
        refine ⟨p, _, _, rfl, rfl, hp4, small1000 (by rw [List.length_map]; omega), .putD ((s2.trans s3).trans s4) hp, ps ++ [l4], by rw [upd_same, List.map_append]; rfl, by rw [upd_ne npl.symm]; exact s4 _ _ (s3 _ _ hl2), by rw [List.length_append, hpl]; rfl, ds ++ [(w0, List.zipWith partV ws ss)], ?_, ⟨by rw [List.length_append, List.length_append, hR.1]; rfl, fun i x d e1 e2 => ?_⟩⟩
        · rw [List.take_add_one, hx, List.map_append, hrs, List.map_append]
          show ds.map some ++ [deedR z] = _
          rw [er]
          rfl
        · have hat : (hd : H4 x = some (.tup (.str d.1 :: d.2))) → DdAt (upd H4 p (HO.lst (ps.map V.ref ++ [V.ref l4]))) x d := fun hd => by
            show upd H4 p _ x = _
            rw [upd_ne (ne_of hd hp4 (by simp))]
            exact hd
          by_cases ci : i < ps.length
          · rw [List.getElem?_append_left ci] at e1
            rw [List.getElem?_append_left (by omega)] at e2
            exact hat (s4 _ _ (s3 _ _ (hR.2 i x d e1 e2)))
          · rw [List.getElem?_append_right (by omega)] at e1 e2
            have hi := (List.getElem?_eq_some_iff.mp e1).1
            have e0 : i - ps.length = 0 := by simp at hi; omega
            rw [e0] at e1
            rw [show i - ds.length = 0 by omega] at e2
            cases e1
            cases e2
            exact hat h4
      · have er : deedR z = none := by
          cases e : deedR z with
          | none => rfl
          | some d =>
            obtain ⟨ws, ss, R, _⟩ := deedR_is lz.asc lz.len (show deedR z = some (d.1, d.2) from e)
            exact absurd R (nb _ _ _)
        refine ⟨x4, _, rfl, rfl, _, T.xc_NoDeed, .inl rfl, by decide, fun x hx5 => ⟨1 + j, rfl, upd_same, by omega, fun dx hd => ?_⟩⟩
        have nd : x ≠ dx := ne_of_none upd_same hd
        have hd1 : H4 dx = none := by rw [upd_ne nd.symm] at hd; exact hd
        have nx4 : x4 ≠ x := ne_of_none hx4 hx5
        have nx5 : x4 ≠ dx := ne_of_none hx4 hd1
        refine ⟨_, _, T.xc_NoDeed, dx, by rw [upd_ne nd, upd_same], _, _, by rw [upd_ne nx5, upd_ne nx4, upd_ne nx4]; exact hx4, nx4, ?_⟩
        refine qe j z hx er (fun i t hi ht e => ?_) _ x dx (fun b o e => ?_) upd_same ?_
        · have e2 : ((ts.take j).map deedR)[i]? = some none := by
            rw [List.getElem?_map, List.getElem?_take, if_pos hi, ht]
            exact congrArg some e
          rw [hrs, List.getElem?_map] at e2
          obtain ⟨r, _, e3⟩ := Option.map_eq_some_iff.mp e2
          cases e3
        · have e4 := s4 _ _ (s3 _ _ (s2 _ _ e))
          rw [upd_ne (ne_of_none e4 hx5), upd_ne (ne_of_none e4 hd1), upd_ne (ne_of_none e4 hx5), upd_ne (ne_of_none e4 hx5)]
          exact e4
        · rw [upd_ne nd.symm, upd_same, Nat.add_comm]
    · rintro σ' H' ⟨o2, o3, ps, ds, rfl, s2, hp2, hl2, hpl, hrs, hR⟩
      refine bodyT.of (@pss_one _ _ _ (@ps_ret _ _ _ _ (pv 1))) ?_
      dsimp! []
      rw [List.length_map] at hpl hrs
      rw [List.take_length] at hrs
      exact q ds hrs _ p ps s2 hp hp2 hR
def sp_shown (K : PySem.W.Frag) : Sp := fun vs H Q _ => ∃ (l : Addr) (ps : List Addr) (ds : List Dd), vs = [.ref l] ∧ SqL K H l (ps.map V.ref) ∧ DdsAt H ps ds ∧ ds.length ≤ 100 ∧ (∀ d ∈ ds, ∃ ss, Deed d.1 d.2 ss) ∧ ∀ H', Same H H' → Q (.str (linesT (ds.map fun d => rowT d.1 d.2))) H'
theorem jn_mem {c x : Nat} : ∀ {l : List (List Nat)}, x ∈ jn c l → x = c ∨ ∃ a ∈ l, x ∈ a
  | [], h => by cases h
  | [a], h => .inr ⟨a, List.mem_cons_self .., h⟩
  | a :: b :: r, h => by
    rcases List.mem_append.mp (show x ∈ a ++ c :: jn c (b :: r) from h) with h | h
    · exact .inr ⟨a, List.mem_cons_self .., h⟩
    · rcases List.mem_cons.mp h with h | h
      · exact .inl h
      · rcases jn_mem h with h | ⟨d, hd, h⟩
        · exact .inl h
        · exact .inr ⟨d, List.mem_cons_of_mem _ hd, h⟩
theorem join_mem {c x : Nat} {ws : List Str} (h : x ∈ ((⟨#[c]⟩ : Str).join ws).cps.toList) : x = c ∨ ∃ w ∈ ws, x ∈ w.cps.toList := by
  rw [join_jn] at h
  rcases jn_mem h with h | ⟨d, hd, h⟩
  · exact .inl h
  · obtain ⟨w, hw, rfl⟩ := List.mem_map.mp hd
    exact .inr ⟨w, hw, h⟩
theorem asc_of {z : Str} (h : ∀ x ∈ z.cps.toList, x < 128) : asc z := by
  unfold asc
  rw [← Array.all_toList, List.all_eq_true]
  exact fun x hx => decide_eq_true (h x hx)
theorem asc_in {z : Str} (h : asc z) {x : Nat} (hx : x ∈ z.cps.toList) : x < 128 := by
  unfold asc at h
  rw [← Array.all_toList, List.all_eq_true] at h
  exact of_decide_eq_true (h x hx)
theorem rowT_asc {w0 : Str} {xs : List V} {ss : List Str} (hd : Deed w0 xs ss) : asc (rowT w0 xs) := by
  have hw : asc w0 := (by decide +kernel : ∀ p ∈ partsD, (p.1.cps.all fun x => decide (x < 128)) = true) _ (parts_mem hd.at_)
  have e : rowT w0 xs = (⟨#[32]⟩ : Str).join (w0 :: xs.map shv) := by
    unfold rowT
    rw [txt_join]
    rfl
  rw [e]
  refine asc_of fun x hx => ?_
  rcases join_mem hx with rfl | ⟨t, ht, hx2⟩
  · decide
  · rcases List.mem_cons.mp ht with rfl | ht
    · exact asc_in hw hx2
    · obtain ⟨y, hy, rfl⟩ := List.mem_map.mp ht
      exact (hd.all hy).elim fun s hs => asc_in hs.signs.1 hx2
theorem Deed.row {w0 : Str} {xs : List V} {ss : List Str} (h : Deed w0 xs ss) : Lin (rowT w0 xs) ∧ deedR (rowT w0 xs) = some (w0, xs) := by
  have R := h.rds
  have e : rowT w0 xs = (⟨#[32]⟩ : Str).join (w0 :: xs.map shv) := by
    unfold rowT
    rw [txt_join]
    rfl
  refine ⟨⟨rowT_asc h, R.few, fun z => ?_⟩, by rw [deedR_some R, h.back]⟩
  rw [e] at z
  rcases join_mem z with z2 | ⟨t, ht, z2⟩
  · cases z2
  · rcases List.mem_cons.mp ht with rfl | ht
    · exact h.word.2.2 z2
    · obtain ⟨x, hx, rfl⟩ := List.mem_map.mp ht
      exact (h.all hx).elim fun s hs => hs.signs.2.2 z2
theorem ok_program_shown (T : Txt K mg a) : FnOk P w K mg base CX0 4 a.a_program_shown a.d_program_shown ["deeds"] (sp_shown K) := by
  refine T.f_program_shown.ok sc_program_shown (fun vs H Q E h => ?_) (fun cdv A outer s H vs Q E hr h => ?_)
  · obtain ⟨_, _, _, rfl, _⟩ := h
    rfl
  · obtain ⟨l, ps, ds, rfl, hl, hR, hz, ho, q⟩ := h
    refine ⟨_, (@pss_one _ _ _ (@ps_ret _ _ _ _ (@pe_bm _ _ _ _ _ _ _ _ _ _ _ _ PySem.F.plainAttrs_str PySem.F.slot_str_join PySem.F.type_str_join mt_join pe_str (@pa_cons _ _ _ _ _ (pe_lc rfl (lcok (x := "deed") (ns := []) (fr := []) rfl (by decide +kernel) rfl (by decide +kernel) rfl (List.forall_mem_nil _) rfl rfl (List.forall_mem_nil _) (by decide +kernel)) (pi_list (pv 0)) (fun _ _ _ _ => (pe_call (ok_deed_shown T) (hr.mono (by decide)) rfl T.m_deed_shown T.f_deed_shown.kp T.b_deed_shown .nil pass0 (@pa_cons _ _ _ _ _ (pv 0) pa_nil (by rfl)))) (fun _ _ _ _ => .nil)) pa_nil (by rfl)) (by rfl) (by rfl) (by rfl) (by rfl) (by rfl)))), ?_⟩
    dsimp! []
    have hpl := hR.1
    refine ⟨rfl, ⟨_, hl⟩, fun D hD => lc_lstS ((ds.map fun d => rowT d.1 d.2).map V.str) hD hl (by simp [hpl]) (by simp; omega) (fun i x y H3 R e1 e2 s3 h => ?_) fun H3 s3 hE3 => ⟨_, .of hE3, ?_, ?_⟩⟩
    · dsimp! [lcSlots, sp_deed_shown]
      rw [List.getElem?_map, Option.map_eq_some_iff] at e1
      obtain ⟨p, e1, rfl⟩ := e1
      rw [List.getElem?_map, List.getElem?_map, Option.map_map, Option.map_eq_some_iff] at e2
      obtain ⟨d, e2, rfl⟩ := e2
      obtain ⟨ss, hd⟩ := ho d (List.mem_of_getElem? e2)
      have few := parts_few hd.at_
      have := hd.len
      refine ⟨p, rfl, _, .of (s3 _ _ (hR.2 i p d e1 e2)), by rw [List.length_cons]; omega, fun x hx => ?_, fun H4 s4 => h H4 s4⟩
      rcases List.mem_cons.mp hx with rfl | hx
      · exact .inr ⟨_, hd.word.1, rfl⟩
      · exact (hd.all hx).elim fun s hs => hs.shw
    · have h2 := sum_lenB (b := 1000) (ts := ds.map fun d => rowT d.1 d.2) fun t ht => by
        obtain ⟨d, hd, rfl⟩ := List.mem_map.mp ht
        exact (ho d hd).elim fun ss h => h.rds.few
      rw [show (Str.ofString "\n").length = 1 from rfl, List.length_map]
      rw [List.length_map] at h2
      have : 1000 * ds.length ≤ 1000 * 100 := Nat.mul_le_mul_left _ hz
      omega
    · rw [txt_join]
      exact q H3 s3
theorem cut0 {ys : List V} {m : Nat} : cutV ys none (some ((m : Nat) : Int)) = ys.take m := by
  unfold cutV
  rw [HT.sIx_none, HT.sIx_nat, List.drop_zero, Nat.sub_zero]
  by_cases h : m ≤ ys.length
  · rw [Nat.min_eq_left h]
  · rw [Nat.min_eq_right (by omega), List.take_of_length_le (Nat.le_refl _), List.take_of_length_le (by omega)]
theorem cutT {ys : List V} {m : Nat} : cutV ys (some ((m : Nat) : Int)) none = ys.drop m := by
  unfold cutV
  rw [HT.sIx_none, HT.sIx_nat]
  by_cases h : m ≤ ys.length
  · rw [Nat.min_eq_left h, List.take_of_length_le (by rw [List.length_drop]; exact Nat.le_refl _)]
  · rw [Nat.min_eq_right (by omega), List.drop_length, List.drop_of_length_le (by omega)]
    simp
def strsD (ts : List Str) : D := .lst ((ts.map V.str).map fD)
theorem strs_isD {H : Hp} {l : Addr} {ts : List Str} (h : H l = some (.lst (ts.map V.str))) : IsD K H (.ref l) (strsD ts) := .flatL (.of h) fun x hx => by
  obtain ⟨t, _, rfl⟩ := List.mem_map.mp hx
  rfl
theorem strsD_dep (ts : List Str) : (strsD ts).dep ≤ 60 := by
  unfold strsD D.dep
  rw [deps_flat]
  decide
theorem strsD_nil (ts : List Str) : deq (strsD ts) (.lst []) = ts.isEmpty := by
  cases ts with
  | nil => simp [strsD, deq, deqs]
  | cons => simp [strsD, deq, deqs]
theorem nil_isD {H : Hp} {l : Addr} (h : H l = some (.lst [])) : IsD K H (.ref l) (.lst []) := .lst (xs := []) (.of h) rfl (fun _ _ _ h => nomatch h)
theorem mid_at {α : Type} (a b : List α) (x : α) : (a ++ [x] ++ b)[a.length]? = some x := by
  rw [List.append_assoc, List.getElem?_append_right (Nat.le_refl _), Nat.sub_self]
  rfl
theorem rSlL_mono {K : PySem.W.Frag} {x : V} {lo hi : Option Int} {H : Hp} {Q Q' : VK} (h : rSlL K x lo hi H Q) (f : ∀ v H1, Q v H1 → Q' v H1) : rSlL K x lo hi H Q' := by
  obtain ⟨a, xs, e, s, h⟩ := h
  exact ⟨a, xs, e, s, fun p hp => f _ _ (h p hp)⟩
theorem splice (Pv : V → Prop) {H4 : Hp} {b : Addr} {xs : List V} {k : Nat} {R : VK} (hb : H4 b = some (.lst xs)) (hl : xs.length ≤ 70) (hk : k ≤ xs.length) (h : ∀ v b' H5, Pv v → Same H4 H5 → H5 b' = some (.lst (xs.take k ++ [v] ++ xs.drop k)) → R (.ref b') H5) :
    rSlL K (V.ref b) none (some (k : Int)) H4 fun x H1 => ∀ v H1', Pv v → Same H1 H1' → 1 ≤ sizeLine ∧ ∀ p, H1' p = none → rCatS K x (V.ref p) (upd H1' p (HO.lst [v])) fun x H1 => rSlL K (V.ref b) (some (k : Int)) none H1 fun y H2 => rCatS K x y H2 R := by
  refine ⟨b, _, rfl, .of hb, fun p1 hp1 v H1' hv s1' => ⟨by rw [sizeLine_eq]; decide, fun p2 hp2 => ?_⟩⟩
  rw [cut0] at s1'
  have t1 := Same.put (o := .lst (xs.take k)) hp1
  have t2 := Same.put (o := .lst [v]) hp2
  refine ⟨p1, p2, _, _, rfl, rfl, .of (t2 _ _ (s1' _ _ upd_same)), .of upd_same, by simp [sizeLine_eq]; omega, fun p3 hp3 => ?_⟩
  have t3 := Same.put (o := .lst (xs.take k ++ [v])) hp3
  refine ⟨b, _, rfl, .of (t3 _ _ (t2 _ _ (s1' _ _ (t1 _ _ hb)))), fun p5 hp5 => ?_⟩
  rw [cutT]
  have t5 := Same.put (o := .lst (xs.drop k)) hp5
  refine ⟨p3, p5, _, _, rfl, rfl, .of (t5 _ _ upd_same), .of upd_same, by simp [sizeLine_eq]; omega, fun p6 hp6 => h v p6 _ hv ((((t1.trans s1').trans t2).trans t3).trans (t5.trans (.put hp6))) upd_same⟩
theorem map_splice {α β : Type} (f : α → β) (xs : List α) (k : Nat) (x : α) : (xs.map f).take k ++ [f x] ++ (xs.map f).drop k = (xs.take k ++ [x] ++ xs.drop k).map f := by
  rw [List.map_append, List.map_append, List.map_take, List.map_drop]
  rfl
def od0 : List Str := ["", " ", "num", "num a", "num a -1", "num a 01", "num 1 a", "make a 9", "make a", "weak a", "weak a b c"]
def od1 : List Str := ["Tell a"]
def od2 : List Str := ["pair a b", "words a b", "put a b 1", "put a 1", "get a 1 b", "get a b", "look a", "find a b"]
def od4 : List Str := ["drop", "drop a b", "tell A", "tell ab", "same a", "hear", " tell a", "tell a ", "tell  a"]
def odds : List Str := od0 ++ od1 ++ od2 ++ [Str.ofString "copy a"] ++ od4
theorem odds_lin : ∀ t ∈ odds, Lin t := fun t ht => by
  have h : ∀ t ∈ odds, (t.cps.all fun x => decide (x < 128)) = true ∧ t.length ≤ 1000 ∧ 10 ∉ t.cps.toList := by decide +kernel
  obtain ⟨h1, h2, h3⟩ := h t ht
  exact ⟨h1, h2, h3⟩
theorem odds_bad : ∀ t ∈ odds, deedR t = none := by decide +kernel
def sp_odd : Sp := fun vs H Q _ => ∃ n, vs = [.int n] ∧ ∀ t H', t ∈ odds → Same H H' → Q (.str t) H'
theorem ok_law_odd_row (T : Txt K mg a) : FnOk P w K mg base CX0 1 a.a_law_odd_row a.d_law_odd_row ["_law_number"] sp_odd := by
  refine T.f_law_odd_row.ok sc_law_odd_row (fun vs H Q E h => ?_) (fun cdv A outer s H vs Q E hr h => ?_)
  · obtain ⟨_, rfl, _⟩ := h
    rfl
  · obtain ⟨c, rfl, q⟩ := h
    refine ⟨_, @pss_cons _ _ _ _ _ ps_stT pss_bodyT, ?_⟩
    dsimp! []
    refine stT.strs (i := 1) (ws := od0) sc_law_odd_row.nd rfl (.inl rfl) rfl rfl (.inl rfl) (by decide) fun l0 hl0 => ?_
    have h0 : upd H l0 (HO.lst (od0.map V.str)) l0 = some (.lst (od0.map V.str)) := upd_same
    have s0 : Same H (upd H l0 (HO.lst (od0.map V.str))) := .put hl0
    generalize upd H l0 (HO.lst (od0.map V.str)) = H0 at h0 s0
    refine bodyT.of (@pss_cons _ _ _ _ _ ps_stT pss_bodyT) ?_
    dsimp! []
    refine stT.cats (i := 1) (j := 1) (ws := od1) (l := l0) sc_law_odd_row.nd rfl (.inl rfl) rfl rfl (.inl rfl) rfl rfl rfl (.inl rfl) (by decide) rfl h0 (by decide) fun l1 H1 t1 h1 => ?_
    have s1 := s0.trans t1
    refine bodyT.of (@pss_cons _ _ _ _ _ ps_stT pss_bodyT) ?_
    dsimp! []
    refine stT.catsF (i := 1) (j := 1) (ws := od2) (l := l1) sc_law_odd_row.nd rfl (.inl rfl) rfl rfl (.inl rfl) rfl rfl rfl (.inl rfl) (by decide) rfl h1 (by decide) fun l2 H2 hf2 t2 h2 => ?_
    have s2 := s1.trans t2
    have hf := s1.free hf2
    refine bodyT.of (@pss_cons _ _ _ _ _ (ps_expr (@pe_bm _ _ _ _ _ _ _ _ _ _ _ _ PySem.F.plainAttrs_list PySem.F.slot_list_append PySem.F.type_list_append mt_append (pv 1) (@pa_cons _ _ _ _ _ pe_str pa_nil (by rfl)) (by rfl) (by rfl) (by rfl) (by rfl) (by rfl))) pss_bodyT) ?_
    dsimp! []
    refine ⟨.inl ⟨rfl, _, .of h2⟩, l2, _, _, rfl, rfl, h2, small1000 (by decide), ?_⟩
    have h3 : upd H2 l2 (HO.lst (od0.map V.str ++ od1.map V.str ++ od2.map V.str ++ [V.str (Str.ofString "copy a")])) l2 = some (.lst (od0.map V.str ++ od1.map V.str ++ od2.map V.str ++ [V.str (Str.ofString "copy a")])) := upd_same
    have s3 : Same H (upd H2 l2 (HO.lst (od0.map V.str ++ od1.map V.str ++ od2.map V.str ++ [V.str (Str.ofString "copy a")]))) := .putD s2 hf
    generalize upd H2 l2 (HO.lst (od0.map V.str ++ od1.map V.str ++ od2.map V.str ++ [V.str (Str.ofString "copy a")])) = H3 at h3 s3
    refine bodyT.of (@pss_cons _ _ _ _ _ ps_stT pss_bodyT) ?_
    dsimp! []
    refine stT.cats (i := 1) (j := 1) (ws := od4) (l := l2) sc_law_odd_row.nd rfl (.inl rfl) rfl rfl (.inl rfl) rfl rfl rfl (.inl rfl) (by decide) rfl h3 (by decide) fun l4 H4 t4 h4 => ?_
    have s4 := s3.trans t4
    have h5 : H4 l4 = some (.lst (odds.map V.str)) := h4
    refine bodyT.of (@pss_one _ _ _ (@ps_ret _ _ _ _ (pe_ix ix_list (pv 1) (@pe_op _ _ _ _ _ _ _ _ op_mod (pv 0) (pe_callB call_len_seq rfl T.n_len bt_len (@pa_cons _ _ _ _ _ (pv 1) pa_nil (by rfl)))) (fun _ _ => rfl)))) ?_
    dsimp! []
    refine ⟨_, .inl (.of h5), ?_⟩
    have hl : (odds.map V.str).length = 30 := by decide
    obtain ⟨d, hd, hd2⟩ := mod_nat c 30 (by decide)
    have hd3 : d < odds.length := by
      rw [List.length_map] at hl
      omega
    refine ⟨by rw [hl]; decide, l4, odds.map V.str, _, .str odds[d], rfl, rfl, .of h5, ?_, q _ _ (List.getElem_mem hd3) s4⟩
    rw [hl, show ((30 : Nat) : Int) = 30 from rfl, hd]
    refine atI_nat ?_
    rw [List.getElem?_map, List.getElem?_eq_getElem hd3]
    rfl
def sp_told (a : Adr) : Sp := fun vs H Q _ => ∃ ts : List Str, vs = [.str (linesT ts)] ∧ ts.length ≤ 100 ∧ (∀ t ∈ ts, Lin t) ∧ ts ≠ [Str.ofString ""] ∧
  ∃ (j : Nat) (t : Str), ts[j]? = some t ∧ deedR t = none ∧ (∀ (i : Nat) t, i < j → ts[i]? = some t → deedR t ≠ none) ∧
  ∀ H' (x dx : Addr), Same H H' → H' x = some (.ext (XOc false a.c_NoDeed x (some dx) false)) → H' dx = some (.xd [("row", .int ((j + 1 : Nat) : Int))]) → Q (.ref x) H'
theorem ok_law_told_of (T : Txt K mg a) : FnOk P w K mg base CX0 7 a.a_law_told_of a.d_law_told_of ["_law_text"] (sp_told a) := by
  refine T.f_law_told_of.ok sc_law_told_of (fun vs H Q E h => ?_) (fun cdv A outer s H vs Q E hr h => ?_)
  · obtain ⟨_, rfl, _⟩ := h
    rfl
  · obtain ⟨ts, rfl, h1, h2, h3, j, t, hj, ht, hb, q⟩ := h
    refine ⟨_, (@pss_cons _ _ _ _ _ (ps_set (i := 1) sc_law_told_of.nd rfl (Or.inl rfl) pe_non) (@pss_cons _ _ _ _ _ (ps_tryA (j := 2) rfl rfl sc_law_told_of.nd rfl rfl rfl T.mc_HeapError (fun _ _ _ => ⟨_, (@pss_one _ _ _ (ps_expr (by exact (pe_callT (ok_program_read T) (hr.mono (by decide)) rfl T.m_program_read T.f_program_read.kp T.b_program_read .nil (pa_cons (pv 0) pa_nil))))), by first | exact rfl | dsimp only [Cx.tr]⟩) (fun _ => (@pss_one _ _ _ (ps_set (i := 1) sc_law_told_of.nd rfl (Or.inl rfl) (pv 2))))) pss_bodyT)), ?_⟩
    dsimp! [sp_prog]
    refine ⟨ts, rfl, h1, h2, h3, fun ds e => ?_, fun j2 t2 e1 e2 e3 H1 x dx s1 hx hd => ?_⟩
    · have h5 : (ts.map deedR)[j]? = some none := by
        rw [List.getElem?_map, hj]
        exact congrArg some ht
      rw [e, List.getElem?_map] at h5
      obtain ⟨d, _, e3⟩ := Option.map_eq_some_iff.mp h5
      cases e3
    · have ejk : j2 = j := by
        rcases Nat.lt_trichotomy j2 j with h | h | h
        · exact absurd e2 (hb j2 t2 h e1)
        · exact h
        · exact absurd ht (e3 j t h hj)
      subst ejk
      refine ⟨x, _, rfl, rfl, _, T.xc_NoDeed, .inr rfl, ?_⟩
      refine bodyT.of (@pss_one _ _ _ (@ps_ret _ _ _ _ (pv 1))) ?_
      dsimp! []
      exact q _ x dx s1 hx hd
theorem lines_sum {ts : List Str} (hn : ts.length ≤ 100) (h : ∀ t ∈ ts, Lin t) : (List.map (fun x => x.length) ts).sum + ts.length * (Str.ofString "\n").length ≤ 16777216 := by
  have h2 := sum_lenB (b := 1000) (ts := ts) fun t ht => (h t ht).len
  rw [show (Str.ofString "\n").length = 1 from rfl]
  have h3 : 1000 * ts.length ≤ 1000 * 100 := Nat.mul_le_mul_left _ hn
  omega
def sp_refused9 : Sp := fun vs H Q _ => ∃ (rw : Addr) (ts : List Str) (n : Nat), vs = [.ref rw, .int (n : Int)] ∧ H rw = some (.lst (ts.map V.str)) ∧ ts.length ≤ 61 ∧ (∀ t ∈ ts, Lin t) ∧ (∀ t ∈ ts, deedR t ≠ none) ∧ ∀ H', Same H H' → Q (.bl true) H'
theorem ok_law_refused (T : Txt K mg a) : FnOk P w K mg base CX0 8 a.a_law_refused a.d_law_refused ["_law_rows", "_law_number"] sp_refused9 := by
  refine T.f_law_refused.ok sc_law_refused (fun vs H Q E h => ?_) (fun cdv A outer s H vs Q E hr h => ?_)
  · obtain ⟨_, _, _, rfl, _⟩ := h
    rfl
  · obtain ⟨rw_, ts, n, rfl, hrw, hz, tline, tgood, q⟩ := h
    refine ⟨_, (@pss_cons _ _ _ _ _ (ps_set (i := 2) sc_law_refused.nd rfl (Or.inl rfl) (@pe_op _ _ _ _ _ _ _ _ op_mod (pv 1) (@pe_op _ _ _ _ _ _ _ _ op_add (pe_callB call_len_seq rfl T.n_len bt_len (@pa_cons _ _ _ _ _ (pv 0) pa_nil (by rfl))) pe_int))) pss_bodyT), ?_⟩
    dsimp! []
    refine ⟨_, .inl (.of hrw), by rw [List.length_map]; omega, ?_⟩
    rw [List.length_map]
    obtain ⟨k, hk, hk2⟩ := mod_nat (n : Int) ((ts.length : Int) + 1) (by omega)
    rw [hk]
    have hk3 : k ≤ ts.length := by omega
    refine bodyT.of (@pss_cons _ _ _ _ _ (ps_set (i := 3) sc_law_refused.nd rfl (Or.inl rfl) (pe_call (ok_law_odd_row T) (hr.mono (by decide)) rfl T.m_law_odd_row T.f_law_odd_row.kp T.b_law_odd_row .nil pass0 (@pa_cons _ _ _ _ _ (@pe_op _ _ _ _ _ _ _ _ op_fdivL (pv 1) pe_int) pa_nil (by rfl)))) pss_bodyT) ?_
    dsimp! [sp_odd]
    refine ⟨.small (by decide) (by decide), fun z0 H1 hz0 s1 => ?_⟩
    refine bodyT.of (@pss_cons _ _ _ _ _ ps_stT pss_bodyT) ?_
    dsimp! []
    refine joinW (fun σ' H' => ∃ z, σ' = [some (.ref rw_), some (.int (n : Int)), some (.int (k : Int)), some (.str z), none, none, none] ∧ z ∈ odds ∧ (ts = [] → z ≠ Str.ofString "") ∧ Same H H') (stT.of (ps_if (PW.pt (pw_and (pt_cmpR (op_eqD hr.units) (pv 0) (pe_lst pa_nil) (nomark _)) (pw_and1 (pt_cmpR op_eq (pv 3) pe_str (nomark _))))) (@pss_one _ _ _ (ps_set (i := 3) sc_law_refused.nd rfl (Or.inl rfl) pe_str)) pss_nil) ?_) ?_
    · dsimp! []
      refine fun p hp => ?_
      have sp := Same.put (o := .lst []) hp
      have hrw2 := sp _ _ (s1 _ _ hrw)
      refine ⟨_, _, strs_isD hrw2, nil_isD upd_same, strsD_dep ts, _, rfl, ?_⟩
      rw [strsD_nil]
      by_cases c0 : ts = []
      · rw [if_pos (by rw [c0]; decide)]
        refine ite2 (fun _ => ⟨by decide +kernel, fun _ => by decide, s1.trans sp⟩) fun e => ⟨hz0, fun _ h => e (decide_eq_true h), s1.trans sp⟩
      · rw [if_neg (by rw [if_neg (by decide), show ts.isEmpty = false from by cases ts; exact absurd rfl c0; rfl]; decide)]
        exact ⟨hz0, fun e => absurd e c0, s1.trans sp⟩
    rintro σ' H3 ⟨z, rfl, hz3, zne, s3⟩
    have lz := odds_lin z hz3
    have bz := odds_bad z hz3
    have l1 : (ts.take k ++ [z] ++ ts.drop k).length = ts.length + 1 := by
      simp
      omega
    have kl : (ts.take k).length = k := by rw [List.length_take]; omega
    have bl : ∀ t ∈ ts.take k ++ [z] ++ ts.drop k, Lin t := fun t ht => by
      rcases List.mem_append.mp ht with ht | ht
      · rcases List.mem_append.mp ht with ht | ht
        · exact tline t (List.mem_of_mem_take ht)
        · rw [List.mem_singleton.mp ht]
          exact lz
      · exact tline t (List.mem_of_mem_drop ht)
    have bat : (ts.take k ++ [z] ++ ts.drop k)[k]? = some z := by
      have := mid_at (ts.take k) (ts.drop k) z
      rw [kl] at this
      exact this
    have bfront : ∀ i < k, (ts.take k ++ [z] ++ ts.drop k)[i]? = ts[i]? := fun i hi => by
      rw [List.append_assoc, List.getElem?_append_left (by omega), List.getElem?_take, if_pos hi]
    have bne : ts.take k ++ [z] ++ ts.drop k ≠ [Str.ofString ""] := fun e => by
      have e1 := congrArg List.length e
      rw [l1] at e1
      have e0 : ts = [] := List.length_eq_zero_iff.mp (by simpa using e1)
      rw [e0] at e
      exact zne e0 (by simpa using e)
    refine bodyT.of (@pss_cons _ _ _ _ _ (ps_set (i := 4) sc_law_refused.nd rfl (Or.inl rfl) (@pe_op _ _ _ _ _ _ _ _ op_catS (@pe_op _ _ _ _ _ _ _ _ op_catS (pe_slice sl_list (pv 0) po_none (po_some (pv 2))) (pe_lst (@pa_cons _ _ _ _ _ (pv 3) pa_nil (by rfl)))) (pe_slice sl_list (pv 0) (po_some (pv 2)) po_none))) pss_bodyT) ?_
    dsimp! []
    refine rSlL_mono (splice (fun v => v = V.str z) (s3 _ _ hrw) (by rw [List.length_map]; omega) (by rw [List.length_map]; exact hk3) fun v b H5 ev s5 h5 => ?_) (fun x H1 f => f _ H1 rfl (.refl _))
    subst ev
    rw [map_splice] at h5
    have s05 := s3.trans s5
    refine bodyT.of (@pss_cons _ _ _ _ _ ps_stT pss_bodyT) ?_
    dsimp! []
    refine joinW (fun σ' H' => ∃ (b : Addr) (o7 : Option V) (t2 : List Str), σ' = [some (.ref rw_), some (.int (n : Int)), some (.int (k : Int)), some (.str z), some (.ref b), o7, none] ∧ Same H H' ∧ H' b = some (.lst (t2.map V.str)) ∧ t2.length ≤ 70 ∧ (∀ t ∈ t2, Lin t) ∧ t2 ≠ [Str.ofString ""] ∧ t2[k]? = some z ∧ ∀ i < k, t2[i]? = ts[i]?) (stT.of (ps_if (pt_cmpR op_eq (@pe_op _ _ _ _ _ _ _ _ op_mod (@pe_op _ _ _ _ _ _ _ _ op_fdivL (pv 1) pe_int) pe_int) pe_int (nomark _)) (@pss_cons _ _ _ _ _ (ps_set (i := 5) sc_law_refused.nd rfl (Or.inl rfl) (@pe_op _ _ _ _ _ _ _ _ op_add (@pe_op _ _ _ _ _ _ _ _ op_add (pv 2) pe_int) (@pe_op _ _ _ _ _ _ _ _ op_mod (@pe_op _ _ _ _ _ _ _ _ op_fdivL (pv 1) pe_int) (@pe_op _ _ _ _ _ _ _ _ op_sub (pe_callB call_len_seq rfl T.n_len bt_len (@pa_cons _ _ _ _ _ (pv 4) pa_nil (by rfl))) (pv 2))))) (@pss_one _ _ _ (ps_set (i := 4) sc_law_refused.nd rfl (Or.inl rfl) (@pe_op _ _ _ _ _ _ _ _ op_catS (@pe_op _ _ _ _ _ _ _ _ op_catS (pe_slice sl_list (pv 4) po_none (po_some (pv 5))) (pe_lst (@pa_cons _ _ _ _ _ (pe_call (ok_law_odd_row T) (hr.mono (by decide)) rfl T.m_law_odd_row T.f_law_odd_row.kp T.b_law_odd_row .nil pass0 (@pa_cons _ _ _ _ _ (@pe_op _ _ _ _ _ _ _ _ op_fdivL (pv 1) pe_int) pa_nil (by rfl))) pa_nil (by rfl)))) (pe_slice sl_list (pv 4) (po_some (pv 5)) po_none))))) pss_nil) ?_) ?_
    · dsimp! [sp_odd]
      refine ⟨.small (by decide) (by decide), by decide, ite2 (fun _ => ?_) fun _ => ⟨s05, _, h5, by omega, bl, bne, bat, bfront⟩⟩
      refine ⟨.small (by decide) (by decide), _, .inl (.of h5), by rw [List.length_map]; omega, ?_⟩
      rw [List.length_map, l1]
      obtain ⟨j, hj, hj2⟩ := mod_nat ((n : Int) / 14) (((ts.length + 1 : Nat) : Int) - (k : Int)) (by omega)
      rw [hj, show (k : Int) + 1 + (j : Int) = ((k + 1 + j : Nat) : Int) by omega]
      refine rSlL_mono (splice (fun v => ∃ t ∈ odds, v = V.str t) h5 (by rw [List.length_map]; omega) (by rw [List.length_map]; omega) fun v b' H6 ev s6 h6 => ?_) (fun x H1 f => ⟨.small (by decide) (by decide), fun t H' ht s' => f _ H' ⟨t, ht, rfl⟩ s'⟩)
      obtain ⟨t, ht, rfl⟩ := ev
      rw [map_splice] at h6
      generalize ts.take k ++ [z] ++ ts.drop k = tz at h5 h6 l1 bl bat bfront
      have kl2 : (tz.take (k + 1 + j)).length = k + 1 + j := by rw [List.length_take]; omega
      have front : ∀ i < k + 1, (tz.take (k + 1 + j) ++ [t] ++ tz.drop (k + 1 + j))[i]? = tz[i]? := fun i hi => by
        rw [List.append_assoc, List.getElem?_append_left (by omega), List.getElem?_take, if_pos (by omega)]
      have len2 : (tz.take (k + 1 + j) ++ [t] ++ tz.drop (k + 1 + j)).length = tz.length + 1 := by
        simp
        omega
      refine ⟨b', rfl, s05.trans s6, _, h6, by omega, fun u hu => ?_, fun e => ?_, by rw [front k (by omega)]; exact bat, fun i hi => by rw [front i (by omega)]; exact bfront i hi⟩
      · rcases List.mem_append.mp hu with hu | hu
        · rcases List.mem_append.mp hu with hu | hu
          · exact bl u (List.mem_of_mem_take hu)
          · rw [List.mem_singleton.mp hu]
            exact odds_lin t ht
        · exact bl u (List.mem_of_mem_drop hu)
      · have := congrArg List.length e
        rw [len2, l1] at this
        simp at this
    rintro σ' H6 ⟨b6, o7, t2, rfl, s6, h6, l6, li6, ne6, at6, fr6⟩
    refine bodyT.of (@pss_cons _ _ _ _ _ (ps_set (i := 6) sc_law_refused.nd rfl (Or.inl rfl) (pe_call (ok_law_told_of T) (hr.mono (by decide)) rfl T.m_law_told_of T.f_law_told_of.kp T.b_law_told_of .nil pass0 (@pa_cons _ _ _ _ _ (@pe_bm _ _ _ _ _ _ _ _ _ _ _ _ PySem.F.plainAttrs_str PySem.F.slot_str_join PySem.F.type_str_join mt_join pe_str (@pa_cons _ _ _ _ _ (pv 4) pa_nil (by rfl)) (by rfl) (by rfl) (by rfl) (by rfl) (by rfl)) pa_nil (by rfl)))) pss_bodyT) ?_
    dsimp! [sp_told]
    refine ⟨rfl, _, .of h6, lines_sum (by omega) li6, _, txt_join _ _, by omega, li6, ne6, k, z, at6, bz, fun i t hi ht => ?_, fun H7 x dx s7 hx hdx => ?_⟩
    · rw [fr6 i hi] at ht
      exact tgood t (List.mem_of_getElem? ht)
    refine bodyT.of (@pss_one _ _ _ (@ps_ret _ _ _ _ (pe_and (pe_callB call_isinstXc rfl T.n_isinstance bt_isinstance (@pa_cons _ _ _ _ _ (pv 6) (@pa_cons _ _ _ _ _ (pe_glob (v := .ref a.c_NoDeed) rfl T.mc_NoDeed rfl) pa_nil (by rfl)) (by rfl))) (pe_and (pe_call (ok_law_whole T) (hr.mono (by decide)) rfl T.m_law_whole T.f_law_whole.kp T.b_law_whole .nil pass0 (@pa_cons _ _ _ _ _ (pe_xfldc (pv 6) rfl) pa_nil (by rfl))) (pe_one (pe_cmpR op_eq (pe_xfldc (pv 6) rfl) (@pe_op _ _ _ _ _ _ _ _ op_add (pv 2) pe_int) (nomark _))))))) ?_
    dsimp! [sp_law_whole]
    refine ⟨_, _, _, dx, _, false, hx, hdx, T.xc_NoDeed, true, T.ki_NoDeed_NoDeed, ?_⟩
    rw [if_pos rfl]
    exact ⟨_, _, _, dx, _, false, hx, hdx, T.xc_NoDeed, T.fr_NoDeed, k + 1, rfl, _, _, _, dx, _, false, hx, hdx, T.xc_NoDeed, T.fr_NoDeed, k + 1, rfl, by rw [decide_eq_true rfl]; exact q _ (s6.trans s7)⟩
theorem deps_all {ds : List D} {k : Nat} (h : ∀ d ∈ ds, d.dep ≤ k) : deps ds ≤ k := by
  induction ds with
  | nil => exact Nat.zero_le _
  | cons d ds ih =>
    unfold deps
    exact Nat.max_le.mpr ⟨h d (List.mem_cons_self ..), ih fun x hx => h x (List.mem_cons_of_mem _ hx)⟩
def ddD (d : Dd) : D := .tup ((V.str d.1 :: d.2).map fD)
def progD (ds : List Dd) : D := .lst (ds.map ddD)
theorem progD_dep (ds : List Dd) : (progD ds).dep ≤ 60 := by
  unfold progD D.dep
  refine Nat.le_trans (Nat.succ_le_succ (deps_all (k := 1) fun d hd => ?_)) (by decide : 2 ≤ 60)
  obtain ⟨x, _, rfl⟩ := List.mem_map.mp hd
  unfold ddD D.dep
  rw [deps_flat]
  decide
theorem DdsAt.isD {H : Hp} {l : Addr} {ps : List Addr} {ds : List Dd} (h : DdsAt H ps ds) (hl : H l = some (.lst (ps.map V.ref))) (ho : ∀ d ∈ ds, ∃ ss, Deed d.1 d.2 ss) : IsD K H (.ref l) (progD ds) := by
  refine .lst (.of hl) (by simp [h.1]) fun i x e e1 e2 => ?_
  rw [List.getElem?_map, Option.map_eq_some_iff] at e1 e2
  obtain ⟨q, e1, rfl⟩ := e1
  obtain ⟨d, e2, rfl⟩ := e2
  refine .flatT (xs := .str d.1 :: d.2) (.of (h.2 i q d e1 e2)) fun x hx => ?_
  rcases List.mem_cons.mp hx with rfl | hx
  · rfl
  · obtain ⟨ss, hd⟩ := ho d (List.mem_of_getElem? e2)
    exact (hd.all hx).elim fun s hs => hs.shw.flat
theorem dds_of {H : Hp} : ∀ ys : List V, (∀ (i : Nat) y, ys[i]? = some y → ∃ p d, y = .ref p ∧ DdAt H p d ∧ ∃ ss, Deed d.1 d.2 ss) → ∃ (ps : List Addr) (ds : List Dd), ys = ps.map V.ref ∧ DdsAt H ps ds ∧ ∀ d ∈ ds, ∃ ss, Deed d.1 d.2 ss
  | [], _ => ⟨[], [], rfl, ⟨rfl, (fun _ _ _ h => nomatch h)⟩, (fun _ h => nomatch h)⟩
  | y :: ys, h => by
    obtain ⟨p, d, rfl, h1, h2⟩ := h 0 y rfl
    obtain ⟨ps, ds, e, h3, h4⟩ := dds_of ys fun i z e => h (i + 1) z e
    refine ⟨p :: ps, d :: ds, by rw [e]; rfl, ⟨by rw [List.length_cons, List.length_cons, h3.1], fun i x r2 e1 e2 => ?_⟩, fun r2 hr2 => ?_⟩
    · rcases i with _ | i
      · cases e1; cases e2; exact h1
      · exact h3.2 i x r2 e1 e2
    · rcases List.mem_cons.mp hr2 with rfl | hr2
      · exact h2
      · exact h4 r2 hr2
def sp_law (K : PySem.W.Frag) : Sp := fun vs H Q _ => ∃ (a : Addr) (ns : List Int), vs = [.ref a] ∧ SqL K H a (ns.map V.int) ∧ ns.length ≤ 63 ∧ ∀ H', Q (.bl true) H'
theorem ok_law (T : Txt K mg a) : FnOk P w K mg base CX0 10 a.a_law a.d_law ["_law_script"] (sp_law K) := by
  refine T.f_law.ok sc_law (fun vs H Q E h => ?_) (fun cdv A outer s H vs Q E hr h => ?_)
  · obtain ⟨_, _, rfl, _⟩ := h
    rfl
  · obtain ⟨sc, ns, rfl, hS, hl, q⟩ := h
    refine ⟨_, (@pss_cons _ _ _ _ _ (ps_lc (j := 1) rfl sc_law.nd rfl rfl (lcok (x := "_law_cell") (ns := ["_law_script"]) (fr := [0]) rfl (by decide +kernel) rfl (by decide +kernel) rfl (List.forall_mem_cons.mpr ⟨rfl, List.forall_mem_nil _⟩) rfl rfl (List.forall_mem_cons.mpr ⟨⟨rfl, rfl, .inl rfl⟩, List.forall_mem_nil _⟩) (by decide +kernel)) (pi_list (pe_slice sl_list (pv 0) (po_some pe_int) (po_some pe_int))) (fun _ _ _ _ => (pe_call (ok_law_deed_by T) (hr.mono (by decide)) rfl T.m_law_deed_by T.f_law_deed_by.kp T.b_law_deed_by .nil pass0 (@pa_cons _ _ _ _ _ (pv 0) (@pa_cons _ _ _ _ _ (pe_cmpR op_eq (@pe_op _ _ _ _ _ _ _ _ op_mod (pe_call (ok_law_cell_at T) (hr.mono (by decide)) rfl T.m_law_cell_at T.f_law_cell_at.kp T.b_law_cell_at .nil pass0 (@pa_cons _ _ _ _ _ (pv 1) (@pa_cons _ _ _ _ _ pe_int pa_nil (by rfl)) (by rfl))) pe_int) pe_int (nomark _)) pa_nil (by rfl)) (by rfl)))) (fun _ _ _ _ => .nil)) pss_bodyT), ?_⟩
    dsimp! []
    have ci : ∀ x ∈ cutV (ns.map V.int) (some 3) (some 64), ∃ z, x = V.int z := fun x hx => by
      have h1 := List.mem_of_mem_drop (List.mem_of_mem_take hx)
      obtain ⟨z, _, e⟩ := List.mem_map.mp h1
      exact ⟨z, e.symm⟩
    have cl : (cutV (ns.map V.int) (some 3) (some 64)).length ≤ 61 := by
      unfold cutV
      rw [show (some (3 : Int)) = some ((3 : Nat) : Int) from rfl, show (some (64 : Int)) = some ((64 : Nat) : Int) from rfl, HT.sIx_nat, HT.sIx_nat, List.length_take, List.length_drop]
      omega
    refine ⟨sc, _, rfl, hS, fun b hb => ?_⟩
    generalize cutV (ns.map V.int) (some 3) (some 64) = cs at ci cl
    have sb := Same.put (o := .lst cs) hb
    have hb2 : upd H b (HO.lst cs) b = some (.lst cs) := upd_same
    generalize upd H b (HO.lst cs) = H1 at sb hb2
    refine ⟨b, rfl, ⟨_, .of hb2⟩, fun D hD => lc_lstR (fun i y H2 => ∃ p d, y = .ref p ∧ DdAt H2 p d ∧ ∃ ss, Deed d.1 d.2 ss) (fun i y H2 H3 h s => ?_) hD (.of hb2) (by omega) (fun i x H2 zs R ex s2 hD2 h => ?_) fun H2 ys s2 hD2 hyl hr2 => ?_⟩
    · obtain ⟨p, d, e, h1, h2⟩ := h
      exact ⟨p, d, e, s _ _ h1, h2⟩
    · dsimp! [lcSlots, sp_deed_by, sp_law_cell_at]
      obtain ⟨z1, rfl⟩ := ci x (List.mem_of_getElem? ex)
      refine ⟨_, rfl, sc, rfl, ns, (sb.trans s2).seq hS, by decide, fun z => ⟨by decide, z1, rfl, fun H3 l w0 xs ss s3 h3 ho => h (.ref l) H3 s3 ⟨l, (w0, xs), rfl, ?_, ss, ho⟩⟩⟩
      show hid D H3 l = _
      rw [hid_ne (ne_of h3 (s3 _ _ hD2) (by simp))]
      exact h3
    obtain ⟨ps, ds, rfl, hR, ho⟩ := dds_of ys hr2
    rw [List.length_map] at hyl
    have hpl := hR.1
    have s2 : Same H H2 := sb.trans s2
    clear hr2
    have tline : ∀ t ∈ ds.map (fun d => rowT d.1 d.2), Lin t := fun t ht => by
      obtain ⟨d, hd, rfl⟩ := List.mem_map.mp ht
      exact (ho d hd).elim fun ss h => h.row.1
    have tread : (ds.map fun d => rowT d.1 d.2).map deedR = ds.map some := by
      rw [List.map_map]
      exact List.map_congr_left fun d hd => (ho d hd).elim fun ss h => h.row.2
    have tl : (ds.map fun d => rowT d.1 d.2).length ≤ 61 := by rw [List.length_map]; omega
    have tgood : ∀ t ∈ ds.map (fun d => rowT d.1 d.2), deedR t ≠ none := fun t ht e => by
      obtain ⟨i, hi, rfl⟩ := List.mem_iff_getElem.mp ht
      have h1 : ((ds.map fun d => rowT d.1 d.2).map deedR)[i]? = some none := by
        rw [List.getElem?_map, List.getElem?_eq_getElem hi]
        exact congrArg some e
      rw [tread, List.getElem?_map] at h1
      obtain ⟨r, _, e3⟩ := Option.map_eq_some_iff.mp h1
      cases e3
    have tne : (ds.map fun d => rowT d.1 d.2) ≠ [Str.ofString ""] := fun e => by
      refine tgood (Str.ofString "") (by rw [e]; exact List.mem_singleton_self _) (by decide +kernel)
    have tback : ∀ ds2 : List Dd, (ds.map fun d => rowT d.1 d.2).map deedR = ds2.map some → ds2 = ds := fun ds2 e => by
      rw [tread] at e
      exact (List.map_inj_right (fun _ _ h => Option.some.inj h)).mp e.symm
    refine bodyT.of (@pss_cons _ _ _ _ _ (ps_lc (j := 2) rfl sc_law.nd rfl rfl (lcok (x := "_law_deed") (ns := []) (fr := []) rfl (by decide +kernel) rfl (by decide +kernel) rfl (List.forall_mem_nil _) rfl rfl (List.forall_mem_nil _) (by decide +kernel)) (pi_list (pv 1)) (fun _ _ _ _ => (pe_call (ok_law_row T) (hr.mono (by decide)) rfl T.m_law_row T.f_law_row.kp T.b_law_row .nil pass0 (@pa_cons _ _ _ _ _ (pv 0) pa_nil (by rfl)))) (fun _ _ _ _ => .nil)) pss_bodyT) ?_
    dsimp! []
    refine ⟨⟨_, .of hD2⟩, fun D2 hE => lc_lstS ((ds.map fun d => rowT d.1 d.2).map V.str) hE (.of hD2) (by simp [hpl]) (by simp; omega) (fun i x y H3 R e1 e2 s3 h => ?_) fun H3 s3 hE3 => ?_⟩
    · dsimp! [lcSlots, sp_row]
      rw [List.getElem?_map, Option.map_eq_some_iff] at e1
      obtain ⟨p, e1, rfl⟩ := e1
      rw [List.getElem?_map, List.getElem?_map, Option.map_map, Option.map_eq_some_iff] at e2
      obtain ⟨d, e2, rfl⟩ := e2
      obtain ⟨ss, hd⟩ := ho d (List.mem_of_getElem? e2)
      have few := parts_few hd.at_
      have := hd.len
      exact ⟨p, rfl, d.1, d.2, .of (s3 _ _ (hR.2 i p d e1 e2)), by omega, hd.word.1, fun x hx => (hd.all hx).elim fun s hs => hs.shw, fun H4 s4 => h H4 s4⟩
    have hD3 := s3 _ _ hD2
    have hR3 := hR.same s3
    have s3 := s2.trans s3
    refine bodyT.of (@pss_cons _ _ _ _ _ (ps_set (i := 3) sc_law.nd rfl (Or.inl rfl) (@pe_bm _ _ _ _ _ _ _ _ _ _ _ _ PySem.F.plainAttrs_str PySem.F.slot_str_join PySem.F.type_str_join mt_join pe_str (@pa_cons _ _ _ _ _ (pv 2) pa_nil (by rfl)) (by rfl) (by rfl) (by rfl) (by rfl) (by rfl))) pss_bodyT) ?_
    dsimp! []
    refine ⟨rfl, _, .of hE3, lines_sum (by omega) tline, ?_⟩
    rw [txt_join, show (Str.ofString "\n").join (ds.map fun d => rowT d.1 d.2) = linesT (ds.map fun d => rowT d.1 d.2) from rfl]
    generalize ets : (ds.map fun d => rowT d.1 d.2) = ts at hE3 tline tread tl tgood tne tback
    refine bodyT.of (@pss_cons _ _ _ _ _ (ps_set (i := 4) sc_law.nd rfl (Or.inl rfl) (pe_callTy call_list_of rfl T.n_list bt_list (@pa_cons _ _ _ _ _ (pv 1) pa_nil (by rfl)))) pss_bodyT) ?_
    dsimp! []
    refine ⟨_, .inl (.of hD3), fun l4 hl4 => ?_⟩
    have s4 := Same.put (o := .lst (ps.map V.ref)) hl4
    have h4 : upd H3 l4 (HO.lst (ps.map V.ref)) l4 = some (.lst (ps.map V.ref)) := upd_same
    generalize upd H3 l4 (HO.lst (ps.map V.ref)) = H4 at s4 h4
    refine bodyT.of (@pss_cons _ _ _ _ _ (ps_set (i := 5) sc_law.nd rfl (Or.inl rfl) (pe_call (ok_program_shown T) (hr.mono (by decide)) rfl T.m_program_shown T.f_program_shown.kp T.b_program_shown .nil pass0 (@pa_cons _ _ _ _ _ (pv 4) pa_nil (by rfl)))) pss_bodyT) ?_
    dsimp! [sp_shown]
    refine ⟨ps, .of h4, ds, hR3.same s4, by omega, ho, fun H5 s5 => ?_⟩
    rw [ets]
    have s45 := s4.trans s5
    have s05 := s3.trans s45
    have hR5 := hR3.same s45
    have hD5 := s45 _ _ hD3
    have hE5 := s45 _ _ hE3
    have h5 := s5 _ _ h4
    refine bodyT.of (@pss_cons _ _ _ _ _ (ps_if (PW.pt (pw_or (pt_not (pt_val (pe_callB call_isinst rfl T.n_isinstance bt_isinstance (@pa_cons _ _ _ _ _ (pv 5) (@pa_cons _ _ _ _ _ (pe_bltn (v := .ty "str") rfl T.n_str bt_str rfl) pa_nil (by rfl)) (by rfl))))) (pw_or (pt_cmpR op_ne (pv 5) (pv 3) (nomark _)) (pw_or1 (pt_cmpR (op_neD hr.units) (pv 4) (pv 1) (nomark _)))))) (@pss_one _ _ _ (@ps_ret _ _ _ _ pe_bl)) pss_nil) pss_bodyT) ?_
    dsimp! []
    refine ⟨_, .str _, true, kit_same K _, ?_⟩
    rw [if_neg (by decide)]
    refine ⟨_, _, hR5.isD h5 ho, hR5.isD hD5 ho, progD_dep ds, _, rfl, ?_⟩
    rw [if_pos rfl, deq_refl, if_neg (by decide)]
    refine bodyT.of (@pss_cons _ _ _ _ _ (ps_set (i := 6) sc_law.nd rfl (Or.inl rfl) (pe_call (ok_program_read T) (hr.mono (by decide)) rfl T.m_program_read T.f_program_read.kp T.b_program_read .nil pass1 (@pa_cons _ _ _ _ _ (pv 3) pa_nil (by rfl)))) pss_bodyT) ?_
    dsimp! [sp_prog]
    refine ⟨ts, rfl, by omega, tline, tne, fun ds2 e H6 l6 ps6 s6 hf6 hl6 hR6 => ?_, fun j t e1 e2 => absurd e2 (tgood t (List.mem_of_getElem? e1))⟩
    cases tback ds2 e
    have hp6 := hR6.1
    refine bodyT.of (@pss_cons _ _ _ _ _ (ps_if (PW.pt (pw_or (pt_not (pt_val (pe_callB call_isinst rfl T.n_isinstance bt_isinstance (@pa_cons _ _ _ _ _ (pv 6) (@pa_cons _ _ _ _ _ (pe_bltn (v := .ty "list") rfl T.n_list bt_list rfl) pa_nil (by rfl)) (by rfl))))) (pw_or1 (pt_cmpR (op_neD hr.units) (pv 6) (pv 1) (nomark _))))) (@pss_one _ _ _ (@ps_ret _ _ _ _ pe_bl)) pss_nil) pss_bodyT) ?_
    dsimp! []
    refine ⟨_, .lst hl6, true, kit_same K _, ?_⟩
    rw [if_neg (by decide)]
    refine ⟨_, _, hR6.isD hl6 ho, (hR5.same s6).isD (s6 _ _ hD5) ho, progD_dep ds, _, rfl, ?_⟩
    rw [if_pos rfl, deq_refl, if_neg (by decide)]
    refine bodyT.of (@pss_cons _ _ _ _ _ (ps_expr (@pe_bm _ _ _ _ _ _ _ _ _ _ _ _ PySem.F.plainAttrs_list PySem.F.slot_list_append PySem.F.type_list_append mt_append (pv 6) (@pa_cons _ _ _ _ _ (pe_tup (@pa_cons _ _ _ _ _ pe_str (@pa_cons _ _ _ _ _ pe_str pa_nil (by rfl)) (by rfl))) pa_nil (by rfl)) (by rfl) (by rfl) (by rfl) (by rfl) (by rfl))) pss_bodyT) ?_
    dsimp! []
    refine ⟨.inl ⟨rfl, _, .of hl6⟩, by rw [sizeLine_eq]; decide, fun p7 hp7 => ⟨l6, _, _, rfl, rfl, Same.put hp7 _ _ hl6, small1000 (by rw [List.length_map]; omega), ?_⟩⟩
    have s8 : Same H5 (upd (upd H6 p7 (HO.tup [V.str (Str.ofString "drop"), V.str (Str.ofString "a")])) l6 (HO.lst (ps6.map V.ref ++ [V.ref p7]))) := .putD (s6.trans (.put hp7)) hf6
    have h8 : upd (upd H6 p7 (HO.tup [V.str (Str.ofString "drop"), V.str (Str.ofString "a")])) l6 (HO.lst (ps6.map V.ref ++ [V.ref p7])) l6 = some (.lst (ps6.map V.ref ++ [V.ref p7])) := upd_same
    generalize upd (upd H6 p7 (HO.tup [V.str (Str.ofString "drop"), V.str (Str.ofString "a")])) l6 (HO.lst (ps6.map V.ref ++ [V.ref p7])) = H8 at s8 h8
    refine bodyT.of (@pss_cons _ _ _ _ _ (ps_forW PassesOwn.never rfl (pi_range2 rfl T.n_range (@pa_cons _ _ _ _ _ pe_int (@pa_cons _ _ _ _ _ pe_int pa_nil (by rfl)) (by rfl))) (pg_name (i := 7) sc_law.nd rfl (Or.inl rfl)) pss_bodyT) pss_bodyT) ?_
    dsimp! []
    refine ⟨by decide, by decide, by decide, by decide, ?_⟩
    refine fw_range (fun i σ' H' => ∃ o8 : Option V, σ' = [some (.ref sc), some (.ref D), some (.ref D2), some (.str (linesT ts)), some (.ref l4), some (.str (linesT ts)), some (.ref l6), o8] ∧ Same H8 H') ⟨none, rfl, .refl _⟩ ?_ ?_
    · rintro i σ' H9 hi ⟨o8, rfl, s9⟩
      refine gN ?_
      refine bodyT.of (@pss_one _ _ _ (ps_if (pt_not (pt_val (pe_call (ok_law_refused T) (hr.mono (by decide)) rfl T.m_law_refused T.f_law_refused.kp T.b_law_refused .nil pass0 (@pa_cons _ _ _ _ _ (pv 2) (@pa_cons _ _ _ _ _ (@pe_op _ _ _ _ _ _ _ _ op_mod (@pe_op _ _ _ _ _ _ _ _ op_mul (pe_call (ok_law_cell_at T) (hr.mono (by decide)) rfl T.m_law_cell_at T.f_law_cell_at.kp T.b_law_cell_at .nil pass0 (@pa_cons _ _ _ _ _ (pv 0) (@pa_cons _ _ _ _ _ (pv 7) pa_nil (by rfl)) (by rfl))) pe_int) pe_int) pa_nil (by rfl)) (by rfl))))) (@pss_one _ _ _ (@ps_ret _ _ _ _ pe_bl)) pss_nil)) ?_
      dsimp! [sp_law_cell_at, sp_refused9]
      refine ⟨ns, ((s05.trans s8).trans s9).seq hS, by omega, fun z => ⟨.inr ⟨by decide, by decide⟩, by decide, ?_⟩⟩
      obtain ⟨m, hm, _⟩ := mod_nat (z * 1583458089) 2147483647 (by decide)
      exact ⟨ts, m, hm, (s8.trans s9) _ _ hE5, tl, tline, tgood, fun H10 s10 => s9.trans s10⟩
    · rintro σ' H9 ⟨o8, rfl, s9⟩
      refine bodyT.of (@pss_cons _ _ _ _ _ (ps_if (PW.pt (pw_or (pt_cmpR (op_neD hr.units) (pe_call (ok_program_read T) (hr.mono (by decide)) rfl T.m_program_read T.f_program_read.kp T.b_program_read .nil pass1 (@pa_cons _ _ _ _ _ pe_str pa_nil (by rfl))) (pe_lst pa_nil) (nomark _)) (pw_or1 (pt_cmpR op_ne (pe_call (ok_program_shown T) (hr.mono (by decide)) rfl T.m_program_shown T.f_program_shown.kp T.b_program_shown .nil pass0 (@pa_cons _ _ _ _ _ (pe_lst pa_nil) pa_nil (by rfl))) pe_str (nomark _))))) (@pss_one _ _ _ (@ps_ret _ _ _ _ pe_bl)) pss_nil) pss_bodyT) ?_
      dsimp! [sp_prog, sp_shown]
      refine ⟨[], by decide +kernel, by decide, (fun _ h => nomatch h), by decide, fun ds0 e0 H10 l10 ps10 s10 _ hl10 hR10 p11 hp11 => ?_, (fun _ _ h => nomatch h)⟩
      have ed : ds0 = [] := by
        cases ds0 with
        | nil => rfl
        | cons => cases e0
      subst ed
      have s11 := Same.put (o := .lst []) hp11
      refine ⟨progD [], .lst [], (hR10.same s11).isD (s11 _ _ hl10) (fun _ h => nomatch h), nil_isD upd_same, progD_dep [], _, rfl, ?_⟩
      rw [if_pos rfl, show deq (progD []) (.lst []) = true from deq_refl (.lst []), if_neg (by decide)]
      have s11 := (s9.trans s10).trans s11
      generalize upd H10 p11 (HO.lst []) = H11 at s11
      refine fun p12 hp12 => ⟨[], .of upd_same, [], ⟨rfl, (fun _ _ _ h => nomatch h)⟩, by decide, (fun _ h => nomatch h), fun H13 s13 => ?_⟩
      have s13 := (s11.trans (.put hp12)).trans s13
      rw [show linesT (List.map (fun d : Dd => rowT d.1 d.2) []) = Str.ofString "" from by decide +kernel, if_neg (by decide +kernel)]
      refine bodyT.of (@pss_one _ _ _ (@ps_ret _ _ _ _ (pe_and (pe_cmpR (op_eqD hr.units) (pe_call (ok_program_read T) (hr.mono (by decide)) rfl T.m_program_read T.f_program_read.kp T.b_program_read .nil pass1 (@pa_cons _ _ _ _ _ (pv 3) pa_nil (by rfl))) (pv 1) (nomark _)) (pe_one (pe_cmpR op_eq (pe_callB call_len_seq rfl T.n_len bt_len (@pa_cons _ _ _ _ _ (pv 6) pa_nil (by rfl))) (@pe_op _ _ _ _ _ _ _ _ op_add (pe_callB call_len_seq rfl T.n_len bt_len (@pa_cons _ _ _ _ _ (pv 1) pa_nil (by rfl))) pe_int) (nomark _)))))) ?_
      dsimp! [sp_prog]
      refine ⟨ts, rfl, by omega, tline, tne, fun ds2 e H14 l14 ps14 s14 _ hl14 hR14 => ?_, fun j t e1 e2 => absurd e2 (tgood t (List.mem_of_getElem? e1))⟩
      cases tback ds2 e
      have s15 := s13.trans s14
      have s16 := s8.trans s15
      refine ⟨_, _, hR14.isD hl14 ho, (hR5.same s16).isD (s16 _ _ hD5) ho, progD_dep ds, _, rfl, ?_⟩
      rw [deq_refl, if_pos (by decide)]
      refine ⟨_, .inl (.of (s15 _ _ h8)), _, .inl (.of (s16 _ _ hD5)), ?_⟩
      rw [List.length_append, List.length_map, List.length_map, decide_eq_true (by rw [List.length_singleton]; omega)]
      exact q _
end
theorem all_mk {l : PySem.W.OpenLaw} {w : World} {K : PySem.W.Frag} {h : Heap} {mg : Str → Option Value} {fa : Addr} (X : K.In h) (G : h.Ns mainGlobals mg) (hfa : mg "law" = some (.ref fa))
    {f_NoDeed_init f_is_root f_is_number f_part_read f_deed_read f_deed_shown f_program_read f_program_shown f_law_whole f_law_cell_at f_law_drawn f_law_deed_by f_law_row f_law_odd_row f_law_told_of f_law_refused f_law C_HeapError C_NoDeed : Addr}
    {t_MOST_FIELDS t_MOST_FIGURES t_FIGURES : Tok}
    {t_PARTS : Addr}
    {u_PARTS_0 u_PARTS_1 u_PARTS_2 u_PARTS_3 u_PARTS_4 u_PARTS_5 u_PARTS_6 u_PARTS_7 u_PARTS_8 u_PARTS_9 u_PARTS_10 u_PARTS_11 u_PARTS_12 u_PARTS_13 : Addr} {ts_PARTS_0 ts_PARTS_1 ts_PARTS_2 ts_PARTS_3 ts_PARTS_4 ts_PARTS_5 ts_PARTS_6 ts_PARTS_7 ts_PARTS_8 ts_PARTS_9 ts_PARTS_10 ts_PARTS_11 ts_PARTS_12 ts_PARTS_13 : Array (Option Value)} {tn_PARTS_0 tn_PARTS_1 tn_PARTS_2 tn_PARTS_3 tn_PARTS_4 tn_PARTS_5 tn_PARTS_6 tn_PARTS_7 tn_PARTS_8 tn_PARTS_9 tn_PARTS_10 tn_PARTS_11 tn_PARTS_12 tn_PARTS_13 : Nat} {ep_PARTS : Nat} {hs_PARTS_0 hs_PARTS_1 hs_PARTS_2 hs_PARTS_3 hs_PARTS_4 hs_PARTS_5 hs_PARTS_6 hs_PARTS_7 hs_PARTS_8 hs_PARTS_9 hs_PARTS_10 hs_PARTS_11 hs_PARTS_12 hs_PARTS_13 : Int} {kt_PARTS_0 kt_PARTS_1 kt_PARTS_2 kt_PARTS_3 kt_PARTS_4 kt_PARTS_5 kt_PARTS_6 kt_PARTS_7 kt_PARTS_8 kt_PARTS_9 kt_PARTS_10 kt_PARTS_11 kt_PARTS_12 kt_PARTS_13 : Tok} {tk_PARTS_0_0 tk_PARTS_0_1 tk_PARTS_1_0 tk_PARTS_1_1 tk_PARTS_2_0 tk_PARTS_2_1 tk_PARTS_3_0 tk_PARTS_3_1 tk_PARTS_3_2 tk_PARTS_4_0 tk_PARTS_4_1 tk_PARTS_5_0 tk_PARTS_5_1 tk_PARTS_5_2 tk_PARTS_6_0 tk_PARTS_6_1 tk_PARTS_6_2 tk_PARTS_7_0 tk_PARTS_7_1 tk_PARTS_8_0 tk_PARTS_8_1 tk_PARTS_8_2 tk_PARTS_9_0 tk_PARTS_9_1 tk_PARTS_10_0 tk_PARTS_11_0 tk_PARTS_12_0 tk_PARTS_12_1 tk_PARTS_13_0 : Tok}
    {od_NoDeed_init an_NoDeed_init od_is_root an_is_root od_is_number an_is_number od_part_read an_part_read od_deed_read an_deed_read od_deed_shown an_deed_shown od_program_read an_program_read od_program_shown an_program_shown od_law_whole an_law_whole od_law_cell_at an_law_cell_at od_law_drawn an_law_drawn od_law_deed_by an_law_deed_by od_law_row an_law_row od_law_odd_row an_law_odd_row od_law_told_of an_law_told_of od_law_refused an_law_refused od_law an_law : Option Addr}
    {sl_NoDeed_init sl_is_root sl_is_number sl_part_read sl_deed_read sl_deed_shown sl_program_read sl_program_shown sl_law_whole sl_law_cell_at sl_law_drawn sl_law_deed_by sl_law_row sl_law_odd_row sl_law_told_of sl_law_refused sl_law : Array (Option Value)}
    {oc_NoDeed_init kV_NoDeed_init dc_NoDeed_init pm_NoDeed_init cd_NoDeed_init ct_NoDeed_init oc_is_root kV_is_root dc_is_root pm_is_root cd_is_root ct_is_root oc_is_number kV_is_number dc_is_number pm_is_number cd_is_number ct_is_number oc_part_read kV_part_read dc_part_read pm_part_read cd_part_read ct_part_read oc_deed_read kV_deed_read dc_deed_read pm_deed_read cd_deed_read ct_deed_read oc_deed_shown kV_deed_shown dc_deed_shown pm_deed_shown cd_deed_shown ct_deed_shown oc_program_read kV_program_read dc_program_read pm_program_read cd_program_read ct_program_read oc_program_shown kV_program_shown dc_program_shown pm_program_shown cd_program_shown ct_program_shown oc_law_whole kV_law_whole dc_law_whole pm_law_whole cd_law_whole ct_law_whole oc_law_cell_at kV_law_cell_at dc_law_cell_at pm_law_cell_at cd_law_cell_at ct_law_cell_at oc_law_drawn kV_law_drawn dc_law_drawn pm_law_drawn cd_law_drawn ct_law_drawn oc_law_deed_by kV_law_deed_by dc_law_deed_by pm_law_deed_by cd_law_deed_by ct_law_deed_by oc_law_row kV_law_row dc_law_row pm_law_row cd_law_row ct_law_row oc_law_odd_row kV_law_odd_row dc_law_odd_row pm_law_odd_row cd_law_odd_row ct_law_odd_row oc_law_told_of kV_law_told_of dc_law_told_of pm_law_told_of cd_law_told_of ct_law_told_of oc_law_refused kV_law_refused dc_law_refused pm_law_refused cd_law_refused ct_law_refused oc_law kV_law dc_law pm_law cd_law ct_law : Value}
    {xnm_NoDeed xqn_NoDeed xnm_HeapError xqn_HeapError : Str} {xN_NoDeed xN_HeapError : Addr} {xbs_NoDeed xsub_NoDeed xbs_HeapError xsub_HeapError : List Value} {xsn_NoDeed xsn_HeapError : List Str} {xab_NoDeed xab_HeapError : Bool} {xcol_NoDeed xcol_HeapError : Option Bool} {xdd_NoDeed xdd_HeapError : Option Addr} {xk0_NoDeed xk1_NoDeed xk2_NoDeed xk3_NoDeed xk5_NoDeed xk0_HeapError xk1_HeapError xk2_HeapError xk3_HeapError xk5_HeapError : Option Value} {xhd_HeapError : Bool}
    (cc_HeapError : PySem.W.nsIn K mainGlobals "HeapError" = some (some (.ref C_HeapError)))
    (cc_NoDeed : PySem.W.nsIn K mainGlobals "NoDeed" = some (some (.ref C_NoDeed)))
    (a_NoDeed_init : PySem.W.findIn K (.ref C_NoDeed) "__init__" = some (some (.ref f_NoDeed_init)))
    (i_NoDeed_init : PySem.W.isFn K (.ref f_NoDeed_init) = true)
    (l_NoDeed_init : K.lookup f_NoDeed_init = some ⟨oc_NoDeed_init, od_NoDeed_init, .func (PySem.W.fnOf "__init__" "NoDeed.__init__" (defArgs s_NoDeed_init) (defBody s_NoDeed_init) (defScope s_NoDeed_init) .none kV_NoDeed_init dc_NoDeed_init pm_NoDeed_init an_NoDeed_init cd_NoDeed_init ct_NoDeed_init), sl_NoDeed_init⟩)
    (co_NoDeed_init : PySem.W.codeIn K cd_NoDeed_init "NoDeed.__init__" = true)
    (k_NoDeed_init : PySem.W.keepIn K (.ref f_NoDeed_init) = true)
    (a_is_root : PySem.W.nsIn K mainGlobals "is_root" = some (some (.ref f_is_root)))
    (l_is_root : K.lookup f_is_root = some ⟨oc_is_root, od_is_root, .func (PySem.W.fnOf "is_root" "is_root" (defArgs s_is_root) (defBody s_is_root) (defScope s_is_root) .none kV_is_root dc_is_root pm_is_root an_is_root cd_is_root ct_is_root), sl_is_root⟩)
    (co_is_root : PySem.W.codeIn K cd_is_root "is_root" = true)
    (k_is_root : PySem.W.keepIn K (.ref f_is_root) = true)
    (a_is_number : PySem.W.nsIn K mainGlobals "is_number" = some (some (.ref f_is_number)))
    (l_is_number : K.lookup f_is_number = some ⟨oc_is_number, od_is_number, .func (PySem.W.fnOf "is_number" "is_number" (defArgs s_is_number) (defBody s_is_number) (defScope s_is_number) .none kV_is_number dc_is_number pm_is_number an_is_number cd_is_number ct_is_number), sl_is_number⟩)
    (co_is_number : PySem.W.codeIn K cd_is_number "is_number" = true)
    (k_is_number : PySem.W.keepIn K (.ref f_is_number) = true)
    (a_part_read : PySem.W.nsIn K mainGlobals "part_read" = some (some (.ref f_part_read)))
    (l_part_read : K.lookup f_part_read = some ⟨oc_part_read, od_part_read, .func (PySem.W.fnOf "part_read" "part_read" (defArgs s_part_read) (defBody s_part_read) (defScope s_part_read) .none kV_part_read dc_part_read pm_part_read an_part_read cd_part_read ct_part_read), sl_part_read⟩)
    (co_part_read : PySem.W.codeIn K cd_part_read "part_read" = true)
    (k_part_read : PySem.W.keepIn K (.ref f_part_read) = true)
    (a_deed_read : PySem.W.nsIn K mainGlobals "deed_read" = some (some (.ref f_deed_read)))
    (l_deed_read : K.lookup f_deed_read = some ⟨oc_deed_read, od_deed_read, .func (PySem.W.fnOf "deed_read" "deed_read" (defArgs s_deed_read) (defBody s_deed_read) (defScope s_deed_read) .none kV_deed_read dc_deed_read pm_deed_read an_deed_read cd_deed_read ct_deed_read), sl_deed_read⟩)
    (co_deed_read : PySem.W.codeIn K cd_deed_read "deed_read" = true)
    (k_deed_read : PySem.W.keepIn K (.ref f_deed_read) = true)
    (a_deed_shown : PySem.W.nsIn K mainGlobals "deed_shown" = some (some (.ref f_deed_shown)))
    (l_deed_shown : K.lookup f_deed_shown = some ⟨oc_deed_shown, od_deed_shown, .func (PySem.W.fnOf "deed_shown" "deed_shown" (defArgs s_deed_shown) (defBody s_deed_shown) (defScope s_deed_shown) .none kV_deed_shown dc_deed_shown pm_deed_shown an_deed_shown cd_deed_shown ct_deed_shown), sl_deed_shown⟩)
    (co_deed_shown : PySem.W.codeIn K cd_deed_shown "deed_shown" = true)
    (k_deed_shown : PySem.W.keepIn K (.ref f_deed_shown) = true)
    (a_program_read : PySem.W.nsIn K mainGlobals "program_read" = some (some (.ref f_program_read)))
    (l_program_read : K.lookup f_program_read = some ⟨oc_program_read, od_program_read, .func (PySem.W.fnOf "program_read" "program_read" (defArgs s_program_read) (defBody s_program_read) (defScope s_program_read) .none kV_program_read dc_program_read pm_program_read an_program_read cd_program_read ct_program_read), sl_program_read⟩)
    (co_program_read : PySem.W.codeIn K cd_program_read "program_read" = true)
    (k_program_read : PySem.W.keepIn K (.ref f_program_read) = true)
    (a_program_shown : PySem.W.nsIn K mainGlobals "program_shown" = some (some (.ref f_program_shown)))
    (l_program_shown : K.lookup f_program_shown = some ⟨oc_program_shown, od_program_shown, .func (PySem.W.fnOf "program_shown" "program_shown" (defArgs s_program_shown) (defBody s_program_shown) (defScope s_program_shown) .none kV_program_shown dc_program_shown pm_program_shown an_program_shown cd_program_shown ct_program_shown), sl_program_shown⟩)
    (co_program_shown : PySem.W.codeIn K cd_program_shown "program_shown" = true)
    (k_program_shown : PySem.W.keepIn K (.ref f_program_shown) = true)
    (a_law_whole : PySem.W.nsIn K mainGlobals "_law_whole" = some (some (.ref f_law_whole)))
    (l_law_whole : K.lookup f_law_whole = some ⟨oc_law_whole, od_law_whole, .func (PySem.W.fnOf "_law_whole" "_law_whole" (defArgs s_law_whole) (defBody s_law_whole) (defScope s_law_whole) .none kV_law_whole dc_law_whole pm_law_whole an_law_whole cd_law_whole ct_law_whole), sl_law_whole⟩)
    (co_law_whole : PySem.W.codeIn K cd_law_whole "_law_whole" = true)
    (k_law_whole : PySem.W.keepIn K (.ref f_law_whole) = true)
    (a_law_cell_at : PySem.W.nsIn K mainGlobals "_law_cell_at" = some (some (.ref f_law_cell_at)))
    (l_law_cell_at : K.lookup f_law_cell_at = some ⟨oc_law_cell_at, od_law_cell_at, .func (PySem.W.fnOf "_law_cell_at" "_law_cell_at" (defArgs s_law_cell_at) (defBody s_law_cell_at) (defScope s_law_cell_at) .none kV_law_cell_at dc_law_cell_at pm_law_cell_at an_law_cell_at cd_law_cell_at ct_law_cell_at), sl_law_cell_at⟩)
    (co_law_cell_at : PySem.W.codeIn K cd_law_cell_at "_law_cell_at" = true)
    (k_law_cell_at : PySem.W.keepIn K (.ref f_law_cell_at) = true)
    (a_law_drawn : PySem.W.nsIn K mainGlobals "_law_drawn" = some (some (.ref f_law_drawn)))
    (l_law_drawn : K.lookup f_law_drawn = some ⟨oc_law_drawn, od_law_drawn, .func (PySem.W.fnOf "_law_drawn" "_law_drawn" (defArgs s_law_drawn) (defBody s_law_drawn) (defScope s_law_drawn) .none kV_law_drawn dc_law_drawn pm_law_drawn an_law_drawn cd_law_drawn ct_law_drawn), sl_law_drawn⟩)
    (co_law_drawn : PySem.W.codeIn K cd_law_drawn "_law_drawn" = true)
    (k_law_drawn : PySem.W.keepIn K (.ref f_law_drawn) = true)
    (a_law_deed_by : PySem.W.nsIn K mainGlobals "_law_deed_by" = some (some (.ref f_law_deed_by)))
    (l_law_deed_by : K.lookup f_law_deed_by = some ⟨oc_law_deed_by, od_law_deed_by, .func (PySem.W.fnOf "_law_deed_by" "_law_deed_by" (defArgs s_law_deed_by) (defBody s_law_deed_by) (defScope s_law_deed_by) .none kV_law_deed_by dc_law_deed_by pm_law_deed_by an_law_deed_by cd_law_deed_by ct_law_deed_by), sl_law_deed_by⟩)
    (co_law_deed_by : PySem.W.codeIn K cd_law_deed_by "_law_deed_by" = true)
    (k_law_deed_by : PySem.W.keepIn K (.ref f_law_deed_by) = true)
    (a_law_row : PySem.W.nsIn K mainGlobals "_law_row" = some (some (.ref f_law_row)))
    (l_law_row : K.lookup f_law_row = some ⟨oc_law_row, od_law_row, .func (PySem.W.fnOf "_law_row" "_law_row" (defArgs s_law_row) (defBody s_law_row) (defScope s_law_row) .none kV_law_row dc_law_row pm_law_row an_law_row cd_law_row ct_law_row), sl_law_row⟩)
    (co_law_row : PySem.W.codeIn K cd_law_row "_law_row" = true)
    (k_law_row : PySem.W.keepIn K (.ref f_law_row) = true)
    (a_law_odd_row : PySem.W.nsIn K mainGlobals "_law_odd_row" = some (some (.ref f_law_odd_row)))
    (l_law_odd_row : K.lookup f_law_odd_row = some ⟨oc_law_odd_row, od_law_odd_row, .func (PySem.W.fnOf "_law_odd_row" "_law_odd_row" (defArgs s_law_odd_row) (defBody s_law_odd_row) (defScope s_law_odd_row) .none kV_law_odd_row dc_law_odd_row pm_law_odd_row an_law_odd_row cd_law_odd_row ct_law_odd_row), sl_law_odd_row⟩)
    (co_law_odd_row : PySem.W.codeIn K cd_law_odd_row "_law_odd_row" = true)
    (k_law_odd_row : PySem.W.keepIn K (.ref f_law_odd_row) = true)
    (a_law_told_of : PySem.W.nsIn K mainGlobals "_law_told_of" = some (some (.ref f_law_told_of)))
    (l_law_told_of : K.lookup f_law_told_of = some ⟨oc_law_told_of, od_law_told_of, .func (PySem.W.fnOf "_law_told_of" "_law_told_of" (defArgs s_law_told_of) (defBody s_law_told_of) (defScope s_law_told_of) .none kV_law_told_of dc_law_told_of pm_law_told_of an_law_told_of cd_law_told_of ct_law_told_of), sl_law_told_of⟩)
    (co_law_told_of : PySem.W.codeIn K cd_law_told_of "_law_told_of" = true)
    (k_law_told_of : PySem.W.keepIn K (.ref f_law_told_of) = true)
    (a_law_refused : PySem.W.nsIn K mainGlobals "_law_refused" = some (some (.ref f_law_refused)))
    (l_law_refused : K.lookup f_law_refused = some ⟨oc_law_refused, od_law_refused, .func (PySem.W.fnOf "_law_refused" "_law_refused" (defArgs s_law_refused) (defBody s_law_refused) (defScope s_law_refused) .none kV_law_refused dc_law_refused pm_law_refused an_law_refused cd_law_refused ct_law_refused), sl_law_refused⟩)
    (co_law_refused : PySem.W.codeIn K cd_law_refused "_law_refused" = true)
    (k_law_refused : PySem.W.keepIn K (.ref f_law_refused) = true)
    (a_law : PySem.W.nsIn K mainGlobals "law" = some (some (.ref f_law)))
    (l_law : K.lookup f_law = some ⟨oc_law, od_law, .func (PySem.W.fnOf "law" "law" (defArgs s_law) (defBody s_law) (defScope s_law) .none kV_law dc_law pm_law an_law cd_law ct_law), sl_law⟩)
    (co_law : PySem.W.codeIn K cd_law "law" = true)
    (k_law : PySem.W.keepIn K (.ref f_law) = true)
    (g_MOST_FIELDS : PySem.W.nsIn K mainGlobals "MOST_FIELDS" = some (some (.int 8 t_MOST_FIELDS)))
    (g_MOST_FIGURES : PySem.W.nsIn K mainGlobals "MOST_FIGURES" = some (some (.int 60 t_MOST_FIGURES)))
    (g_FIGURES : PySem.W.nsIn K mainGlobals "FIGURES" = some (some (.str "0123456789" t_FIGURES)))
    (g_PARTS : PySem.W.nsIn K mainGlobals "PARTS" = some (some (.ref t_PARTS)))
    (gn_PARTS : (t_PARTS == sysModules) = false)
    (gk_PARTS : K.lookup t_PARTS = some ⟨.type "dict", none, .dict #[⟨hs_PARTS_0, .str "num" kt_PARTS_0, .ref u_PARTS_0⟩, ⟨hs_PARTS_1, .str "make" kt_PARTS_1, .ref u_PARTS_1⟩, ⟨hs_PARTS_2, .str "weak" kt_PARTS_2, .ref u_PARTS_2⟩, ⟨hs_PARTS_3, .str "pair" kt_PARTS_3, .ref u_PARTS_3⟩, ⟨hs_PARTS_4, .str "words" kt_PARTS_4, .ref u_PARTS_4⟩, ⟨hs_PARTS_5, .str "put" kt_PARTS_5, .ref u_PARTS_5⟩, ⟨hs_PARTS_6, .str "get" kt_PARTS_6, .ref u_PARTS_6⟩, ⟨hs_PARTS_7, .str "look" kt_PARTS_7, .ref u_PARTS_7⟩, ⟨hs_PARTS_8, .str "find" kt_PARTS_8, .ref u_PARTS_8⟩, ⟨hs_PARTS_9, .str "copy" kt_PARTS_9, .ref u_PARTS_9⟩, ⟨hs_PARTS_10, .str "drop" kt_PARTS_10, .ref u_PARTS_10⟩, ⟨hs_PARTS_11, .str "tell" kt_PARTS_11, .ref u_PARTS_11⟩, ⟨hs_PARTS_12, .str "same" kt_PARTS_12, .ref u_PARTS_12⟩, ⟨hs_PARTS_13, .str "hear" kt_PARTS_13, .ref u_PARTS_13⟩] ep_PARTS, #[]⟩)
    (gu_PARTS_0 : K.lookup u_PARTS_0 = some ⟨.type "tuple", none, .seq #[.str "root" tk_PARTS_0_0, .str "number" tk_PARTS_0_1] tn_PARTS_0, ts_PARTS_0⟩)
    (gu_PARTS_1 : K.lookup u_PARTS_1 = some ⟨.type "tuple", none, .seq #[.str "root" tk_PARTS_1_0, .str "fields" tk_PARTS_1_1] tn_PARTS_1, ts_PARTS_1⟩)
    (gu_PARTS_2 : K.lookup u_PARTS_2 = some ⟨.type "tuple", none, .seq #[.str "root" tk_PARTS_2_0, .str "root" tk_PARTS_2_1] tn_PARTS_2, ts_PARTS_2⟩)
    (gu_PARTS_3 : K.lookup u_PARTS_3 = some ⟨.type "tuple", none, .seq #[.str "root" tk_PARTS_3_0, .str "root" tk_PARTS_3_1, .str "root" tk_PARTS_3_2] tn_PARTS_3, ts_PARTS_3⟩)
    (gu_PARTS_4 : K.lookup u_PARTS_4 = some ⟨.type "tuple", none, .seq #[.str "root" tk_PARTS_4_0, .str "number" tk_PARTS_4_1] tn_PARTS_4, ts_PARTS_4⟩)
    (gu_PARTS_5 : K.lookup u_PARTS_5 = some ⟨.type "tuple", none, .seq #[.str "root" tk_PARTS_5_0, .str "number" tk_PARTS_5_1, .str "root" tk_PARTS_5_2] tn_PARTS_5, ts_PARTS_5⟩)
    (gu_PARTS_6 : K.lookup u_PARTS_6 = some ⟨.type "tuple", none, .seq #[.str "root" tk_PARTS_6_0, .str "root" tk_PARTS_6_1, .str "number" tk_PARTS_6_2] tn_PARTS_6, ts_PARTS_6⟩)
    (gu_PARTS_7 : K.lookup u_PARTS_7 = some ⟨.type "tuple", none, .seq #[.str "root" tk_PARTS_7_0, .str "root" tk_PARTS_7_1] tn_PARTS_7, ts_PARTS_7⟩)
    (gu_PARTS_8 : K.lookup u_PARTS_8 = some ⟨.type "tuple", none, .seq #[.str "root" tk_PARTS_8_0, .str "root" tk_PARTS_8_1, .str "root" tk_PARTS_8_2] tn_PARTS_8, ts_PARTS_8⟩)
    (gu_PARTS_9 : K.lookup u_PARTS_9 = some ⟨.type "tuple", none, .seq #[.str "root" tk_PARTS_9_0, .str "root" tk_PARTS_9_1] tn_PARTS_9, ts_PARTS_9⟩)
    (gu_PARTS_10 : K.lookup u_PARTS_10 = some ⟨.type "tuple", none, .seq #[.str "root" tk_PARTS_10_0] tn_PARTS_10, ts_PARTS_10⟩)
    (gu_PARTS_11 : K.lookup u_PARTS_11 = some ⟨.type "tuple", none, .seq #[.str "root" tk_PARTS_11_0] tn_PARTS_11, ts_PARTS_11⟩)
    (gu_PARTS_12 : K.lookup u_PARTS_12 = some ⟨.type "tuple", none, .seq #[.str "root" tk_PARTS_12_0, .str "root" tk_PARTS_12_1] tn_PARTS_12, ts_PARTS_12⟩)
    (gu_PARTS_13 : K.lookup u_PARTS_13 = some ⟨.type "tuple", none, .seq #[.str "root" tk_PARTS_13_0] tn_PARTS_13, ts_PARTS_13⟩)
    (tyg : PySem.W.specialIn K (.builtin "object.__class__") "__get__" = some (some (.builtin "getset_descriptor.__get__")))
    (tyt : PySem.W.takesIn K (.builtin "object.__class__") = some true)
    (xl_HeapError : K.lookup C_HeapError = some (PySem.excClassObj xnm_HeapError xqn_HeapError C_HeapError xN_HeapError xbs_HeapError L2.bmV xhd_HeapError xsn_HeapError xsub_HeapError xab_HeapError xcol_HeapError xdd_HeapError xk0_HeapError xk1_HeapError xk2_HeapError xk3_HeapError xk5_HeapError "ValueError.__new__"))
    (xb_HeapError : PySem.W.excIn K C_HeapError L2.bmV "ValueError.__new__" = true)
    (xi1_HeapError : PySem.W.specialIn K (.ref C_HeapError) "__getattribute__" = some (some (.builtin "type.__getattribute__")))
    (xi2_HeapError : PySem.W.readsIn K C_HeapError (.type "type") = true)
    (xi3_HeapError : PySem.W.findCls K (.ref C_HeapError) (.type "type") "__init__" = some (.val (.builtin "ValueError.__init__")))
    (xl_NoDeed : K.lookup C_NoDeed = some (PySem.excClassObj xnm_NoDeed xqn_NoDeed C_NoDeed xN_NoDeed xbs_NoDeed (.ref C_HeapError :: L2.bmV) true xsn_NoDeed xsub_NoDeed xab_NoDeed xcol_NoDeed xdd_NoDeed xk0_NoDeed xk1_NoDeed xk2_NoDeed xk3_NoDeed xk5_NoDeed "ValueError.__new__"))
    (xsa_NoDeed : PySem.W.findIn K (.ref C_NoDeed) "__setattr__" = some (some (.builtin "object.__setattr__")))
    (xga_NoDeed : PySem.W.findIn K (.ref C_NoDeed) "__getattribute__" = some (some (.builtin "BaseException.__getattribute__")))
    (xgn_NoDeed : PySem.W.findIn K (.ref C_NoDeed) "__getattr__" = some none)
    (xcl_NoDeed : PySem.W.findIn K (.ref C_NoDeed) "__class__" = some (some (.builtin "object.__class__")))
    (xfr_NoDeed : PySem.W.findIn K (.ref C_NoDeed) "row" = some none)
    (xmo_NoDeed : PySem.W.mroIn K C_NoDeed (.type "object") = some true)
    (xkp_NoDeed : PySem.W.keepIn K (.ref C_NoDeed) = true)
    (xtk_NoDeed : PySem.W.takerIn K C_NoDeed "row" = some none)
    (ki_NoDeed_NoDeed : PySem.W.kitOne K (.ref C_NoDeed) (.ref C_NoDeed) = some true)
    (n_abs : PySem.W.nsIn K mainGlobals "abs" = some none)
    (n_all : PySem.W.nsIn K mainGlobals "all" = some none)
    (n_any : PySem.W.nsIn K mainGlobals "any" = some none)
    (n_bool : PySem.W.nsIn K mainGlobals "bool" = some none)
    (n_enumerate : PySem.W.nsIn K mainGlobals "enumerate" = some none)
    (n_int : PySem.W.nsIn K mainGlobals "int" = some none)
    (n_isinstance : PySem.W.nsIn K mainGlobals "isinstance" = some none)
    (n_len : PySem.W.nsIn K mainGlobals "len" = some none)
    (n_list : PySem.W.nsIn K mainGlobals "list" = some none)
    (n_range : PySem.W.nsIn K mainGlobals "range" = some none)
    (n_str : PySem.W.nsIn K mainGlobals "str" = some none)
    (n_tuple : PySem.W.nsIn K mainGlobals "tuple" = some none)
    (n_zip : PySem.W.nsIn K mainGlobals "zip" = some none)
    : ∃ fd : FuncData, (∀ (s : Shared) (v : Value), BindsTo s fd ⟨[v], []⟩ [("_law_script", v)]) ∧ ∀ base : Heap, K.In base → base.Ns mainGlobals mg → FnOk l.prog w K mg base CX0 10 fa fd ["_law_script"] (sp_law K) := by
  have e : f_law = fa := by
    have e := hfa.symm.trans (PySem.W.mg_of X G a_law)
    cases e
    rfl
  subst e
  have F_NoDeed_init := fun_mk (st := s_NoDeed_init) l_NoDeed_init co_NoDeed_init k_NoDeed_init
  have F_is_root := fun_mk (st := s_is_root) l_is_root co_is_root k_is_root
  have F_is_number := fun_mk (st := s_is_number) l_is_number co_is_number k_is_number
  have F_part_read := fun_mk (st := s_part_read) l_part_read co_part_read k_part_read
  have F_deed_read := fun_mk (st := s_deed_read) l_deed_read co_deed_read k_deed_read
  have F_deed_shown := fun_mk (st := s_deed_shown) l_deed_shown co_deed_shown k_deed_shown
  have F_program_read := fun_mk (st := s_program_read) l_program_read co_program_read k_program_read
  have F_program_shown := fun_mk (st := s_program_shown) l_program_shown co_program_shown k_program_shown
  have F_law_whole := fun_mk (st := s_law_whole) l_law_whole co_law_whole k_law_whole
  have F_law_cell_at := fun_mk (st := s_law_cell_at) l_law_cell_at co_law_cell_at k_law_cell_at
  have F_law_drawn := fun_mk (st := s_law_drawn) l_law_drawn co_law_drawn k_law_drawn
  have F_law_deed_by := fun_mk (st := s_law_deed_by) l_law_deed_by co_law_deed_by k_law_deed_by
  have F_law_row := fun_mk (st := s_law_row) l_law_row co_law_row k_law_row
  have F_law_odd_row := fun_mk (st := s_law_odd_row) l_law_odd_row co_law_odd_row k_law_odd_row
  have F_law_told_of := fun_mk (st := s_law_told_of) l_law_told_of co_law_told_of k_law_told_of
  have F_law_refused := fun_mk (st := s_law_refused) l_law_refused co_law_refused k_law_refused
  have F_law := fun_mk (st := s_law) l_law co_law k_law
  have B_NoDeed_init := F_NoDeed_init.binds (ps := ["self", "row"]) fun _ _ _ _ _ _ us hl => match us, hl with | [_, _], _ => rfl
  have B_is_root := F_is_root.binds (ps := ["text"]) fun _ _ _ _ _ _ us hl => match us, hl with | [_], _ => rfl
  have B_is_number := F_is_number.binds (ps := ["text"]) fun _ _ _ _ _ _ us hl => match us, hl with | [_], _ => rfl
  have B_part_read := F_part_read.binds (ps := ["text", "wanted"]) fun _ _ _ _ _ _ us hl => match us, hl with | [_, _], _ => rfl
  have B_deed_read := F_deed_read.binds (ps := ["text"]) fun _ _ _ _ _ _ us hl => match us, hl with | [_], _ => rfl
  have B_deed_shown := F_deed_shown.binds (ps := ["deed"]) fun _ _ _ _ _ _ us hl => match us, hl with | [_], _ => rfl
  have B_program_read := F_program_read.binds (ps := ["text"]) fun _ _ _ _ _ _ us hl => match us, hl with | [_], _ => rfl
  have B_program_shown := F_program_shown.binds (ps := ["deeds"]) fun _ _ _ _ _ _ us hl => match us, hl with | [_], _ => rfl
  have B_law_whole := F_law_whole.binds (ps := ["_law_found"]) fun _ _ _ _ _ _ us hl => match us, hl with | [_], _ => rfl
  have B_law_cell_at := F_law_cell_at.binds (ps := ["_law_script", "_law_k"]) fun _ _ _ _ _ _ us hl => match us, hl with | [_, _], _ => rfl
  have B_law_drawn := F_law_drawn.binds (ps := ["_law_cell", "_law_sizes", "_law_free"]) fun _ _ _ _ _ _ us hl => match us, hl with | [_, _, _], _ => rfl
  have B_law_deed_by := F_law_deed_by.binds (ps := ["_law_cell", "_law_free"]) fun _ _ _ _ _ _ us hl => match us, hl with | [_, _], _ => rfl
  have B_law_row := F_law_row.binds (ps := ["_law_deed"]) fun _ _ _ _ _ _ us hl => match us, hl with | [_], _ => rfl
  have B_law_odd_row := F_law_odd_row.binds (ps := ["_law_number"]) fun _ _ _ _ _ _ us hl => match us, hl with | [_], _ => rfl
  have B_law_told_of := F_law_told_of.binds (ps := ["_law_text"]) fun _ _ _ _ _ _ us hl => match us, hl with | [_], _ => rfl
  have B_law_refused := F_law_refused.binds (ps := ["_law_rows", "_law_number"]) fun _ _ _ _ _ _ us hl => match us, hl with | [_, _], _ => rfl
  have T : Txt K mg ⟨f_NoDeed_init, PySem.W.fnOf "__init__" "NoDeed.__init__" (defArgs s_NoDeed_init) (defBody s_NoDeed_init) (defScope s_NoDeed_init) .none kV_NoDeed_init dc_NoDeed_init pm_NoDeed_init an_NoDeed_init cd_NoDeed_init ct_NoDeed_init, f_is_root, PySem.W.fnOf "is_root" "is_root" (defArgs s_is_root) (defBody s_is_root) (defScope s_is_root) .none kV_is_root dc_is_root pm_is_root an_is_root cd_is_root ct_is_root, f_is_number, PySem.W.fnOf "is_number" "is_number" (defArgs s_is_number) (defBody s_is_number) (defScope s_is_number) .none kV_is_number dc_is_number pm_is_number an_is_number cd_is_number ct_is_number, f_part_read, PySem.W.fnOf "part_read" "part_read" (defArgs s_part_read) (defBody s_part_read) (defScope s_part_read) .none kV_part_read dc_part_read pm_part_read an_part_read cd_part_read ct_part_read, f_deed_read, PySem.W.fnOf "deed_read" "deed_read" (defArgs s_deed_read) (defBody s_deed_read) (defScope s_deed_read) .none kV_deed_read dc_deed_read pm_deed_read an_deed_read cd_deed_read ct_deed_read, f_deed_shown, PySem.W.fnOf "deed_shown" "deed_shown" (defArgs s_deed_shown) (defBody s_deed_shown) (defScope s_deed_shown) .none kV_deed_shown dc_deed_shown pm_deed_shown an_deed_shown cd_deed_shown ct_deed_shown, f_program_read, PySem.W.fnOf "program_read" "program_read" (defArgs s_program_read) (defBody s_program_read) (defScope s_program_read) .none kV_program_read dc_program_read pm_program_read an_program_read cd_program_read ct_program_read, f_program_shown, PySem.W.fnOf "program_shown" "program_shown" (defArgs s_program_shown) (defBody s_program_shown) (defScope s_program_shown) .none kV_program_shown dc_program_shown pm_program_shown an_program_shown cd_program_shown ct_program_shown, f_law_whole, PySem.W.fnOf "_law_whole" "_law_whole" (defArgs s_law_whole) (defBody s_law_whole) (defScope s_law_whole) .none kV_law_whole dc_law_whole pm_law_whole an_law_whole cd_law_whole ct_law_whole, f_law_cell_at, PySem.W.fnOf "_law_cell_at" "_law_cell_at" (defArgs s_law_cell_at) (defBody s_law_cell_at) (defScope s_law_cell_at) .none kV_law_cell_at dc_law_cell_at pm_law_cell_at an_law_cell_at cd_law_cell_at ct_law_cell_at, f_law_drawn, PySem.W.fnOf "_law_drawn" "_law_drawn" (defArgs s_law_drawn) (defBody s_law_drawn) (defScope s_law_drawn) .none kV_law_drawn dc_law_drawn pm_law_drawn an_law_drawn cd_law_drawn ct_law_drawn, f_law_deed_by, PySem.W.fnOf "_law_deed_by" "_law_deed_by" (defArgs s_law_deed_by) (defBody s_law_deed_by) (defScope s_law_deed_by) .none kV_law_deed_by dc_law_deed_by pm_law_deed_by an_law_deed_by cd_law_deed_by ct_law_deed_by, f_law_row, PySem.W.fnOf "_law_row" "_law_row" (defArgs s_law_row) (defBody s_law_row) (defScope s_law_row) .none kV_law_row dc_law_row pm_law_row an_law_row cd_law_row ct_law_row, f_law_odd_row, PySem.W.fnOf "_law_odd_row" "_law_odd_row" (defArgs s_law_odd_row) (defBody s_law_odd_row) (defScope s_law_odd_row) .none kV_law_odd_row dc_law_odd_row pm_law_odd_row an_law_odd_row cd_law_odd_row ct_law_odd_row, f_law_told_of, PySem.W.fnOf "_law_told_of" "_law_told_of" (defArgs s_law_told_of) (defBody s_law_told_of) (defScope s_law_told_of) .none kV_law_told_of dc_law_told_of pm_law_told_of an_law_told_of cd_law_told_of ct_law_told_of, f_law_refused, PySem.W.fnOf "_law_refused" "_law_refused" (defArgs s_law_refused) (defBody s_law_refused) (defScope s_law_refused) .none kV_law_refused dc_law_refused pm_law_refused an_law_refused cd_law_refused ct_law_refused, f_law, PySem.W.fnOf "law" "law" (defArgs s_law) (defBody s_law) (defScope s_law) .none kV_law dc_law pm_law an_law cd_law ct_law, C_HeapError, C_NoDeed, t_MOST_FIELDS, t_MOST_FIGURES, t_FIGURES, t_PARTS, u_PARTS_0, u_PARTS_1, u_PARTS_2, u_PARTS_3, u_PARTS_4, u_PARTS_5, u_PARTS_6, u_PARTS_7, u_PARTS_8, u_PARTS_9, u_PARTS_10, u_PARTS_11, u_PARTS_12, u_PARTS_13⟩ := by
    exact {
      f_NoDeed_init := F_NoDeed_init,
      b_NoDeed_init := B_NoDeed_init,
      in_NoDeed := a_NoDeed_init, if_NoDeed := i_NoDeed_init,
      f_is_root := F_is_root,
      b_is_root := B_is_root,
      m_is_root := PySem.W.mg_of X G a_is_root,
      f_is_number := F_is_number,
      b_is_number := B_is_number,
      m_is_number := PySem.W.mg_of X G a_is_number,
      f_part_read := F_part_read,
      b_part_read := B_part_read,
      m_part_read := PySem.W.mg_of X G a_part_read,
      f_deed_read := F_deed_read,
      b_deed_read := B_deed_read,
      m_deed_read := PySem.W.mg_of X G a_deed_read,
      f_deed_shown := F_deed_shown,
      b_deed_shown := B_deed_shown,
      m_deed_shown := PySem.W.mg_of X G a_deed_shown,
      f_program_read := F_program_read,
      b_program_read := B_program_read,
      m_program_read := PySem.W.mg_of X G a_program_read,
      f_program_shown := F_program_shown,
      b_program_shown := B_program_shown,
      m_program_shown := PySem.W.mg_of X G a_program_shown,
      f_law_whole := F_law_whole,
      b_law_whole := B_law_whole,
      m_law_whole := PySem.W.mg_of X G a_law_whole,
      f_law_cell_at := F_law_cell_at,
      b_law_cell_at := B_law_cell_at,
      m_law_cell_at := PySem.W.mg_of X G a_law_cell_at,
      f_law_drawn := F_law_drawn,
      b_law_drawn := B_law_drawn,
      m_law_drawn := PySem.W.mg_of X G a_law_drawn,
      f_law_deed_by := F_law_deed_by,
      b_law_deed_by := B_law_deed_by,
      m_law_deed_by := PySem.W.mg_of X G a_law_deed_by,
      f_law_row := F_law_row,
      b_law_row := B_law_row,
      m_law_row := PySem.W.mg_of X G a_law_row,
      f_law_odd_row := F_law_odd_row,
      b_law_odd_row := B_law_odd_row,
      m_law_odd_row := PySem.W.mg_of X G a_law_odd_row,
      f_law_told_of := F_law_told_of,
      b_law_told_of := B_law_told_of,
      m_law_told_of := PySem.W.mg_of X G a_law_told_of,
      f_law_refused := F_law_refused,
      b_law_refused := B_law_refused,
      m_law_refused := PySem.W.mg_of X G a_law_refused,
      f_law := F_law,
      m_law := PySem.W.mg_of X G a_law,
      xc_NoDeed := ⟨⟨_, _, _, _, _, _, _, _, _, _, _, _, _, _, xl_NoDeed⟩, ⟨_, _, _, _, _, _, _, _, _, _, _, _, _, _, _, xl_HeapError⟩, xb_HeapError, xsa_NoDeed, xga_NoDeed, xgn_NoDeed, xcl_NoDeed, tyg, tyt, xmo_NoDeed, xkp_NoDeed⟩,
      mc_NoDeed := PySem.W.mg_of X G cc_NoDeed,
      tk_NoDeed := xtk_NoDeed,
      fr_NoDeed := xfr_NoDeed,
      xi_HeapError := ⟨xi1_HeapError, xi2_HeapError, xi3_HeapError⟩,
      mc_HeapError := PySem.W.mg_of X G cc_HeapError,
      ki_NoDeed_NoDeed := ki_NoDeed_NoDeed,
      c_MOST_FIELDS := PySem.W.mg_of X G g_MOST_FIELDS,
      c_MOST_FIGURES := PySem.W.mg_of X G g_MOST_FIGURES,
      c_FIGURES := PySem.W.mg_of X G g_FIGURES,
      c_PARTS := PySem.W.mg_of X G g_PARTS,
      tb_PARTS := .mk gn_PARTS gk_PARTS (rows_cons (rows_cons (rows_cons (rows_cons (rows_cons (rows_cons (rows_cons (rows_cons (rows_cons (rows_cons (rows_cons (rows_cons (rows_cons (rows_cons rfl)))))))))))))),
      qu_PARTS_0 := fun H => .inr ⟨_, _, _, gu_PARTS_0, rfl, rfl, (by show 2 ≤ sizeLine; decide), (.cons ⟨_, rfl⟩ (.cons ⟨_, rfl⟩ Paired.nil))⟩,
      qu_PARTS_1 := fun H => .inr ⟨_, _, _, gu_PARTS_1, rfl, rfl, (by show 2 ≤ sizeLine; decide), (.cons ⟨_, rfl⟩ (.cons ⟨_, rfl⟩ Paired.nil))⟩,
      qu_PARTS_2 := fun H => .inr ⟨_, _, _, gu_PARTS_2, rfl, rfl, (by show 2 ≤ sizeLine; decide), (.cons ⟨_, rfl⟩ (.cons ⟨_, rfl⟩ Paired.nil))⟩,
      qu_PARTS_3 := fun H => .inr ⟨_, _, _, gu_PARTS_3, rfl, rfl, (by show 3 ≤ sizeLine; decide), (.cons ⟨_, rfl⟩ (.cons ⟨_, rfl⟩ (.cons ⟨_, rfl⟩ Paired.nil)))⟩,
      qu_PARTS_4 := fun H => .inr ⟨_, _, _, gu_PARTS_4, rfl, rfl, (by show 2 ≤ sizeLine; decide), (.cons ⟨_, rfl⟩ (.cons ⟨_, rfl⟩ Paired.nil))⟩,
      qu_PARTS_5 := fun H => .inr ⟨_, _, _, gu_PARTS_5, rfl, rfl, (by show 3 ≤ sizeLine; decide), (.cons ⟨_, rfl⟩ (.cons ⟨_, rfl⟩ (.cons ⟨_, rfl⟩ Paired.nil)))⟩,
      qu_PARTS_6 := fun H => .inr ⟨_, _, _, gu_PARTS_6, rfl, rfl, (by show 3 ≤ sizeLine; decide), (.cons ⟨_, rfl⟩ (.cons ⟨_, rfl⟩ (.cons ⟨_, rfl⟩ Paired.nil)))⟩,
      qu_PARTS_7 := fun H => .inr ⟨_, _, _, gu_PARTS_7, rfl, rfl, (by show 2 ≤ sizeLine; decide), (.cons ⟨_, rfl⟩ (.cons ⟨_, rfl⟩ Paired.nil))⟩,
      qu_PARTS_8 := fun H => .inr ⟨_, _, _, gu_PARTS_8, rfl, rfl, (by show 3 ≤ sizeLine; decide), (.cons ⟨_, rfl⟩ (.cons ⟨_, rfl⟩ (.cons ⟨_, rfl⟩ Paired.nil)))⟩,
      qu_PARTS_9 := fun H => .inr ⟨_, _, _, gu_PARTS_9, rfl, rfl, (by show 2 ≤ sizeLine; decide), (.cons ⟨_, rfl⟩ (.cons ⟨_, rfl⟩ Paired.nil))⟩,
      qu_PARTS_10 := fun H => .inr ⟨_, _, _, gu_PARTS_10, rfl, rfl, (by show 1 ≤ sizeLine; decide), (.cons ⟨_, rfl⟩ Paired.nil)⟩,
      qu_PARTS_11 := fun H => .inr ⟨_, _, _, gu_PARTS_11, rfl, rfl, (by show 1 ≤ sizeLine; decide), (.cons ⟨_, rfl⟩ Paired.nil)⟩,
      qu_PARTS_12 := fun H => .inr ⟨_, _, _, gu_PARTS_12, rfl, rfl, (by show 2 ≤ sizeLine; decide), (.cons ⟨_, rfl⟩ (.cons ⟨_, rfl⟩ Paired.nil))⟩,
      qu_PARTS_13 := fun H => .inr ⟨_, _, _, gu_PARTS_13, rfl, rfl, (by show 1 ≤ sizeLine; decide), (.cons ⟨_, rfl⟩ Paired.nil)⟩,
      n_abs := PySem.W.mg_none_of X G n_abs,
      n_all := PySem.W.mg_none_of X G n_all,
      n_any := PySem.W.mg_none_of X G n_any,
      n_bool := PySem.W.mg_none_of X G n_bool,
      n_enumerate := PySem.W.mg_none_of X G n_enumerate,
      n_int := PySem.W.mg_none_of X G n_int,
      n_isinstance := PySem.W.mg_none_of X G n_isinstance,
      n_len := PySem.W.mg_none_of X G n_len,
      n_list := PySem.W.mg_none_of X G n_list,
      n_range := PySem.W.mg_none_of X G n_range,
      n_str := PySem.W.mg_none_of X G n_str,
      n_tuple := PySem.W.mg_none_of X G n_tuple,
      n_zip := PySem.W.mg_none_of X G n_zip }
  exact ⟨_, fun s v => .of_eq rfl, fun base _ _ => ok_law T⟩
theorem walk {l : PySem.W.OpenLaw} {q : Program} {loose : List Str} {XP : (Str → Option Value) → Heap → Prop} {YP : World → Heap → Prop} {d : DefRec} {K : Params → PySem.W.Frag} (hn : l.most = some 63) (hdf : d.params.defaults = [])
    (hY : ∀ (w : World) (h : Heap), YP w h → (K w.params).In h)
    (F : ∀ (w : World) (mg : Str → Option Value) (fa : Addr) (h : Heap), (K w.params).In h → h.Ns mainGlobals mg → mg d.name = some (.ref fa) →
      ∃ fd : FuncData, (∀ (s : Shared) (u : Value), BindsTo s fd ⟨[u], []⟩ [("_law_script", u)]) ∧ ∀ base : Heap, (K w.params).In base → base.Ns mainGlobals mg → FnOk l.prog w (K w.params) mg base CX0 10 fa fd ["_law_script"] (sp_law (K w.params))) :
    PySem.W.WalkO q loose XP YP l.row.toRowW d [] (fun f vs => PySem.call f vs) :=
  L2.walk_of (n := 63) (k := 10) (x := "_law_script") (CX := fun _ => CX0) (sp := fun w => sp_law (K w.params)) hn (by decide) hdf ⟨rfl, by decide, by decide⟩ hY F (fun _ _ a ns hl _ hS => ⟨a, ns, rfl, hS, hl, fun _ => rfl⟩) fun _ _ _ _ _ z => z
end K09
namespace PySem.W.Fast
def tw10034275520671890486:=()
def tw10163523122677086897:=()
def tw10181336236857367101:=()
def tw10363098793162759854:=()
def tw10378801867683515223:=()
def tw10730482019328000910:=()
def tw10762280821673554486:=()
def tw10898696610069729681:=()
def tw10971368364901363884:=()
def tw10998191866930274516:=()
def tw11065846709818799891:=()
def tw11080372948884263969:=()
def tw11347799092604179362:=()
def tw1136541923965219276:=()
def tw11507121640152207401:=()
def tw1172040877345778904:=()
def tw11811465285851420590:=()
def tw11824047192133839153:=()
def tw11869050914973759076:=()
def tw12234505000923479459:=()
def tw12293943780362636002:=()
def tw12573873808180648685:=()
def tw12698124534533404742:=()
def tw1277292723565767992:=()
def tw12818620715318553275:=()
def tw12830285709671882542:=()
def tw13027057467672216391:=()
def tw13075179285795942916:=()
def tw13229118410519076876:=()
def tw13452358737240809145:=()
def tw13485921584543883445:=()
def tw13542864584853888605:=()
def tw13554490509436081724:=()
def tw1406755988004679509:=()
def tw14108577763746862655:=()
def tw14178724192059799219:=()
def tw14266065706882375061:=()
def tw14356532510022996831:=()
def tw14383479912293441544:=()
def tw14451187914243054415:=()
def tw14506777789180587753:=()
def tw14702229372253497524:=()
def tw14793081734835269471:=()
def tw14807885098639941432:=()
def tw148853413557468994:=()
def tw14953195057103953154:=()
def tw14973718777653775791:=()
def tw15096082122228065932:=()
def tw15244421281504206434:=()
def tw15285395549240544522:=()
def tw15320016975052303274:=()
def tw15509772606216278723:=()
def tw15842640022616870200:=()
def tw15871777432459097842:=()
def tw15875771557102479436:=()
def tw15938699810179513099:=()
def tw16045307116950002623:=()
def tw16189340008317009766:=()
def tw16294860298539749040:=()
def tw16562944813287831351:=()
def tw16726950102862569079:=()
def tw16834233177851820224:=()
def tw16848972578213957485:=()
def tw16894749153980155969:=()
def tw16897347519212700982:=()
def tw16999658371482348760:=()
def tw17044810710628237395:=()
def tw17326147590878230290:=()
def tw17493903572546871396:=()
def tw17682018247829547493:=()
def tw17837378296729920396:=()
def tw17960509578047362756:=()
def tw18217277192582794601:=()
def tw18280774758544532583:=()
def tw1867523311456233762:=()
def tw2064061859037163466:=()
def tw2167249056057080227:=()
def tw2252499972262143335:=()
def tw2635926164006171898:=()
def tw2658150911286449102:=()
def tw280837507539114874:=()
def tw2828208095678321554:=()
def tw2871343754461683105:=()
def tw2951986089966248133:=()
def tw3009578262057108240:=()
def tw3116423521979670949:=()
def tw3250641488154069793:=()
def tw3367140953337263810:=()
def tw3440519677809305104:=()
def tw3445112568371618634:=()
def tw3445287031761016067:=()
def tw3508848797447642148:=()
def tw3551375507434336754:=()
def tw3695775039336265199:=()
def tw3861845942758734394:=()
def tw3905645355879615208:=()
def tw3958004148693922634:=()
def tw4135927990863780299:=()
def tw4219168971316247988:=()
def tw4404957540882545085:=()
def tw4428598330283137358:=()
def tw4945936410456359669:=()
def tw5405326463426343447:=()
def tw54628899888482982:=()
def tw5524823335981204934:=()
def tw5766276185336800275:=()
def tw5799783571679980105:=()
def tw5807741013133599230:=()
def tw5839866113036387241:=()
def tw5885683828506281923:=()
def tw6208496549523338006:=()
def tw6232191269301887170:=()
def tw6241178257707839095:=()
def tw6307591591713240717:=()
def tw6345084123179774408:=()
def tw6468372888289333703:=()
def tw6469321889122337703:=()
def tw6553996660681515613:=()
def tw6595925518604615478:=()
def tw6822235369746793271:=()
def tw6857818626327372534:=()
def tw688453260823096314:=()
def tw7046653300486512985:=()
def tw7306862950183237679:=()
def tw7341033519393556441:=()
def tw7416608356127011241:=()
def tw7569355988679935227:=()
def tw7623852477292611103:=()
def tw7670532430344281739:=()
def tw7924359392775196026:=()
def tw8132796963141240338:=()
def tw8275107784662991436:=()
def tw8275637498252618534:=()
def tw8357164797022701457:=()
def tw8489947940986443503:=()
def tw8573580530467414944:=()
def tw8911944065889886761:=()
def tw8968653568965293850:=()
def tw9020449031324582873:=()
def tw9342032995270120057:=()
def tw945842399576686631:=()
def tw9501077575984262361:=()
def tw9561107777275639401:=()
def tw9621039542923997379:=()
def tw9677657438135557406:=()
def tw97517574264114070:=()
def tw980443075412202578:=()
def tw9898772305308520903:=()
end PySem.W.Fast
namespace K09
end K09
open PySem PySem.W PyProof.Rows
set_option maxRecDepth 100000 in
set_option maxHeartbeats 0 in
theorem PySem.Challenge.cw_heapsafe_k09_whole_programs_as_rows_holds : PySem.Challenge.rw_heapsafe_k09_whole_programs_as_rows.Holds := by
  w_on; o_law; k_head; (case hw => w_witness2)
  k_fill
  refine K09.walk (l := PySem.Challenge.rw_heapsafe_k09_whole_programs_as_rows) rfl rfl (fun w h Y => PySem.W.kIn_of Y) ?F
  case F =>
    intro w mg fa h KX G hmg
    refine' K09.all_mk KX G hmg ?x_cc_HeapError ?x_cc_NoDeed ?x_a_NoDeed_init ?x_i_NoDeed_init ?x_l_NoDeed_init ?x_co_NoDeed_init ?x_k_NoDeed_init ?x_a_is_root ?x_l_is_root ?x_co_is_root ?x_k_is_root ?x_a_is_number ?x_l_is_number ?x_co_is_number ?x_k_is_number ?x_a_part_read ?x_l_part_read ?x_co_part_read ?x_k_part_read ?x_a_deed_read ?x_l_deed_read ?x_co_deed_read ?x_k_deed_read ?x_a_deed_shown ?x_l_deed_shown ?x_co_deed_shown ?x_k_deed_shown ?x_a_program_read ?x_l_program_read ?x_co_program_read ?x_k_program_read ?x_a_program_shown ?x_l_program_shown ?x_co_program_shown ?x_k_program_shown ?x_a_law_whole ?x_l_law_whole ?x_co_law_whole ?x_k_law_whole ?x_a_law_cell_at ?x_l_law_cell_at ?x_co_law_cell_at ?x_k_law_cell_at ?x_a_law_drawn ?x_l_law_drawn ?x_co_law_drawn ?x_k_law_drawn ?x_a_law_deed_by ?x_l_law_deed_by ?x_co_law_deed_by ?x_k_law_deed_by ?x_a_law_row ?x_l_law_row ?x_co_law_row ?x_k_law_row ?x_a_law_odd_row ?x_l_law_odd_row ?x_co_law_odd_row ?x_k_law_odd_row ?x_a_law_told_of ?x_l_law_told_of ?x_co_law_told_of ?x_k_law_told_of ?x_a_law_refused ?x_l_law_refused ?x_co_law_refused ?x_k_law_refused ?x_a_law ?x_l_law ?x_co_law ?x_k_law ?x_g_MOST_FIELDS ?x_g_MOST_FIGURES ?x_g_FIGURES ?x_g_PARTS ?x_gn_PARTS ?x_gk_PARTS ?x_gu_PARTS_0 ?x_gu_PARTS_1 ?x_gu_PARTS_2 ?x_gu_PARTS_3 ?x_gu_PARTS_4 ?x_gu_PARTS_5 ?x_gu_PARTS_6 ?x_gu_PARTS_7 ?x_gu_PARTS_8 ?x_gu_PARTS_9 ?x_gu_PARTS_10 ?x_gu_PARTS_11 ?x_gu_PARTS_12 ?x_gu_PARTS_13 ?x_tyg ?x_tyt ?x_xl_HeapError ?x_xb_HeapError ?x_xi1_HeapError ?x_xi2_HeapError ?x_xi3_HeapError ?x_xl_NoDeed ?x_xsa_NoDeed ?x_xga_NoDeed ?x_xgn_NoDeed ?x_xcl_NoDeed ?x_xfr_NoDeed ?x_xmo_NoDeed ?x_xkp_NoDeed ?x_xtk_NoDeed ?x_ki_NoDeed_NoDeed ?x_n_abs ?x_n_all ?x_n_any ?x_n_bool ?x_n_enumerate ?x_n_int ?x_n_isinstance ?x_n_len ?x_n_list ?x_n_range ?x_n_str ?x_n_tuple ?x_n_zip
    (case x_cc_HeapError => k_is)
    (case x_cc_NoDeed => k_is)
    (case x_a_NoDeed_init => k_is)
    (case x_i_NoDeed_init => k_is)
    (case x_l_NoDeed_init => k_is)
    (case x_co_NoDeed_init => k_is)
    (case x_k_NoDeed_init => k_is)
    (case x_a_is_root => k_is)
    (case x_l_is_root => k_is)
    (case x_co_is_root => k_is)
    (case x_k_is_root => k_is)
    (case x_a_is_number => k_is)
    (case x_l_is_number => k_is)
    (case x_co_is_number => k_is)
    (case x_k_is_number => k_is)
    (case x_a_part_read => k_is)
    (case x_l_part_read => k_is)
    (case x_co_part_read => k_is)
    (case x_k_part_read => k_is)
    (case x_a_deed_read => k_is)
    (case x_l_deed_read => k_is)
    (case x_co_deed_read => k_is)
    (case x_k_deed_read => k_is)
    (case x_a_deed_shown => k_is)
    (case x_l_deed_shown => k_is)
    (case x_co_deed_shown => k_is)
    (case x_k_deed_shown => k_is)
    (case x_a_program_read => k_is)
    (case x_l_program_read => k_is)
    (case x_co_program_read => k_is)
    (case x_k_program_read => k_is)
    (case x_a_program_shown => k_is)
    (case x_l_program_shown => k_is)
    (case x_co_program_shown => k_is)
    (case x_k_program_shown => k_is)
    (case x_a_law_whole => k_is)
    (case x_l_law_whole => k_is)
    (case x_co_law_whole => k_is)
    (case x_k_law_whole => k_is)
    (case x_a_law_cell_at => k_is)
    (case x_l_law_cell_at => k_is)
    (case x_co_law_cell_at => k_is)
    (case x_k_law_cell_at => k_is)
    (case x_a_law_drawn => k_is)
    (case x_l_law_drawn => k_is)
    (case x_co_law_drawn => k_is)
    (case x_k_law_drawn => k_is)
    (case x_a_law_deed_by => k_is)
    (case x_l_law_deed_by => k_is)
    (case x_co_law_deed_by => k_is)
    (case x_k_law_deed_by => k_is)
    (case x_a_law_row => k_is)
    (case x_l_law_row => k_is)
    (case x_co_law_row => k_is)
    (case x_k_law_row => k_is)
    (case x_a_law_odd_row => k_is)
    (case x_l_law_odd_row => k_is)
    (case x_co_law_odd_row => k_is)
    (case x_k_law_odd_row => k_is)
    (case x_a_law_told_of => k_is)
    (case x_l_law_told_of => k_is)
    (case x_co_law_told_of => k_is)
    (case x_k_law_told_of => k_is)
    (case x_a_law_refused => k_is)
    (case x_l_law_refused => k_is)
    (case x_co_law_refused => k_is)
    (case x_k_law_refused => k_is)
    (case x_a_law => k_is)
    (case x_l_law => k_is)
    (case x_co_law => k_is)
    (case x_k_law => k_is)
    (case x_g_MOST_FIELDS => k_is)
    (case x_g_MOST_FIGURES => k_is)
    (case x_g_FIGURES => k_is)
    (case x_g_PARTS => k_is)
    (case x_gn_PARTS => decide)
    (case x_gk_PARTS => k_is)
    (case x_gu_PARTS_0 => k_is)
    (case x_gu_PARTS_1 => k_is)
    (case x_gu_PARTS_2 => k_is)
    (case x_gu_PARTS_3 => k_is)
    (case x_gu_PARTS_4 => k_is)
    (case x_gu_PARTS_5 => k_is)
    (case x_gu_PARTS_6 => k_is)
    (case x_gu_PARTS_7 => k_is)
    (case x_gu_PARTS_8 => k_is)
    (case x_gu_PARTS_9 => k_is)
    (case x_gu_PARTS_10 => k_is)
    (case x_gu_PARTS_11 => k_is)
    (case x_gu_PARTS_12 => k_is)
    (case x_gu_PARTS_13 => k_is)
    (case x_tyg => k_is)
    (case x_tyt => k_is)
    (case x_xl_HeapError => k_is)
    (case x_xb_HeapError => k_exc)
    (case x_xi1_HeapError => k_is)
    (case x_xi2_HeapError => k_is)
    (case x_xi3_HeapError => k_is)
    (case x_xl_NoDeed => k_is)
    (case x_xsa_NoDeed => k_is)
    (case x_xga_NoDeed => k_is)
    (case x_xgn_NoDeed => k_is)
    (case x_xcl_NoDeed => k_is)
    (case x_xfr_NoDeed => k_is)
    (case x_xmo_NoDeed => k_is)
    (case x_xkp_NoDeed => k_is)
    (case x_xtk_NoDeed => k_is)
    (case x_ki_NoDeed_NoDeed => kit_is)
    (case x_n_abs => k_is)
    (case x_n_all => k_is)
    (case x_n_any => k_is)
    (case x_n_bool => k_is)
    (case x_n_enumerate => k_is)
    (case x_n_int => k_is)
    (case x_n_isinstance => k_is)
    (case x_n_len => k_is)
    (case x_n_list => k_is)
    (case x_n_range => k_is)
    (case x_n_str => k_is)
    (case x_n_tuple => k_is)
    (case x_n_zip => k_is)
