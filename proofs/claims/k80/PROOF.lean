import PyProof.Rows.All
import Wide.All
import OpenK.AllK
import Wide.FinOn
import Lean
import PyProof.EqAt
import PyProof.EqKinds
import PyProof.TupleCall
import PySem.Challenge.RW_heapsafe_k80_logs_both_ways
set_option Elab.async false
set_option linter.all false
set_option maxRecDepth 100000
namespace L2
open PySem PySem.Spec PyProof.Rows
abbrev Key := Sum Int Str
def keyIs : Key → Value → Bool
  | .inl k, v => Value.isInt k v
  | .inr x, v => Value.isStrOf x v
def keyH (w : World) : Key → Int
  | .inl k => hashInt k
  | .inr x => hashStr w x
theorem keyIs_shape : ∀ {k : Key} {v : Value}, keyIs k v = true → (∃ i t, k = Sum.inl i ∧ v = Value.int i t) ∨ (∃ x t, k = Sum.inr x ∧ v = Value.str x t)
  | .inl i, v, h => by
    obtain ⟨t, e⟩ := Value.isInt_shape (k := i) (v := v) h
    exact .inl ⟨i, t, rfl, e⟩
  | .inr x, v, h => by
    obtain ⟨t, e⟩ := Value.isStrOf_shape (x := x) (v := v) h
    exact .inr ⟨x, t, rfl, e⟩
theorem key_ll (a b : Int) : decide ((Sum.inl a : Key) = Sum.inl b) = (a == b) := by
  by_cases e : a = b
  · subst e; simp
  · have h : ¬ (Sum.inl a : Key) = Sum.inl b := fun q => e (Sum.inl.inj q)
    rw [decide_eq_false h]
    exact (beq_eq_false_iff_ne.mpr e).symm
theorem key_rr (a b : Str) : decide ((Sum.inr a : Key) = Sum.inr b) = decide (a = b) := by
  by_cases e : a = b
  · subst e; simp
  · have h : ¬ (Sum.inr a : Key) = Sum.inr b := fun q => e (Sum.inr.inj q)
    rw [decide_eq_false h, decide_eq_false e]
theorem key_lr (a : Int) (b : Str) : decide ((Sum.inl a : Key) = Sum.inr b) = false := decide_eq_false (fun q => nomatch q)
theorem key_rl (a : Str) (b : Int) : decide ((Sum.inr a : Key) = Sum.inl b) = false := decide_eq_false (fun q => nomatch q)
def mixKind (prog : Program) (w : World) : PySem.KeyKind prog w Key where
  is := keyIs
  hash := keyH w
  inj := fun v a b ha hb => by
    rcases keyIs_shape ha with ⟨i, t, rfl, rfl⟩ | ⟨x, t, rfl, rfl⟩
    · rcases keyIs_shape hb with ⟨j, u, rfl, e⟩ | ⟨y, u, rfl, e⟩
      · injection e with e1 _; rw [e1]
      · exact nomatch e
    · rcases keyIs_shape hb with ⟨j, u, rfl, e⟩ | ⟨y, u, rfl, e⟩
      · exact nomatch e
      · injection e with e1 _; rw [e1]
  byValue := fun k v h => by
    rcases keyIs_shape h with ⟨i, t, rfl, rfl⟩ | ⟨x, t, rfl, rfl⟩ <;> rfl
  pyHash := fun hv h => by
    rcases keyIs_shape hv with ⟨i, t, rfl, rfl⟩ | ⟨x, t, rfl, rfl⟩
    · exact wpAny_pyHash_int h
    · exact wpAny_pyHash_str h
  eqBool := fun hu hv h => by
    rcases keyIs_shape hu with ⟨i, t, rfl, rfl⟩ | ⟨x, t, rfl, rfl⟩
    · rcases keyIs_shape hv with ⟨j, u, rfl, rfl⟩ | ⟨y, u, rfl, rfl⟩
      · rw [key_ll] at h; exact wpAny_eqBool_int h
      · rw [key_lr] at h; exact SeqAt.EqAt.int_str i t y u _ _ _ _ h
    · rcases keyIs_shape hv with ⟨j, u, rfl, rfl⟩ | ⟨y, u, rfl, rfl⟩
      · rw [key_rl] at h; exact SeqAt.EqAt.str_int x t j u _ _ _ _ h
      · rw [key_rr] at h; exact wpAny_eqBool_str h
  «strs» := fun k x t v h => by
    rcases keyIs_shape h with ⟨i, u, rfl, e⟩ | ⟨y, u, rfl, e⟩
    · exact nomatch e
    · injection e with e1 _
      subst e1
      cases v <;> rfl
end L2
namespace L2
open PySem PySem.Spec PyProof.Rows
inductive V where
  | non | bl (b : Bool) | int (i : Int) | str (x : Str) | byt (b : Array UInt8) | flt (b : UInt64) | ref (a : Addr) | ty (n : String)
  deriving DecidableEq
def RelV : V → Value → Prop
  | .non, u => u = Value.none
  | .bl b, u => u = Value.bool b
  | .int i, u => ∃ t, u = Value.int i t
  | .str x, u => ∃ t, u = Value.str x t
  | .byt b, u => ∃ t, u = Value.bytes b t
  | .flt b, u => ∃ t, u = Value.float b t
  | .ref a, u => u = Value.ref a
  | .ty n, u => u = Value.type n
abbrev Vals : List V → List Value → Prop := Paired RelV
theorem Vals.length {xs : List V} {us : List Value} (r : Vals xs us) : xs.length = us.length := Paired.length r
theorem Vals.get : ∀ {xs : List V} {us : List Value} {i : Nat} {x : V}, Vals xs us → xs[i]? = some x → ∃ u, us[i]? = some u ∧ RelV x u
  | _, _, _, _, .nil, e => by simp at e
  | _, _, 0, _, .cons r _, e => by simp at e; subst e; exact ⟨_, rfl, r⟩
  | _, _, i + 1, x, .cons _ t, e => by
    obtain ⟨u, h1, h2⟩ := Vals.get (i := i) (x := x) t (by simpa using e)
    exact ⟨u, by simpa using h1, h2⟩
theorem Vals.set {x : V} {u : Value} (r : RelV x u) : ∀ {xs : List V} {us : List Value} (i : Nat), Vals xs us → Vals (xs.set i x) (us.set i u)
  | _, _, _, .nil => .nil
  | _, _, 0, .cons _ t => .cons r t
  | _, _, i + 1, .cons q t => .cons q (Vals.set r i t)
theorem Vals.append : ∀ {xs ys : List V} {us ws : List Value}, Vals xs us → Vals ys ws → Vals (xs ++ ys) (us ++ ws)
  | _, _, _, _, .nil, s => s
  | _, _, _, _, .cons r t, s => .cons r (Vals.append t s)
theorem Vals.take : ∀ {xs : List V} {us : List Value} (n : Nat), Vals xs us → Vals (xs.take n) (us.take n)
  | _, _, 0, _ => .nil
  | _, _, _ + 1, .nil => .nil
  | _, _, n + 1, .cons r t => .cons r (Vals.take n t)
theorem Vals.drop : ∀ {xs : List V} {us : List Value} (n : Nat), Vals xs us → Vals (xs.drop n) (us.drop n)
  | _, _, 0, r => r
  | _, _, _ + 1, .nil => .nil
  | _, _, n + 1, .cons _ t => Vals.drop n t
def RelO : Option V → Option Value → Prop
  | some v, some u => RelV v u
  | none, none => True
  | _, _ => False
def KV {κ : Type} : List (κ × V) → List (κ × Value) → Prop := Paired fun (p : κ × V) (q : κ × Value) => p.1 = q.1 ∧ RelV p.2 q.2
def kV : Key → V
  | .inl i => .int i
  | .inr x => .str x
inductive HO where
  
  | lst (xs : List V)
  
  | tup (xs : List V)
  
  | dK (kvs : List (Key × V)) | dT (kvs : List (List Key × V))
  
  | set (S : Int → Bool) (n : Nat)
  
  | ins (C dx : Addr) (fs : List (Str × V))
  
  | own (x : Addr)
  
  | xd (fs : List (Str × V))
  
  | met (f x : Addr)
  
  | rng (lo hi : Int)
  
  | frz (o : Obj) (u : HO)
  
  | tbl (ps : Array Value)
  
  | ext (φ : Heap → Prop)
abbrev Hp := Addr → Option HO
def upd (H : Hp) (a : Addr) (o : HO) : Hp := fun b => if b = a then some o else H b
theorem upd_same {H : Hp} {a : Addr} {o : HO} : upd H a o a = some o := by unfold upd; rw [if_pos rfl]
theorem upd_ne {H : Hp} {a b : Addr} {o : HO} (h : b ≠ a) : upd H a o b = H b := by unfold upd; rw [if_neg h]
theorem upd_upd {H : Hp} {a : Addr} {o u : HO} : upd (upd H a o) a u = upd H a u := by
  funext b; unfold upd; split <;> rfl
theorem ne_of {H : Hp} {a b : Addr} {o u : HO} (h : H a = some o) (h' : H b = some u) (d : o ≠ u) : a ≠ b := by
  intro e; subst e; rw [h] at h'; exact d (Option.some.inj h')
theorem ne_of_none {H : Hp} {a b : Addr} {o : HO} (h : H a = some o) (h' : H b = none) : a ≠ b := by
  intro e; subst e; rw [h] at h'; cases h'
section
variable (P : Program) (w : World)
def ObjOk (H : Hp) (h : Heap) (a : Addr) : HO → Prop
  | .lst xs => xs.length ≤ sizeLine ∧ ∃ (its : List Value) (n : Nat), Vals xs its ∧ h.get? a = some { cls := .type "list", data := .seq its.toArray n }
  | .tup xs => xs.length ≤ sizeLine ∧ ∃ its : List Value, Vals xs its ∧ IsTup h a its.toArray
  | .dK kvs => kvs.length ≤ sizeLine ∧ (a == sysModules) = false ∧ ∃ vs, KV kvs vs ∧ h.DictOf (mixKind P w) a vs
  | .dT kvs => kvs.length ≤ sizeLine ∧ (a == sysModules) = false ∧ ∃ xs : List (List Key × Addr × Value),
      Paired (fun (p : List Key × V) (q : List Key × Addr × Value) => p.1 = q.1 ∧ H q.2.1 = some (.tup (p.1.map kV)) ∧ RelV p.2 q.2.2) kvs xs ∧
      ∃ o es ep, h.get? a = some o ∧ o.ExactDict ∧ o.data = .dict es ep ∧ es.toList = xs.map (entryOfKey (tupleKind (mixKind P w))) ∧ (xs.map (·.1)).Nodup
  | .set S n => h.SetOf (intKind P w) a S n
  | .ins C dx fs => H dx = some (.own a) ∧ fs.length ≤ 1000 ∧ dx ≠ a ∧ h.get? a = some (PySem.W.instObj C dx) ∧
      ∃ mA, h.Ns1 dx mA ∧ (∀ f, RelO (fs.lookup f) (mA f)) ∧ PySem.Within mA (fs.map (·.1))
  | .own _ => ∃ o, h.get? a = some o
  | .xd fs => ∃ mA, h.Ns1 a mA ∧ ∀ f, RelO (fs.lookup f) (mA f)
  | .rng lo hi => ∃ t u v, h.get? a = some { cls := .type "range", data := .fields #[.int lo t, .int hi u, .int 1 v] }
  | .frz o u => h.get? a = some o ∧ ObjOk H h a u
  | .tbl ps => h.get? a = some { cls := .none, data := .fields ps }
  | .met f x => h.get? a = some (PySem.W.methodObj (.ref f) (.ref x))
  | .ext φ => φ h ∧ (∃ o, h.get? a = some o) ∧ ∀ h1 h2 : Heap, φ h1 → (∀ o, h1.get? a = some o → h2.get? a = some o) → φ h2
def HOk (H : Hp) (h : Heap) : Prop := ∀ a o, H a = some o → ObjOk P w H h a o
end
section
variable {P : Program} {w : World} {H H' : Hp} {h h' : Heap} {a : Addr} {o : HO}
theorem ObjOk.lt (x : ObjOk P w H h a o) : a < h.objs.size := by
  cases o with
  | lst xs => obtain ⟨_, _, _, _, e⟩ := x; exact Heap.lt_size e
  | tup xs => obtain ⟨_, _, _, p⟩ := x; exact p.lt
  | dK kvs => obtain ⟨_, _, _, _, o, _, _, e, _⟩ := x; exact Heap.lt_size e
  | dT kvs => obtain ⟨_, _, _, _, o, _, _, e, _⟩ := x; exact Heap.lt_size e
  | set S n => obtain ⟨o, _, _, _, e, _⟩ := x; exact Heap.lt_size e
  | ins C dx fs => obtain ⟨_, _, _, e, _⟩ := x; exact Heap.lt_size e
  | own y => obtain ⟨_, e⟩ := x; exact Heap.lt_size e
  | xd fs => obtain ⟨_, ⟨_, _, _, e, _⟩, _⟩ := x; exact Heap.lt_size e
  | rng lo hi => obtain ⟨_, _, _, e⟩ := x; exact Heap.lt_size e
  | frz ob u => obtain ⟨e, _⟩ := x; exact Heap.lt_size e
  | tbl ps => exact Heap.lt_size (show h.get? a = some _ from x)
  | met f y => exact Heap.lt_size (show h.get? a = some _ from x)
  | ext φ => obtain ⟨_, ⟨_, e⟩, _⟩ := x; exact Heap.lt_size e
theorem Paired.mapP {α β : Type} {F G : α → β → Prop} : ∀ {l₁ : List α} {l₂ : List β}, Paired F l₁ l₂ → (∀ a b, F a b → G a b) → Paired G l₁ l₂
  | _, _, .nil, _ => .nil
  | _, _, .cons r t, f => .cons (f _ _ r) (Paired.mapP t f)
theorem ObjOk.stay (x : ObjOk P w H h a o) (k : ∀ b u, (b = a ∨ H b = some (.own a)) → h.get? b = some u → h'.get? b = some u)
    (ho : ∀ b, H b = some (.own a) → H' b = some (.own a)) (ht : ∀ b xs, H b = some (.tup xs) → H' b = some (.tup xs)) : ObjOk P w H' h' a o := by
  induction o with
  | lst xs => obtain ⟨z, its, n, r, e⟩ := x; exact ⟨z, its, n, r, k _ _ (.inl rfl) e⟩
  | tup xs => obtain ⟨z, its, r, ob, e, c⟩ := x; exact ⟨z, its, r, ob, k _ _ (.inl rfl) e, c⟩
  | dK kvs => obtain ⟨z, y, vs, r, ob, es, ep, e, c⟩ := x; exact ⟨z, y, vs, r, ob, es, ep, k _ _ (.inl rfl) e, c⟩
  | dT kvs =>
    obtain ⟨z, y, xs, r, ob, es, ep, e, c⟩ := x
    exact ⟨z, y, xs, Paired.mapP r fun p q z => ⟨z.1, ht _ _ z.2.1, z.2.2⟩, ob, es, ep, k _ _ (.inl rfl) e, c⟩
  | set S n => obtain ⟨ob, es, ep, t, e, c⟩ := x; exact ⟨ob, es, ep, t, k _ _ (.inl rfl) e, c⟩
  | ins C dx fs =>
    obtain ⟨d, z, ne, e, mA, ⟨od, es, ep, e2, c⟩, r⟩ := x
    exact ⟨ho _ d, z, ne, k _ _ (.inl rfl) e, mA, ⟨od, es, ep, k _ _ (.inr d) e2, c⟩, r⟩
  | own y => obtain ⟨ob, e⟩ := x; exact ⟨ob, k _ _ (.inl rfl) e⟩
  | xd fs => obtain ⟨mA, ⟨od, es, ep, e, c⟩, r⟩ := x; exact ⟨mA, ⟨od, es, ep, k _ _ (.inl rfl) e, c⟩, r⟩
  | rng lo hi => obtain ⟨t, u, v, e⟩ := x; exact ⟨t, u, v, k _ _ (.inl rfl) e⟩
  | frz ob u ih => obtain ⟨e, q⟩ := x; exact ⟨k _ _ (.inl rfl) e, ih q⟩
  | tbl ps =>
    have e : h.get? a = some { cls := .none, data := .fields ps } := x
    show h'.get? a = some { cls := .none, data := .fields ps }
    exact k a _ (.inl rfl) e
  | met f y =>
    have e : h.get? a = some (PySem.W.methodObj (.ref f) (.ref y)) := x
    show h'.get? a = some (PySem.W.methodObj (.ref f) (.ref y))
    exact k a _ (.inl rfl) e
  | ext φ => obtain ⟨p, ⟨o, e⟩, st⟩ := x; exact ⟨st _ _ p fun o q => k _ _ (.inl rfl) q, ⟨o, k _ _ (.inl rfl) e⟩, st⟩
theorem HOk.lt (x : HOk P w H h) (e : H a = some o) : a < h.objs.size := (x a o e).lt
theorem HOk.fresh (x : HOk P w H h) (e : h.objs.size ≤ a) : H a = none := by
  cases q : H a with
  | none => rfl
  | some u => exact absurd (Nat.lt_of_lt_of_le (x.lt q) e) (Nat.lt_irrefl _)
theorem HOk.kept (x : HOk P w H h) (k : ∀ b u, h.get? b = some u → h'.get? b = some u) : HOk P w H h' := fun a o e =>
  (x a o e).stay (fun b u _ q => k b u q) (fun _ q => q) fun _ _ q => q
theorem HOk.laid (x : HOk P w H h) (k : ∀ b u, h.get? b = some u → h'.get? b = some u) (hp : h.objs.size ≤ a) (new : ObjOk P w (upd H a o) h' a o) : HOk P w (upd H a o) h' := fun b u e => by
  have hn := x.fresh hp
  by_cases hb : b = a
  · subst hb; rw [upd_same] at e; cases e; exact new
  · rw [upd_ne hb] at e
    exact (x b u e).stay (fun c v _ q => k c v q) (fun c q => by rw [upd_ne (ne_of_none q hn)]; exact q) fun c xs q => by rw [upd_ne (ne_of_none q hn)]; exact q
end
def Rd (H : Hp) (a : Addr) (u : HO) : Prop := H a = some u ∨ ∃ o, H a = some (.frz o u)
theorem Rd.of {H : Hp} {a : Addr} {u : HO} (h : H a = some u) : Rd H a u := .inl h
theorem Rd.ok {P : Program} {w : World} {H : Hp} {h : Heap} {a : Addr} {u : HO} (r : Rd H a u) (x : HOk P w H h) : ObjOk P w H h a u := by
  rcases r with r | ⟨o, r⟩
  · exact x a u r
  · obtain ⟨_, q⟩ := x a _ r
    exact q
def Mut : Option HO → Prop
  | some (.lst _) => True
  | some (.dK _) => True
  | some (.dT _) => True
  | some (.set _ _) => True
  | some (.ins _ _ _) => True
  | some (.ext _) => True
  | _ => False
section
variable {P : Program} {w : World} {H : Hp} {h h' : Heap} {x e : Addr} {o' : HO}
theorem HOk.write (ok : HOk P w H h) (mu : Mut (H x)) (he : e = x ∨ H e = some (.own x)) (k : ∀ b u, b ≠ e → h.get? b = some u → h'.get? b = some u) (heo : ∃ u, h'.get? e = some u)
    (new : ObjOk P w (upd H x o') h' x o') : HOk P w (upd H x o') h' := fun b u q => by
  have nown : ∀ c y, H c = some (.own y) → c ≠ x := fun c y r z => by subst z; rw [r] at mu; exact mu
  have ntup : ∀ c xs, H c = some (.tup xs) → c ≠ x := fun c xs r z => by subst z; rw [r] at mu; exact mu
  by_cases hb : b = x
  · subst hb; rw [upd_same] at q; cases q; exact new
  · rw [upd_ne hb] at q
    by_cases hbe : b = e
    · have q' : H b = some (.own x) := by
        rcases he with z | z
        · exact absurd (hbe.trans z) hb
        · rw [hbe]; exact z
      rw [q] at q'; cases q'
      obtain ⟨v, hv⟩ := heo
      exact ⟨v, by rw [hbe]; exact hv⟩
    · refine (ok b u q).stay (fun c v hc r => k c v ?_ r) (fun c r => by rw [upd_ne (nown c b r)]; exact r) fun c xs r => by rw [upd_ne (ntup c xs r)]; exact r
      rcases hc with rfl | hc
      · exact hbe
      · rintro rfl
        rcases he with z | z
        · exact nown c b hc z
        · rw [hc] at z; cases z; exact hb rfl
end
structure Un (fs ex : List Addr) (H H' : Hp) (h h' : Heap) : Prop where
  keep : ∀ b o, h.get? b = some o → H b = none → b ∉ fs → b ∉ ex → h'.get? b = some o
  slot : ∀ b o, h.get? b = some o → H b = none → b ∈ fs → b ∉ ex → ∃ sl, h'.get? b = some { o with slots := sl }
  free : ∀ b o, h.get? b = some o → H b = none → b ∉ ex → H' b = none
  there : ∀ b o, h.get? b = some o → b ∉ ex → ∃ o', h'.get? b = some o'
  tups : ∀ b xs, H b = some (.tup xs) → H' b = some (.tup xs)
  frzs : ∀ b o u, H b = some (.frz o u) → H' b = some (.frz o u)
  tbls : ∀ b ps, H b = some (.tbl ps) → ∃ more, H' b = some (.tbl (ps ++ more))
section
variable {fs fs' ex ex' : List Addr} {H H1 H2 : Hp} {h h1 h2 h' : Heap} {a x e : Addr} {o : HO}
theorem Un.any (u : Un fs ex H H1 h h1) {b : Addr} {ob : Obj} (q : h.get? b = some ob) (n : H b = none) (hx : b ∉ ex) : ∃ sl, h1.get? b = some { ob with slots := sl } := by
  by_cases hb : b ∈ fs
  · exact u.slot b ob q n hb hx
  · exact ⟨ob.slots, u.keep b ob q n hb hx⟩
theorem Un.trans (a : Un fs ex H H1 h h1) (b : Un fs ex H1 H2 h1 h2) : Un fs ex H H2 h h2 where
  keep := fun c ob q n hc hx => b.keep c ob (a.keep c ob q n hc hx) (a.free c ob q n hx) hc hx
  slot := fun c ob q n hc hx => by
    obtain ⟨sl, e1⟩ := a.slot c ob q n hc hx
    obtain ⟨sl', e2⟩ := b.slot c _ e1 (a.free c ob q n hx) hc hx
    exact ⟨sl', e2⟩
  free := fun c ob q n hx => by
    obtain ⟨o', e1⟩ := a.there c ob q hx
    exact b.free c o' e1 (a.free c ob q n hx) hx
  there := fun c ob q hx => by
    obtain ⟨o', e1⟩ := a.there c ob q hx
    exact b.there c o' e1 hx
  tups := fun c xs q => b.tups c xs (a.tups c xs q)
  frzs := fun c ob xs q => b.frzs c ob xs (a.frzs c ob xs q)
  tbls := fun c ps q => by
    obtain ⟨m1, e1⟩ := a.tbls c ps q
    obtain ⟨m2, e2⟩ := b.tbls c _ e1
    exact ⟨m1 ++ m2, by rw [e2, Array.append_assoc]⟩
theorem Un.kept (k : ∀ b u, h.get? b = some u → h'.get? b = some u) : Un fs ex H H h h' :=
  ⟨fun b ob q _ _ _ => k b ob q, fun b ob q _ _ _ => ⟨ob.slots, k b ob q⟩, fun _ _ _ n _ => n, fun b ob q _ => ⟨ob, k b ob q⟩, fun _ _ q => q, fun _ _ _ q => q, fun _ ps q => ⟨#[], by rw [q]; simp⟩⟩
theorem Un.refl : Un fs ex H H h h := Un.kept fun _ _ q => q
theorem Un.laid (k : ∀ b u, h.get? b = some u → h'.get? b = some u) (hp : h.objs.size ≤ a) (hn : H a = none) : Un fs ex H (upd H a o) h h' where
  keep := fun b u q _ _ _ => k b u q
  slot := fun b u q _ _ _ => ⟨u.slots, k b u q⟩
  free := fun b u q n _ => by rw [upd_ne (Nat.ne_of_lt (Nat.lt_of_lt_of_le (Heap.lt_size q) hp))]; exact n
  there := fun b u q _ => ⟨u, k b u q⟩
  tups := fun b xs q => by rw [upd_ne (ne_of_none q hn)]; exact q
  frzs := fun b u xs q => by rw [upd_ne (ne_of_none q hn)]; exact q
  tbls := fun b ps q => ⟨#[], by rw [upd_ne (ne_of_none q hn), q]; simp⟩
theorem Un.write (mu : Mut (H x)) (he : e = x ∨ H e = some (.own x)) (k : ∀ b u, b ≠ e → h.get? b = some u → h'.get? b = some u) (heo : ∃ u, h'.get? e = some u) : Un fs ex H (upd H x o) h h' := by
  have hx : ∀ b, H b = none → b ≠ x := fun b n z => by subst z; rw [n] at mu; exact mu
  have hb : ∀ b, H b = none → b ≠ e := fun b n z => by
    subst z
    rcases he with r | r
    · exact hx b n r
    · rw [n] at r; cases r
  have hm : ∀ b u, H b = some u → ¬ Mut (some u) → b ≠ x := fun b u q nm z => by subst z; rw [q] at mu; exact nm mu
  refine ⟨fun b u q n _ _ => k b u (hb b n) q, fun b u q n _ _ => ⟨u.slots, k b u (hb b n) q⟩, fun b u q n _ => by rw [upd_ne (hx b n)]; exact n, fun b u q _ => ?_,
    fun b xs q => by rw [upd_ne (hm b _ q fun z => z)]; exact q, fun b u xs q => by rw [upd_ne (hm b _ q fun z => z)]; exact q, fun b ps q => ⟨#[], by rw [upd_ne (hm b _ q fun z => z), q]; simp⟩⟩
  by_cases hbe : b = e
  · subst hbe; exact heo
  · exact ⟨u, k b u hbe q⟩
theorem Un.mono (u : Un fs ex H H1 h h1) (hs : ∀ b ∈ fs, b ∈ fs') (hx : ∀ b ∈ ex, b ∈ ex') : Un fs' ex' H H1 h h1 :=
  ⟨fun b ob q n hb he => u.keep b ob q n (fun z => hb (hs b z)) fun z => he (hx b z), fun _ _ q n _ he => u.any q n fun z => he (hx _ z), fun b ob q n he => u.free b ob q n fun z => he (hx b z), fun b ob q he => u.there b ob q fun z => he (hx b z), u.tups, u.frzs, u.tbls⟩
end
def trk (h : Heap) (H : Hp) : List Addr := (List.range h.objs.size).filter fun a => (H a).isSome
def hidT (h : Heap) (H : Hp) : Heap := PySem.W.hideAll h (trk h H)
theorem hidT_size (h : Heap) (H : Hp) : (hidT h H).objs.size = h.objs.size := PySem.W.hideAll_size _ _
theorem hidT_get {h : Heap} {H : Hp} {b : Addr} {o : Obj} (e : h.get? b = some o) (n : H b = none) : (hidT h H).get? b = some o :=
  PySem.W.hideAll_get _ e fun hm => by
    have q : (H b).isSome = true := (List.mem_filter.mp hm).2
    rw [n] at q; simp at q
theorem of_hidT {h : Heap} {H : Hp} {b : Addr} {o : Obj} (e : (hidT h H).get? b = some o) : h.get? b = some o ∧ H b = none := by
  have e' : h.get? b = some o := PySem.W.of_hideAll (trk h H) e
  refine ⟨e', ?_⟩
  cases q : H b with
  | none => rfl
  | some x =>
    have hm : b ∈ trk h H := List.mem_filter.mpr ⟨List.mem_range.mpr (Heap.lt_size e'), by simp [q]⟩
    have z : (hidT h H).get? b = none := PySem.W.hideAll_none (trk h H) hm
    rw [z] at e; cases e
def allNews (g h : Heap) (L : Addr) : List (Addr × Obj) := (List.range h.objs.size).filterMap fun a => if a = L ∨ (g.get? a).isSome = true then none else (h.get? a).map fun o => (a, o)
def rest (g h : Heap) (L d : Addr) : List (Addr × Obj) := (allNews g h L).filter fun p => decide (p.1 ≠ d)
end L2
namespace L2
open PySem PySem.Spec PyProof.Rows
structure Mod (K : PySem.W.Frag) (mg : Str → Option Value) (base : Heap) : Prop where
  kin : K.In base
  glob : base.Ns mainGlobals mg
  blt : ∃ mb, base.Ns builtinsNs mb ∧ ∀ x : Str, x ≠ "__name__" → mb x = bootBuiltins x
  nolimit : base.NoLimit
structure Cx where
  prog : Program
  w : World
  K : PySem.W.Frag
  mg : Str → Option Value
  base : Heap
  A : Around
  N : List Str
  s₀ : Shared
  H₀ : Hp
  env : Env
  outer : List Env
  stack : List Env
  ex : List Addr
  fn : Str → Bool
  calm : Bool
  pn : List (Addr × Obj)
  xe : Value → Shared → Prop
def frs (l : List Env) : List Addr := l.filterMap (·.frame)
abbrev Cx.fs (X : Cx) : List Addr := frs X.outer
def Vis (sc : Scope) (x : Str) : Prop := sc.names.lookup x = some .local ∨ sc.names.lookup x = some .cell ∨ sc.names.lookup x = some .free
def Loc (sc : Scope) (x : Str) : Prop := sc.names.lookup x = some .local ∨ sc.names.lookup x = some .cell
def Look (env : Env) (h : Heap) (m : Str → Option Value) (x : Str) (u : Value) : Prop :=
  (env.kindOf x = some .local ∧ m x = some u) ∨ ((env.kindOf x = some .cell ∨ env.kindOf x = some .free) ∧ ∃ c, env.cells.lookup x = some c ∧ h.IsCell c (some u))
structure Cx.Ok (X : Cx) : Prop where
  mod : Mod X.K X.mg X.base
  kind : X.env.scope.kind = .function
  glob : X.env.globals = mainGlobals
  blt : X.env.builtins = builtinsNs
  above : X.s₀.heap.objs.size ≤ X.env.locals
  inj : ∀ x y c, X.env.cells.lookup x = some c → X.env.cells.lookup y = some c → x = y
  has : ∀ x, (X.env.kindOf x = some .cell ∨ X.env.kindOf x = some .free) → ∃ c, X.env.cells.lookup x = some c
  cab : ∀ x c, X.fn x = true → X.env.cells.lookup x = some c → X.s₀.heap.objs.size ≤ c
  hd : X.calm = true → X.A.handled = none
  frames : X.A.frames = some X.stack
  stk : X.stack = X.outer ∨ (X.stack = X.env :: X.outer ∧ X.env.frame = some X.env.locals)
  exf : ∀ b ∈ X.ex, b ≠ X.env.locals ∧ ∀ x c, X.env.cells.lookup x = some c → c ≠ b
  bs : ∀ b o, X.base.get? b = some o → X.s₀.heap.get? b = some o ∧ X.H₀ b = none
  bsz : X.base.objs.size ≤ X.s₀.heap.objs.size
  noex : ∀ b o, X.base.get? b = some o → b ∉ X.ex
  exfs : ∀ b ∈ X.ex, b ∉ X.fs
  funs : X.s₀.heap.FunFrames X.base X.outer
  frf : ∀ b ∈ X.fs, X.H₀ b = none
structure Inv (X : Cx) (pins : List (Addr × Obj)) (σ : List (Option V)) (H : Hp) (s : Shared) : Prop where
  ok : X.Ok
  os : s.os = X.s₀.os
  bare : AllBare s.gens
  base : Un X.fs X.ex X.H₀ H X.s₀.heap s.heap
  loc : ∃ m, s.heap.Ns X.env.locals m ∧ ∀ (i : Nat) (x : Str) (v : V), X.N[i]? = some x → σ[i]? = some (some v) → Vis X.env.scope x → ∃ u, RelV v u ∧ Look X.env s.heap m x u
  cell : ∀ x c, X.env.cells.lookup x = some c → ∃ v, s.heap.IsCell c v
  free : H X.env.locals = none
  freeC : ∀ x c, X.env.cells.lookup x = some c → H c = none
  pin : ∀ p ∈ X.pn ++ pins, s.heap.get? p.1 = some p.2 ∧ H p.1 = none ∧ p.1 ≠ X.env.locals ∧ p.1 ∉ X.fs ∧ ∀ v, p.2.data ≠ .cell v
  hok : HOk X.prog X.w H s.heap
  len : σ.length = X.N.length
section
variable {X : Cx} {pins : List (Addr × Obj)} {σ : List (Option V)} {H H' : Hp} {s : Shared} {h' : Heap}
theorem Cx.Ok.nofr (ok : X.Ok) {b : Addr} {o : Obj} (e : X.base.get? b = some o) : b ∉ X.fs := fun hb => by
  have := (ok.funs.mem hb).1
  rw [e] at this; cases this
theorem Inv.bs (I : Inv X pins σ H s) : ∀ b o, X.base.get? b = some o → s.heap.get? b = some o ∧ H b = none := fun b o e =>
  ⟨I.base.keep b o (I.ok.bs b o e).1 (I.ok.bs b o e).2 (I.ok.nofr e) (I.ok.noex b o e), I.base.free b o (I.ok.bs b o e).1 (I.ok.bs b o e).2 (I.ok.noex b o e)⟩
theorem Inv.bk (I : Inv X pins σ H s) : ∀ b o, X.base.get? b = some o → s.heap.get? b = some o := fun b o e => (I.bs b o e).1
theorem Inv.mod (I : Inv X pins σ H s) : Mod X.K X.mg X.base := I.ok.mod
theorem Inv.kIn (I : Inv X pins σ H s) : X.K.In s.heap := I.ok.mod.kin.keeps I.bk
theorem Inv.nolimit (I : Inv X pins σ H s) : s.heap.NoLimit := I.ok.mod.nolimit.keeps I.bk
theorem Inv.fr (I : Inv X pins σ H s) : ∃ m, Fr X.base X.env.locals s.heap m :=
  let ⟨m, hn, _⟩ := I.loc
  ⟨m, hn, I.bk, Nat.le_trans I.ok.bsz I.ok.above⟩
theorem Inv.lt (I : Inv X pins σ H s) : X.env.locals < s.heap.objs.size := let ⟨_, hn, _⟩ := I.loc; hn.lt
theorem Inv.sz (I : Inv X pins σ H s) : X.s₀.heap.objs.size ≤ s.heap.objs.size := Nat.le_trans I.ok.above (Nat.le_of_lt I.lt)
theorem Inv.nofs (I : Inv X pins σ H s) {a : Addr} (h : s.heap.objs.size ≤ a) : a ∉ X.fs := fun hb => by
  obtain ⟨_, o, ho, _⟩ := I.ok.funs.mem hb
  exact absurd (Nat.lt_of_lt_of_le (Heap.lt_size ho) (Nat.le_trans I.sz h)) (Nat.lt_irrefl _)
theorem Inv.cne (I : Inv X pins σ H s) : ∀ x c, X.env.cells.lookup x = some c → c ≠ X.env.locals := fun x c e z => by
  obtain ⟨v, o, ho, hd⟩ := I.cell x c e
  obtain ⟨m, ⟨o', es, ep, ho', hd', _⟩, _⟩ := I.loc
  rw [z, ho'] at ho; cases ho; rw [hd'] at hd; cases hd
theorem Inv.funs (I : Inv X pins σ H s) : s.heap.FunFrames X.base X.outer := by
  have all : ∀ (l : List Env), (∀ b ∈ frs l, b ∈ X.fs) → X.s₀.heap.FunFrames X.base l → s.heap.FunFrames X.base l := by
    intro l
    induction l with
    | nil => intro _ _; trivial
    | cons env r ih =>
      intro hs hl
      obtain ⟨hk, ⟨L, o, hf, hn, ho, hd⟩, hr⟩ := hl
      have hL : L ∈ X.fs := hs L (by unfold frs; rw [List.filterMap_cons, hf]; exact List.mem_cons_self)
      obtain ⟨sl, e⟩ := I.base.slot L o ho (I.ok.frf L hL) hL fun z => I.ok.exfs L z hL
      exact ⟨hk, ⟨L, _, hf, hn, e, hd⟩, ih (fun b hb => hs b (by unfold frs; rw [List.filterMap_cons, hf]; exact List.mem_cons_of_mem _ hb)) hr⟩
  exact all X.outer (fun _ hb => hb) I.ok.funs
theorem Inv.stack (I : Inv X pins σ H s) : s.heap.FunFrames X.base X.stack := by
  rcases I.ok.stk with e | ⟨e, hf⟩
  · rw [e]; exact I.funs
  · rw [e]
    obtain ⟨m, hn, _⟩ := I.loc
    refine .cons (by rw [I.ok.kind]; decide) hf hn ?_ I.funs
    exact Heap.get?_none_of_le (Nat.le_trans I.ok.bsz I.ok.above)
theorem Inv.stkSub (I : Inv X pins σ H s) : ∀ b ∈ frs X.stack, b ∈ X.env.locals :: X.fs := fun b hb => by
  rcases I.ok.stk with e | ⟨e, hf⟩
  · rw [e] at hb; exact List.mem_cons_of_mem _ hb
  · rw [e] at hb
    unfold frs at hb
    rw [List.filterMap_cons, hf] at hb
    exact hb
theorem Inv.stkFree (I : Inv X pins σ H s) : ∀ b ∈ frs X.stack, H b = none := fun b hb => by
  rcases List.mem_cons.mp (I.stkSub b hb) with e | hb
  · rw [e]; exact I.free
  · obtain ⟨_, o, ho, _⟩ := I.ok.funs.mem hb
    exact I.base.free b o ho (I.ok.frf b hb) fun z => I.ok.exfs b z hb
theorem Inv.step {g' : Array GenState} {t' : Nat} {d' : Drawn} {ch : List Addr} (I : Inv X pins σ H s)
    (hch : ∀ b ∈ ch, (b ∈ X.ex ∨ X.s₀.heap.objs.size ≤ b) ∧ b ≠ X.env.locals ∧ (∀ x c, X.env.cells.lookup x = some c → c ≠ b) ∧ ∀ p ∈ X.pn ++ pins, p.1 ≠ b)
    (keep : ∀ b o, b ≠ X.env.locals → b ∉ X.fs → b ∉ ch → s.heap.get? b = some o → H b = none → h'.get? b = some o)
    (slot : ∀ b o, b ≠ X.env.locals → b ∈ X.fs → b ∉ ch → s.heap.get? b = some o → H b = none → ∃ sl, h'.get? b = some { o with slots := sl }) (free : ∀ b o, b ∉ ch → s.heap.get? b = some o → H b = none → H' b = none)
    (there : ∀ b o, b ∉ ch → s.heap.get? b = some o → ∃ o', h'.get? b = some o')
    (tups : ∀ b xs, H b = some (.tup xs) → H' b = some (.tup xs)) (frzs : ∀ b o u, H b = some (.frz o u) → H' b = some (.frz o u)) (tbls : ∀ b ps, H b = some (.tbl ps) → ∃ more, H' b = some (.tbl (ps ++ more)))
    (ns : ∀ m, s.heap.Ns X.env.locals m → h'.Ns X.env.locals m) (hok : HOk X.prog X.w H' h') (hg : AllBare g') :
    Inv X pins σ H' { s with heap := h', gens := g', drawn := d', toks := t' } := by
  have neL : ∀ b o, X.s₀.heap.get? b = some o → b ≠ X.env.locals := fun b o e => Nat.ne_of_lt (Nat.lt_of_lt_of_le (Heap.lt_size e) I.ok.above)
  have neC : ∀ b o, X.s₀.heap.get? b = some o → b ∉ X.ex → b ∉ ch := fun b o e hx hb => by
    rcases (hch b hb).1 with z | z
    · exact hx z
    · exact absurd (Nat.lt_of_lt_of_le (Heap.lt_size e) z) (Nat.lt_irrefl _)
  have cellK : ∀ x c, X.env.cells.lookup x = some c → ∀ v, s.heap.IsCell c v → h'.IsCell c v := fun x c e v ⟨o, ho, hd⟩ => by
    have nch : c ∉ ch := fun z => (hch c z).2.2.1 x c e rfl
    by_cases hc : c ∈ X.fs
    · obtain ⟨sl, q⟩ := slot c o (I.cne x c e) hc nch ho (I.freeC x c e)
      exact ⟨_, q, hd⟩
    · exact ⟨o, keep c o (I.cne x c e) hc nch ho (I.freeC x c e), hd⟩
  refine ⟨I.ok, I.os, hg, ⟨fun b o e n hb hx => ?_, fun b o e n hb hx => ?_, fun b o e n hx => ?_, fun b o e hx => ?_, fun b xs e => tups b xs (I.base.tups b xs e), fun b o xs e => frzs b o xs (I.base.frzs b o xs e), fun b ps e => ?_⟩, ?_, fun x c e => ?_, ?_, fun x c e => ?_, fun p hp => ?_, hok, I.len⟩
  · exact keep b o (neL b o e) hb (neC b o e hx) (I.base.keep b o e n hb hx) (I.base.free b o e n hx)
  · obtain ⟨sl, e1⟩ := I.base.slot b o e n hb hx
    obtain ⟨sl', e2⟩ := slot b _ (neL b o e) hb (neC b o e hx) e1 (I.base.free b o e n hx)
    exact ⟨sl', e2⟩
  · obtain ⟨o', e1⟩ := I.base.there b o e hx
    exact free b o' (neC b o e hx) e1 (I.base.free b o e n hx)
  · obtain ⟨o', e1⟩ := I.base.there b o e hx
    exact there b o' (neC b o e hx) e1
  · obtain ⟨m1, e1⟩ := I.base.tbls b ps e
    obtain ⟨m2, e2⟩ := tbls b _ e1
    exact ⟨m1 ++ m2, by rw [e2, Array.append_assoc]⟩
  · obtain ⟨m, hn, hl⟩ := I.loc
    refine ⟨m, ns m hn, fun i x v e1 e2 e3 => ?_⟩
    obtain ⟨u, r, l⟩ := hl i x v e1 e2 e3
    refine ⟨u, r, ?_⟩
    rcases l with l | ⟨k, c, e, z⟩
    · exact .inl l
    · exact .inr ⟨k, c, e, cellK x c e _ z⟩
  · obtain ⟨v, z⟩ := I.cell x c e
    exact ⟨v, cellK x c e v z⟩
  · obtain ⟨m, ⟨o, _, _, ho, _⟩, _⟩ := I.loc
    exact free _ o (fun z => (hch _ z).2.1 rfl) ho I.free
  · obtain ⟨v, o, ho, hd⟩ := I.cell x c e
    exact free c o (fun z => (hch c z).2.2.1 x c e rfl) ho (I.freeC x c e)
  · obtain ⟨e, n, ne, nf, d⟩ := I.pin p hp
    have nch : p.1 ∉ ch := fun z => (hch p.1 z).2.2.2 p hp rfl
    exact ⟨keep p.1 p.2 ne nf nch e n, free p.1 p.2 nch e n, ne, nf, d⟩
theorem Inv.un {t' : Nat} (I : Inv X pins σ H s) (u : Un X.fs [] H H' s.heap h') (hok : HOk X.prog X.w H' h') : Inv X pins σ H' { s with heap := h', toks := t' } := by
  obtain ⟨m, ⟨o, es, ep, ho, r⟩, _⟩ := id I.loc
  obtain ⟨sl, hL⟩ := u.any ho I.free (by simp)
  exact I.step (g' := s.gens) (d' := s.drawn) (ch := []) (fun _ z => nomatch z) (fun b o _ hb _ e n => u.keep b o e n hb (by simp)) (fun b o _ hb _ e n => u.slot b o e n hb (by simp)) (fun b o _ e n => u.free b o e n (by simp)) (fun b o _ e => u.there b o e (by simp)) u.tups u.frzs u.tbls (fun m' hm => by
    obtain ⟨o', es', ep', ho', r'⟩ := hm
    rw [ho] at ho'; cases ho'
    exact ⟨_, es', ep', hL, r'⟩) hok I.bare
theorem Inv.call {g' : Array GenState} {t' : Nat} {d' : Drawn} {ch : List Addr} (I : Inv X pins σ H s) (u : Un (frs X.stack) ch H H' s.heap h') (hok : HOk X.prog X.w H' h') (hg : AllBare g')
    (hch : ∀ b ∈ ch, (b ∈ X.ex ∨ X.s₀.heap.objs.size ≤ b) ∧ b ≠ X.env.locals ∧ (∀ x c, X.env.cells.lookup x = some c → c ≠ b) ∧ ∀ p ∈ X.pn ++ pins, p.1 ≠ b) :
    Inv X pins σ H' { s with heap := h', gens := g', drawn := d', toks := t' } := by
  obtain ⟨m, ⟨o, es, ep, ho, r⟩, _⟩ := id I.loc
  obtain ⟨sl, hL⟩ := u.any ho I.free fun z => (hch _ z).2.1 rfl
  exact I.step (ch := ch) hch (fun b o hL hb hc e n => u.keep b o e n (fun z => (List.mem_cons.mp (I.stkSub b z)).elim hL hb) hc) (fun b o _ _ hc e n => u.any e n hc) (fun b o hc e n => u.free b o e n hc) (fun b o hc e => u.there b o e hc) u.tups u.frzs u.tbls (fun m' hm => by
    obtain ⟨o', es', ep', ho', r'⟩ := hm
    rw [ho] at ho'; cases ho'
    exact ⟨_, es', ep', hL, r'⟩) hok hg
theorem Inv.turned {t' : Nat} {it : Addr} (I : Inv X pins σ H s) (k : ∀ b o, b ≠ it → s.heap.get? b = some o → h'.get? b = some o) (hn : H it = none) (hL : it ≠ X.env.locals)
    (h1 : it ∈ X.ex ∨ X.s₀.heap.objs.size ≤ it) (h2 : ∀ x c, X.env.cells.lookup x = some c → c ≠ it) (h3 : ∀ p ∈ X.pn ++ pins, p.1 ≠ it) : Inv X pins σ H { s with heap := h', toks := t' } := by
  have nit : ∀ b u, H b = some u → b ≠ it := fun b u e z => by rw [z, hn] at e; cases e
  refine I.step (g' := s.gens) (d' := s.drawn) (ch := [it]) (fun b hb => ?_) (fun b o _ _ hc e _ => k b o (fun z => hc (by simp [z])) e) (fun b o _ _ hc e _ => ⟨o.slots, k b o (fun z => hc (by simp [z])) e⟩) (fun _ _ _ _ n => n)
    (fun b o hc e => ⟨o, k b o (fun z => hc (by simp [z])) e⟩) (fun _ _ e => e) (fun _ _ _ e => e) (fun b ps e => ⟨#[], by rw [e]; simp⟩) (fun m hm => ?_) (fun b u e => ?_) I.bare
  · have e : b = it := by simpa using hb
    subst e
    exact ⟨h1, hL, h2, h3⟩
  · obtain ⟨o, es, ep, ho, r⟩ := hm
    exact ⟨o, es, ep, k _ o (Ne.symm hL) ho, r⟩
  · refine (I.hok b u e).stay (fun c v hc q => k c v ?_ q) (fun _ q => q) fun _ _ q => q
    rcases hc with z | z
    · rw [z]; exact nit b u e
    · exact nit c _ z
theorem Inv.tok (I : Inv X pins σ H s) (t : Nat) : Inv X pins σ H { s with toks := t } := I.un (h' := s.heap) (t' := t) Un.refl I.hok
theorem Inv.kept {t' : Nat} (I : Inv X pins σ H s) (k : ∀ b u, s.heap.get? b = some u → h'.get? b = some u) : Inv X pins σ H { s with heap := h', toks := t' } := I.un (Un.kept k) (I.hok.kept k)
theorem Inv.laid {a : Addr} {o : HO} {t' : Nat} (I : Inv X pins σ H s) (k : ∀ b u, s.heap.get? b = some u → h'.get? b = some u) (hp : s.heap.objs.size ≤ a) (new : ObjOk X.prog X.w (upd H a o) h' a o) :
    Inv X pins σ (upd H a o) { s with heap := h', toks := t' } := I.un (Un.laid k hp (I.hok.fresh hp)) (I.hok.laid k hp new)
theorem Inv.write {x e : Addr} {o : HO} {t' : Nat} (I : Inv X pins σ H s) (mu : Mut (H x)) (he : e = x ∨ H e = some (.own x)) (k : ∀ b u, b ≠ e → s.heap.get? b = some u → h'.get? b = some u) (heo : ∃ u, h'.get? e = some u)
    (new : ObjOk X.prog X.w (upd H x o) h' x o) : Inv X pins σ (upd H x o) { s with heap := h', toks := t' } := I.un (Un.write mu he k heo) (I.hok.write mu he k heo new)
theorem Inv.weak {σ' : List (Option V)} (I : Inv X pins σ H s) (hl : σ'.length = σ.length) (w : ∀ (i : Nat) v, σ'[i]? = some (some v) → σ[i]? = some (some v)) : Inv X pins σ' H s :=
  ⟨I.ok, I.os, I.bare, I.base, let ⟨m, hn, hl'⟩ := I.loc; ⟨m, hn, fun i x v e1 e2 e3 => hl' i x v e1 (w i v e2) e3⟩, I.cell, I.free, I.freeC, I.pin, I.hok, hl.trans I.len⟩
theorem Inv.pins_of {pins' : List (Addr × Obj)} (I : Inv X pins σ H s) (h : ∀ p ∈ pins', s.heap.get? p.1 = some p.2 ∧ H p.1 = none ∧ p.1 ≠ X.env.locals ∧ p.1 ∉ X.fs ∧ ∀ v, p.2.data ≠ .cell v) : Inv X pins' σ H s :=
  ⟨I.ok, I.os, I.bare, I.base, I.loc, I.cell, I.free, I.freeC, fun p hp => (List.mem_append.mp hp).elim (fun z => I.pin p (List.mem_append_left _ z)) (h p), I.hok, I.len⟩
theorem nodup_ix {N : List Str} (hN : N.Nodup) {i j : Nat} {x : Str} (a : N[i]? = some x) (b : N[j]? = some x) : i = j := by
  obtain ⟨h1, e1⟩ := List.getElem?_eq_some_iff.mp a
  obtain ⟨h2, e2⟩ := List.getElem?_eq_some_iff.mp b
  exact (List.getElem_inj hN).mp (e1.trans e2.symm)
theorem store_ok2 {M : Model} {A : Around} {E : Value → Shared → Prop} {i : Nat} {x : Str} {v : V} {u : Value} {Q : Unit → Shared → Prop} (I : Inv X pins σ H s) (hN : X.N.Nodup) (hi : X.N[i]? = some x) (hx : Loc X.env.scope x) (r : RelV v u)
    (h : ∀ s', Inv X pins (σ.set i (some v)) H s' → (∃ a, Heap.SameBut a s.heap s'.heap ∧ (a = X.env.locals ∨ X.env.cells.lookup x = some a)) → Q () s') (hf : X.fn x = true ∨ X.env.scope.names.lookup x = some .local := by first | exact .inl rfl | exact .inr rfl | assumption) : wpAny M A (storeName X.env x u) Q E s := by
  obtain ⟨m, hn, hl⟩ := id I.loc
  have hcls : (X.env.scope.kind == .class || (X.env.scope.kind == .module && X.env.locals != X.env.globals)) = false := by rw [I.ok.kind]; rfl
  have hiσ : i < σ.length := by rw [I.len]; exact (List.getElem?_eq_some_iff.mp hi).1
  have cne := I.cne
  have tracked : ∀ {a : Addr} {h' : Heap}, (∃ o, s.heap.get? a = some o ∧ H a = none) → Heap.SameBut a s.heap h' → HOk X.prog X.w H h' := fun {a h'} ha hs b ob e => by
    obtain ⟨_, _, hfree⟩ := ha
    refine (I.hok b ob e).stay (fun c w' hc q => (hs.2 c ?_).trans q) (fun _ q => q) fun _ _ q => q
    rintro rfl
    rcases hc with rfl | hc
    · rw [hfree] at e; cases e
    · rw [hfree] at hc; cases hc
  rcases hx with hk | hk
  · refine wpAny_storeName_local hk hn (fun h' hn' hs => ?_) hcls
    obtain ⟨oL, _, _, hoL, _⟩ := id hn
    refine h _ ⟨I.ok, I.os, I.bare, ⟨fun b o e n hb hx => ?_, fun b o e n hb hx => ?_, I.base.free, fun b o e hx => ?_, I.base.tups, I.base.frzs, I.base.tbls⟩, ⟨_, hn', fun j y v' e1 e2 e3 => ?_⟩, fun y c e => ?_, I.free, I.freeC, fun p hp => ?_, tracked ⟨oL, hoL, I.free⟩ hs, by simpa using I.len⟩ ⟨_, hs, .inl rfl⟩
    · exact (hs.2 b (Nat.ne_of_lt (Nat.lt_of_lt_of_le (Heap.lt_size e) I.ok.above))).trans (I.base.keep b o e n hb hx)
    · obtain ⟨sl, e1⟩ := I.base.slot b o e n hb hx
      exact ⟨sl, (hs.2 b (Nat.ne_of_lt (Nat.lt_of_lt_of_le (Heap.lt_size e) I.ok.above))).trans e1⟩
    · obtain ⟨o', e1⟩ := I.base.there b o e hx
      exact ⟨o', (hs.2 b (Nat.ne_of_lt (Nat.lt_of_lt_of_le (Heap.lt_size e) I.ok.above))).trans e1⟩
    · by_cases hj : j = i
      · subst hj
        rw [hi] at e1; cases e1
        rw [List.getElem?_set_self hiσ] at e2
        cases e2
        exact ⟨u, r, .inl ⟨hk, by simp⟩⟩
      · rw [List.getElem?_set_ne (Ne.symm hj)] at e2
        obtain ⟨u', r', q⟩ := hl j y v' e1 e2 e3
        refine ⟨u', r', ?_⟩
        rcases q with ⟨k, e⟩ | ⟨k, c, e, z⟩
        · refine .inl ⟨k, ?_⟩
          have : y ≠ x := fun e => hj (nodup_ix hN e1 (e ▸ hi))
          simp [this, e]
        · exact .inr ⟨k, c, e, z.sameBut hs (cne y c e)⟩
    · obtain ⟨w', z⟩ := I.cell y c e
      exact ⟨w', z.sameBut hs (cne y c e)⟩
    · obtain ⟨e, n, ne, nf, d⟩ := I.pin p hp
      exact ⟨(hs.2 p.1 ne).trans e, n, ne, nf, d⟩
  · have hfn : X.fn x = true := by
      rcases hf with z | z
      · exact z
      · rw [z] at hk; cases hk
    obtain ⟨c, hc⟩ := I.ok.has x (.inl hk)
    obtain ⟨w', z⟩ := I.cell x c hc
    refine wpAny_storeName_cell I.ok.kind hk hc z (fun h' hc' hs => ?_)
    obtain ⟨oc, hoc, hocd⟩ := id z
    refine h { s with heap := h' } ⟨I.ok, I.os, I.bare, ⟨fun b o e n hb hx => ?_, fun b o e n hb hx => ?_, I.base.free, fun b o e hx => ?_, I.base.tups, I.base.frzs, I.base.tbls⟩, ⟨m, hn.sameBut hs (Ne.symm (cne x c hc)), fun j y v' e1 e2 e3 => ?_⟩, fun y c' e => ?_, I.free, I.freeC, fun p hp => ?_, tracked ⟨oc, hoc, I.freeC x c hc⟩ hs, by simpa using I.len⟩ ⟨c, hs, .inr hc⟩
    · exact (hs.2 b (Nat.ne_of_lt (Nat.lt_of_lt_of_le (Heap.lt_size e) (I.ok.cab x c hfn hc)))).trans (I.base.keep b o e n hb hx)
    · obtain ⟨sl, e1⟩ := I.base.slot b o e n hb hx
      exact ⟨sl, (hs.2 b (Nat.ne_of_lt (Nat.lt_of_lt_of_le (Heap.lt_size e) (I.ok.cab x c hfn hc)))).trans e1⟩
    · obtain ⟨o', e1⟩ := I.base.there b o e hx
      exact ⟨o', (hs.2 b (Nat.ne_of_lt (Nat.lt_of_lt_of_le (Heap.lt_size e) (I.ok.cab x c hfn hc)))).trans e1⟩
    · by_cases hj : j = i
      · subst hj
        rw [hi] at e1; cases e1
        rw [List.getElem?_set_self hiσ] at e2
        cases e2
        exact ⟨u, r, .inr ⟨.inl hk, c, hc, hc'⟩⟩
      · rw [List.getElem?_set_ne (Ne.symm hj)] at e2
        obtain ⟨u', r', q⟩ := hl j y v' e1 e2 e3
        refine ⟨u', r', ?_⟩
        rcases q with q | ⟨k, c', e, z'⟩
        · exact .inl q
        · refine .inr ⟨k, c', e, z'.sameBut hs ?_⟩
          rintro rfl
          exact hj (nodup_ix hN e1 (I.ok.inj _ _ _ e hc ▸ hi))
    · by_cases hcc : c' = c
      · subst hcc; exact ⟨_, hc'⟩
      · obtain ⟨w2, z2⟩ := I.cell y c' e
        exact ⟨w2, z2.sameBut hs hcc⟩
    · obtain ⟨e, n, ne, nf, d⟩ := I.pin p hp
      refine ⟨(hs.2 p.1 ?_).trans e, n, ne, nf, d⟩
      intro q
      rw [q, hoc] at e
      have q' : oc = p.2 := Option.some.inj e
      exact d w' (by rw [← q']; exact hocd)
theorem store_ok {M : Model} {A : Around} {E : Value → Shared → Prop} {i : Nat} {x : Str} {v : V} {u : Value} {Q : Unit → Shared → Prop} (I : Inv X pins σ H s) (hN : X.N.Nodup) (hi : X.N[i]? = some x) (hx : Loc X.env.scope x) (r : RelV v u)
    (h : ∀ s', Inv X pins (σ.set i (some v)) H s' → Q () s') (hf : X.fn x = true ∨ X.env.scope.names.lookup x = some .local := by first | exact .inl rfl | exact .inr rfl | assumption) : wpAny M A (storeName X.env x u) Q E s :=
  store_ok2 I hN hi hx r (fun s' I' _ => h s' I') hf
theorem Inv.call' {s' : Shared} {ch : List Addr} (I : Inv X pins σ H s) (ho : s'.os = s.os) (u : Un (frs X.stack) ch H H' s.heap s'.heap) (hok : HOk X.prog X.w H' s'.heap) (hg : AllBare s'.gens)
    (hch : ∀ b ∈ ch, (b ∈ X.ex ∨ X.s₀.heap.objs.size ≤ b) ∧ b ≠ X.env.locals ∧ (∀ x c, X.env.cells.lookup x = some c → c ≠ b) ∧ ∀ p ∈ X.pn ++ pins, p.1 ≠ b) : Inv X pins σ H' s' := by
  obtain ⟨h', g', d', t', o'⟩ := s'
  have e : o' = s.os := ho
  subst e
  exact I.call (g' := g') (t' := t') (d' := d') u hok hg hch
end
abbrev XK := Value → Option Addr → Hp → Prop
abbrev St := List (Option V)
abbrev VK := V → Hp → Prop
abbrev TE := St → Hp → VK → Prop
abbrev TT := St → Hp → (Bool → Hp → Prop) → Prop
abbrev TA := St → Hp → (List V → Hp → Prop) → Prop
structure Ends where
  nx : St → Hp → Prop
  rt : VK
  bk : St → Hp → Prop := fun _ _ => False
  ct : St → Hp → Prop := fun _ _ => False
abbrev TS := Ends → St → Hp → Prop
def EP (X : Cx) (pins : List (Addr × Obj)) (σ : St) (Q : VK) (u : Value) (s' : Shared) : Prop := ∃ v H', Inv X pins σ H' s' ∧ RelV v u ∧ Q v H'
def TP (X : Cx) (pins : List (Addr × Obj)) (σ : St) (Q : Bool → Hp → Prop) (b : Bool) (s' : Shared) : Prop := ∃ H', Inv X pins σ H' s' ∧ Q b H'
def AP (X : Cx) (pins : List (Addr × Obj)) (σ : St) (Q : List V → Hp → Prop) (us : List Value) (s' : Shared) : Prop := ∃ vs H', Inv X pins σ H' s' ∧ Vals vs us ∧ Q vs H'
def SP (X : Cx) (pins : List (Addr × Obj)) (D : Ends) (f : Flow) (s' : Shared) : Prop :=
  match f with
  | .next => ∃ σ' H', Inv X pins σ' H' s' ∧ D.nx σ' H'
  | .brk => ∃ σ' H', Inv X pins σ' H' s' ∧ D.bk σ' H'
  | .cont => ∃ σ' H', Inv X pins σ' H' s' ∧ D.ct σ' H'
  | .ret u => ∃ v σ' H', Inv X pins σ' H' s' ∧ RelV v u ∧ D.rt v H'
def PE (X : Cx) (e : Expr) (t : TE) : Prop :=
  ∀ (pins : List (Addr × Obj)) (s : Shared) (σ : St) (H : Hp) (Q : VK), Inv X pins σ H s → t σ H Q → wpAny (model X.prog X.w) X.A (eval e X.env) (EP X pins σ Q) X.xe s
def PT (X : Cx) (e : Expr) (t : TT) : Prop :=
  ∀ (pins : List (Addr × Obj)) (s : Shared) (σ : St) (H : Hp) (Q : Bool → Hp → Prop), Inv X pins σ H s → t σ H Q → wpAny (model X.prog X.w) X.A (isTrue e X.env (eval e X.env)) (TP X pins σ Q) X.xe s
def PW (X : Cx) (e : Expr) (t : TT) : Prop :=
  ∀ (whole : Sem Value) (pins : List (Addr × Obj)) (s : Shared) (σ : St) (H : Hp) (Q : Bool → Hp → Prop), Inv X pins σ H s → t σ H Q → wpAny (model X.prog X.w) X.A (isTrue e X.env whole) (TP X pins σ Q) X.xe s
theorem PW.pt {X : Cx} {e : Expr} {t : TT} (h : PW X e t) : PT X e t := h _
def PA (X : Cx) (es : List Expr) (t : TA) : Prop :=
  ∀ (pos : Pos) (pins : List (Addr × Obj)) (s : Shared) (σ : St) (H : Hp) (Q : List V → Hp → Prop), Inv X pins σ H s → t σ H Q → wpAny (model X.prog X.w) X.A (spliced (backTo pos (starEach es X.env))) (AP X pins σ Q) X.xe s
def PS (X : Cx) (st : Stmt) (t : TS) : Prop :=
  ∀ (pins : List (Addr × Obj)) (s : Shared) (σ : St) (H : Hp) (D : Ends), Inv X pins σ H s → t D σ H → wpAny (model X.prog X.w) X.A (exec st X.env) (SP X pins D) X.xe s
def PSs (X : Cx) (st : List Stmt) (t : TS) : Prop :=
  ∀ (pins : List (Addr × Obj)) (s : Shared) (σ : St) (H : Hp) (D : Ends), Inv X pins σ H s → t D σ H → wpAny (model X.prog X.w) X.A (execs st X.env) (SP X pins D) X.xe s
theorem thn {α : Type} {t : Sem α} {Q Q' : α → Shared → Prop} {M : Model} {A : Around} {E : Value → Shared → Prop} {s : Shared} (h : wpAny M A t Q E s) (hQ : ∀ a s, Q a s → Q' a s) : wpAny M A t Q' E s := wpAny_mono h hQ fun _ _ x => x
end L2
namespace L2
open PySem PySem.Spec PyProof.Rows
section
variable {X : Cx}
def tVar (i : Nat) : TE := fun σ H Q => ∃ v, σ[i]? = some (some v) ∧ Q v H
def tC (v : V) : TE := fun _ H Q => Q v H
theorem pe_var {i : Nat} {x : Str} {pos : Pos} (hN : X.N[i]? = some x) (hv : Vis X.env.scope x) (hd : (x == ("__debug__" : Str)) = false := by decide) (hcd : (x == ("__classdict__" : Str)) = false := by decide) : PE X (.Name x pos) (tVar i) := by
  intro pins s σ H Q I h
  obtain ⟨v, e, h⟩ := h
  obtain ⟨m, hn, hl⟩ := I.loc
  obtain ⟨u, r, l⟩ := hl i x v hN e hv
  have fin : EP X pins σ Q u s := ⟨v, H, I, r, h⟩
  rcases l with ⟨hk, hm⟩ | ⟨hk, c, hc, hcell⟩
  · exact wpAny_Name (wpAny_loadName_local I.ok.kind hk hn hm fin) hd
  · rcases hk with hk | hk
    · exact wpAny_Name (wpAny_loadName_cell I.ok.kind hk hc hcell fin) hd
    · exact wpAny_Name (wpAny_loadName_free I.ok.kind hk hc hcell fin hcd) hd
theorem pe_int {i j pos} : PE X (.Constant (.int i) j pos) (tC (.int i)) := fun _ _ _ H _ I h => wpAny_Constant_int ⟨.int i, H, I.tok _, ⟨_, rfl⟩, h⟩
theorem pe_bl {b j pos} : PE X (.Constant (.bool b) j pos) (tC (.bl b)) := fun _ _ _ H _ I h => Constant_bool ⟨.bl b, H, I, rfl, h⟩
theorem pe_non {j pos} : PE X (.Constant .none j pos) (tC .non) := fun _ _ _ H _ I h => Constant_none ⟨.non, H, I, rfl, h⟩
theorem pe_str {x j pos} : PE X (.Constant (.str x) j pos) (tC (.str x)) := fun _ _ _ H _ I h => Calls.Constant_str ⟨.str x, H, I.tok _, ⟨_, rfl⟩, h⟩
def Gl (X : Cx) (x : Str) : Prop := X.env.kindOf x = some .globalImplicit
theorem ld_glob {E : Value → Shared → Prop} {pins : List (Addr × Obj)} {s : Shared} {σ : St} {H : Hp} {x : Str} {u : Value} {pos : Pos} {Q : Value → Shared → Prop} (I : Inv X pins σ H s) (hg : Gl X x) (hm : X.mg x = some u) (h : Q u s)
    (hd : (x == ("__debug__" : Str)) = false := by decide) : wpAny (model X.prog X.w) X.A (eval (.Name x pos) X.env) Q E s :=
  Calls.Name_function_global I.ok.kind hg (Calls.loadGlobal_global (by rw [I.ok.glob]; exact I.mod.glob.keeps I.bk) hm h) hd
theorem ld_blt {E : Value → Shared → Prop} {pins : List (Addr × Obj)} {s : Shared} {σ : St} {H : Hp} {x : Str} {u : Value} {pos : Pos} {Q : Value → Shared → Prop} (I : Inv X pins σ H s) (hg : Gl X x) (hm : X.mg x = none) (hv : bootBuiltins x = some u) (h : Q u s)
    (hn : x ≠ "__name__" := by decide) (hd : (x == ("__debug__" : Str)) = false := by decide) : wpAny (model X.prog X.w) X.A (eval (.Name x pos) X.env) Q E s := by
  obtain ⟨mb, h1, h2⟩ := I.mod.blt
  exact Calls.Name_function_global I.ok.kind hg (Calls.loadGlobal_builtin (by rw [I.ok.glob]; exact I.mod.glob.keeps I.bk) hm (by rw [I.ok.blt]; exact h1.keeps I.bk) ((h2 x hn).trans hv) h) hd
theorem pe_glob {x : Str} {v : V} {u : Value} {pos : Pos} (hg : Gl X x) (hm : X.mg x = some u) (r : RelV v u) (hd : (x == ("__debug__" : Str)) = false := by decide) : PE X (.Name x pos) (tC v) :=
  fun _ _ _ H _ I h => ld_glob I hg hm ⟨v, H, I, r, h⟩ hd
theorem pe_bltn {x : Str} {v : V} {u : Value} {pos : Pos} (hg : Gl X x) (hm : X.mg x = none) (hv : bootBuiltins x = some u) (r : RelV v u) (hn : x ≠ "__name__" := by decide) (hd : (x == ("__debug__" : Str)) = false := by decide) : PE X (.Name x pos) (tC v) :=
  fun _ _ _ H _ I h => ld_blt I hg hm hv ⟨v, H, I, r, h⟩ hn hd
variable {a b : Expr} {ta tb : TE} {pos : Pos}
def tB (t : TE) : TT := fun σ H Q => t σ H fun x H1 => ∃ c, x = .bl c ∧ Q c H1
theorem pt_val {e : Expr} {t : TE} (h : PE X e t) (he : ∀ whole, isTrue e X.env whole = (do let v ← whole; standAt e.pos; holding [v] (truthy v)) := by intro _; rfl) : PT X e (tB t) := by
  intro pins s σ H Q I hw
  refine isTrue_plain (thn (h pins s σ H _ I hw) fun v s1 ⟨x, H1, I1, r1, q1⟩ => ?_) (he _)
  obtain ⟨d, rfl, q⟩ := q1
  cases r1
  exact wpAny_truthy_bool ⟨H1, I1, q⟩
variable {tA tB' : TT} {rest : List Expr}
def tAnd (t u : TT) : TT := fun σ H Q => t σ H fun c H1 => if c = true then u σ H1 Q else Q false H1
def tOr (t u : TT) : TT := fun σ H Q => t σ H fun c H1 => if c = true then Q true H1 else u σ H1 Q
def tNot (t : TT) : TT := fun σ H Q => t σ H fun c H1 => Q (!c) H1
theorem pw_and1 (ha : PT X a tA) : PW X (.BoolOp .And [a] pos) tA := by
  intro wh pins s σ H Q I h
  refine isTrue_and (thn (ha pins s σ H Q I h) fun c s1 e => ?_)
  cases c with
  | true => exact isTrue_and_nil e
  | false => exact e
theorem pw_or1 (ha : PT X a tA) : PW X (.BoolOp .Or [a] pos) tA := by
  intro wh pins s σ H Q I h
  refine isTrue_or (thn (ha pins s σ H Q I h) fun c s1 e => ?_)
  cases c with
  | false => exact isTrue_or_nil e
  | true => exact e
theorem pw_and (ha : PT X a tA) (hb : PW X (.BoolOp .And (b :: rest) pos) tB') : PW X (.BoolOp .And (a :: b :: rest) pos) (tAnd tA tB') := by
  intro wh pins s σ H Q I h
  refine isTrue_and (thn (ha pins s σ H _ I h) fun c s1 ⟨H1, I1, q1⟩ => ?_)
  cases c with
  | true => exact hb wh pins s1 σ H1 Q I1 q1
  | false => exact ⟨H1, I1, q1⟩
theorem pw_or (ha : PT X a tA) (hb : PW X (.BoolOp .Or (b :: rest) pos) tB') : PW X (.BoolOp .Or (a :: b :: rest) pos) (tOr tA tB') := by
  intro wh pins s σ H Q I h
  refine isTrue_or (thn (ha pins s σ H _ I h) fun c s1 ⟨H1, I1, q1⟩ => ?_)
  cases c with
  | true => exact ⟨H1, I1, q1⟩
  | false => exact hb wh pins s1 σ H1 Q I1 q1
theorem pt_not (ha : PT X a tA) : PT X (.UnaryOp .Not a pos) (tNot tA) := by
  intro pins s σ H Q I h
  exact isTrue_not (ha pins s σ H (fun c H1 => Q (!c) H1) I h)
def tAndV (ta tb : TE) : TE := fun σ H Q => ta σ H fun x H1 => ∃ c, x = .bl c ∧ if c = true then tb σ H1 Q else Q (.bl false) H1
def tOrV (ta tb : TE) : TE := fun σ H Q => ta σ H fun x H1 => ∃ c, x = .bl c ∧ if c = true then Q (.bl true) H1 else tb σ H1 Q
def tNotV (ta : TE) : TE := fun σ H Q => ta σ H fun x H1 => ∃ c, x = .bl c ∧ Q (.bl (!c)) H1
theorem pe_one {op} {t : TE} (h : PE X a t) : PE X (.BoolOp op [a] pos) t := fun pins s σ H Q I hw => BoolOp_one (h pins s σ H Q I hw)
theorem pe_and (ha : PE X a ta) (hb : PE X (.BoolOp .And (b :: rest) pos) tb) : PE X (.BoolOp .And (a :: b :: rest) pos) (tAndV ta tb) := by
  intro pins s σ H Q I h
  refine BoolOp_and (thn (ha pins s σ H _ I h) fun v s1 ⟨x, H1, I1, r1, q1⟩ => ?_)
  obtain ⟨c, rfl, q1⟩ := q1
  cases r1
  refine wpAny_truthy_bool ?_
  cases c with
  | true => exact hb pins s1 σ H1 Q I1 q1
  | false => exact ⟨.bl false, H1, I1, rfl, q1⟩
theorem pe_not (ha : PE X a ta) : PE X (.UnaryOp .Not a pos) (tNotV ta) := by
  intro pins s σ H Q I h
  refine UnaryOp_ (thn (ha pins s σ H _ I h) fun v s1 ⟨x, H1, I1, r1, q1⟩ => ?_)
  obtain ⟨c, rfl, q1⟩ := q1
  cases r1
  exact not_of (wpAny_truthy_bool ⟨.bl (!c), H1, I1, rfl, q1⟩)
def tIf (t : TT) (ta tb : TE) : TE := fun σ H Q => t σ H fun c H1 => if c = true then ta σ H1 Q else tb σ H1 Q
theorem pe_ifExp {c : Expr} (hc : PT X c tA) (ha : PE X a ta) (hb : PE X b tb) : PE X (.IfExp c a b pos) (tIf tA ta tb) := by
  intro pins s σ H Q I h
  refine wpAny_IfExp (thn (hc pins s σ H _ I h) fun d s1 ⟨H1, I1, q1⟩ => ?_)
  cases d with
  | true => exact ha pins s1 σ H1 Q I1 q1
  | false => exact hb pins s1 σ H1 Q I1 q1
end
end L2
namespace L2
open PySem PySem.Spec PyProof.Rows
def SqL (K : PySem.W.Frag) (H : Hp) (a : Addr) (xs : List V) : Prop :=
  Rd H a (.lst xs) ∨
    ∃ (o : Obj) (its : Array Value) (n : Nat), K.lookup a = some o ∧ o.cls = .type "list" ∧ o.dict = none ∧ o.data = .seq its n ∧ its.size ≤ sizeLine ∧ Vals xs its.toList
def SqT (K : PySem.W.Frag) (H : Hp) (a : Addr) (xs : List V) : Prop :=
  Rd H a (.tup xs) ∨
    ∃ (o : Obj) (its : Array Value) (n : Nat), K.lookup a = some o ∧ o.cls = .type "tuple" ∧ o.data = .seq its n ∧ its.size ≤ sizeLine ∧ Vals xs its.toList
def absV : Value → Option V
  | .none => some .non
  | .bool b => some (.bl b)
  | .int i _ => some (.int i)
  | .str x _ => some (.str x)
  | .bytes b _ => some (.byt b)
  | .float b _ => some (.flt b)
  | .ref a => some (.ref a)
  | .type n => some (.ty n)
  | _ => none
theorem RelV.abs {x : V} {u : Value} (r : RelV x u) : absV u = some x := by
  cases x with
  | non => cases r; rfl
  | bl _ => cases r; rfl
  | int _ => obtain ⟨t, rfl⟩ := r; rfl
  | str _ => obtain ⟨t, rfl⟩ := r; rfl
  | byt _ => obtain ⟨t, rfl⟩ := r; rfl
  | flt _ => obtain ⟨t, rfl⟩ := r; rfl
  | ref _ => cases r; rfl
  | ty _ => cases r; rfl
theorem RelV.inj {x y : V} {u : Value} (r : RelV x u) (q : RelV y u) : x = y := Option.some.inj (r.abs.symm.trans q.abs)
theorem Vals.inj : ∀ {xs ys : List V} {us : List Value}, Vals xs us → Vals ys us → xs = ys
  | _, _, _, .nil, .nil => rfl
  | _, _, _, .cons r t, .cons r' t' => by rw [r.inj r', Vals.inj t t']
section
variable {X : Cx} {pins : List (Addr × Obj)} {σ : St} {H : Hp} {s : Shared} {a : Addr} {xs ys : List V}
theorem SqL.of {K : PySem.W.Frag} (h : H a = some (.lst xs)) : SqL K H a xs := .inl (.inl h)
theorem SqT.of {K : PySem.W.Frag} (h : H a = some (.tup xs)) : SqT K H a xs := .inl (.inl h)
theorem Inv.list (I : Inv X pins σ H s) (h : SqL X.K H a xs) : ∃ its : List Value, Vals xs its ∧ PlainL s.heap a its.toArray ∧ xs.length ≤ sizeLine := by
  rcases h with h | ⟨o, its, n, hk, hc, hd, hs, hz, r⟩
  · obtain ⟨z, its, n, r, e⟩ := h.ok I.hok
    exact ⟨its, r, ⟨_, n, e, rfl, rfl, rfl⟩, z⟩
  · refine ⟨its.toList, r, ⟨o, n, I.kIn a o hk, hc, hd, by simpa using hs⟩, ?_⟩
    have e := r.length
    simp only [Array.length_toList] at e
    omega
theorem Inv.tuple (I : Inv X pins σ H s) (h : SqT X.K H a xs) : ∃ its : List Value, Vals xs its ∧ IsTup s.heap a its.toArray ∧ xs.length ≤ sizeLine := by
  rcases h with h | ⟨o, its, n, hk, hc, hs, hz, r⟩
  · obtain ⟨z, its, r, p⟩ := h.ok I.hok
    exact ⟨its, r, p, z⟩
  · refine ⟨its.toList, r, ⟨o, I.kIn a o hk, hc, n, by simpa using hs⟩, ?_⟩
    have e := r.length
    simp only [Array.length_toList] at e
    omega
theorem Inv.list_inj (I : Inv X pins σ H s) (h : SqL X.K H a xs) (h' : SqL X.K H a ys) : xs = ys := by
  obtain ⟨its, r, ⟨o, n, e, _, _, d⟩, _⟩ := I.list h
  obtain ⟨its', r', ⟨o', n', e', _, _, d'⟩, _⟩ := I.list h'
  rw [e] at e'; cases e'
  rw [d] at d'
  injection d' with d1 _
  have : its = its' := by simpa using congrArg Array.toList d1
  subst this
  exact r.inj r'
theorem Inv.tuple_inj (I : Inv X pins σ H s) (h : SqT X.K H a xs) (h' : SqT X.K H a ys) : xs = ys := by
  obtain ⟨its, r, ⟨o, e, _, n, d⟩, _⟩ := I.tuple h
  obtain ⟨its', r', ⟨o', e', _, n', d'⟩, _⟩ := I.tuple h'
  rw [e] at e'; cases e'
  rw [d] at d'
  injection d' with d1 _
  have : its = its' := by simpa using congrArg Array.toList d1
  subst this
  exact r.inj r'
end
abbrev Cx.wish (X : Cx) (E : Value → Shared → Prop) : Cx := { X with xe := E }
abbrev Cx.nox (X : Cx) : Cx := X.wish fun _ _ => False
theorem Cx.Ok.wish {X : Cx} (ok : X.Ok) (E : Value → Shared → Prop) : (X.wish E).Ok :=
  ⟨ok.mod, ok.kind, ok.glob, ok.blt, ok.above, ok.inj, ok.has, ok.cab, ok.hd, ok.frames, ok.stk, ok.exf, ok.bs, ok.bsz, ok.noex, ok.exfs, ok.funs, ok.frf⟩
theorem Cx.Ok.unwish {X : Cx} {E : Value → Shared → Prop} (ok : (X.wish E).Ok) : X.Ok :=
  ⟨ok.mod, ok.kind, ok.glob, ok.blt, ok.above, ok.inj, ok.has, ok.cab, ok.hd, ok.frames, ok.stk, ok.exf, ok.bs, ok.bsz, ok.noex, ok.exfs, ok.funs, ok.frf⟩
section
variable {X : Cx} {pins : List (Addr × Obj)} {σ : St} {H : Hp} {s : Shared} {E : Value → Shared → Prop}
theorem Inv.wish (I : Inv X pins σ H s) (E : Value → Shared → Prop) : Inv (X.wish E) pins σ H s := ⟨I.ok.wish E, I.os, I.bare, I.base, I.loc, I.cell, I.free, I.freeC, I.pin, I.hok, I.len⟩
theorem Inv.unwish (I : Inv (X.wish E) pins σ H s) : Inv X pins σ H s := ⟨I.ok.unwish, I.os, I.bare, I.base, I.loc, I.cell, I.free, I.freeC, I.pin, I.hok, I.len⟩
theorem SP.unwish {D : Ends} {f : Flow} {s' : Shared} (h : SP (X.wish E) pins D f s') : SP X pins D f s' := by
  cases f with
  | next => obtain ⟨σ', H', I, q⟩ := h; exact ⟨σ', H', I.unwish, q⟩
  | brk => obtain ⟨σ', H', I, q⟩ := h; exact ⟨σ', H', I.unwish, q⟩
  | cont => obtain ⟨σ', H', I, q⟩ := h; exact ⟨σ', H', I.unwish, q⟩
  | ret u => obtain ⟨v, σ', H', I, r, q⟩ := h; exact ⟨v, σ', H', I.unwish, r, q⟩
theorem PE.nox {e : Expr} {t : TE} (h : PE X.nox e t) : PE X e t := fun pins s σ H Q I hw =>
  wpAny_mono (h pins s σ H Q (I.wish _) hw) (fun _ _ ⟨v, H', I', r, q⟩ => ⟨v, H', I'.unwish, r, q⟩) fun _ _ z => False.elim z
theorem PT.nox {e : Expr} {t : TT} (h : PT X.nox e t) : PT X e t := fun pins s σ H Q I hw =>
  wpAny_mono (h pins s σ H Q (I.wish _) hw) (fun _ _ ⟨H', I', q⟩ => ⟨H', I'.unwish, q⟩) fun _ _ z => False.elim z
theorem PSs.nox {st : List Stmt} {t : TS} (h : PSs X.nox st t) : PSs X st t := fun pins s σ H D I hw =>
  wpAny_mono (h pins s σ H D (I.wish _) hw) (fun _ _ q => q.unwish) fun _ _ z => False.elim z
end
section
variable {X : Cx} {st : Stmt} {rest : List Stmt} {t u : TS} {e : Expr} {te : TE} {pos : Pos}
def tNext : TS := fun D σ H => D.nx σ H
def tSeq (t u : TS) : TS := fun D σ H => t { D with nx := u D } σ H
theorem pss_nil : PSs X [] tNext := fun _ _ σ H _ I h => wpAny_execs_nil ⟨σ, H, I, h⟩
theorem pss_cons (h1 : PS X st t) (h2 : PSs X rest u) : PSs X (st :: rest) (tSeq t u) := by
  intro pins s σ H D I h
  refine wpAny_execs_cons (thn (h1 pins s σ H { D with nx := u D } I h) fun f s1 q => ?_)
  cases f with
  | next =>
    obtain ⟨σ', H', I', q⟩ := q
    exact h2 pins s1 σ' H' D I' q
  | ret v => exact q
  | brk => exact q
  | cont => exact q
theorem pss_one (h1 : PS X st t) : PSs X [st] t := by
  intro pins s σ H D I h
  refine wpAny_execs_cons (thn (h1 pins s σ H D I h) fun f s1 q => ?_)
  cases f with
  | next => exact wpAny_execs_nil q
  | ret v => exact q
  | brk => exact q
  | cont => exact q
theorem Inv.quiet {pins : List (Addr × Obj)} {σ : St} {H : Hp} {s : Shared} (I : Inv X pins σ H s) : interactive X.env = false := by simp [interactive, I.ok.kind]
def tDrop (te : TE) : TS := fun D σ H => te σ H fun _ H1 => D.nx σ H1
theorem ps_expr (he : PE X e te) (hs : swapsWith e none pos.line X.env = pure false := by rfl) : PS X (.Expr e pos) (tDrop te) := by
  intro pins s σ H D I h
  exact wpAny_Expr_any (thn (he pins s σ H _ I h) fun v s1 ⟨x, H1, I1, r1, q1⟩ => ⟨σ, H1, I1, q1⟩) I.quiet hs
def tRet (te : TE) : TS := fun D σ H => te σ H D.rt
theorem ps_ret (he : PE X e te) : PS X (.Return (some e) pos) (tRet te) := by
  intro pins s σ H D I h
  exact wpAny_Return_some (thn (he pins s σ H _ I h) fun v s1 ⟨x, H1, I1, r1, q1⟩ => ⟨x, σ, H1, I1, r1, q1⟩)
def tRetN : TS := fun D _ H => D.rt .non H
def tIfS (c : TT) (t u : TS) : TS := fun D σ H => c σ H fun b H1 => if b = true then t D σ H1 else u D σ H1
theorem ps_if {c : Expr} {a b : List Stmt} {tc : TT} (hc : PT X c tc) (ha : PSs X a t) (hb : PSs X b u) : PS X (.If c a b pos) (tIfS tc t u) := by
  intro pins s σ H D I h
  refine wpAny_If (thn (hc pins s σ H _ I h) fun d s1 ⟨H1, I1, q1⟩ => ?_)
  cases d with
  | true => exact ha pins s1 σ H1 D I1 q1
  | false => exact hb pins s1 σ H1 D I1 q1
def tNever : TS := fun _ _ _ => False
theorem ps_never : PS X st tNever := fun _ _ _ _ _ _ h => h.elim
end
abbrev TG := V → St → Hp → (St → Hp → Prop) → Prop
abbrev TGs := List V → St → Hp → (St → Hp → Prop) → Prop
def PG (X : Cx) (target : Expr) (t : TG) : Prop :=
  ∀ (pins : List (Addr × Obj)) (s : Shared) (σ : St) (H : Hp) (v : V) (u : Value) (Q : St → Hp → Prop), Inv X pins σ H s → RelV v u → t v σ H Q →
    wpAny (model X.prog X.w) X.A (assign target X.env u) (fun _ s' => ∃ σ' H', Inv X pins σ' H' s' ∧ Q σ' H') X.xe s
def PGs (X : Cx) (ts : List Expr) (t : TGs) : Prop :=
  ∀ (pins : List (Addr × Obj)) (s : Shared) (σ : St) (H : Hp) (vs : List V) (us : List Value) (Q : St → Hp → Prop), Inv X pins σ H s → Vals vs us → t vs σ H Q →
    wpAny (model X.prog X.w) X.A (assignInOrder ((assignEach ts X.env).map (·.2)) us) (fun _ s' => ∃ σ' H', Inv X pins σ' H' s' ∧ Q σ' H') X.xe s
abbrev TSet := V → V → V → Hp → (Hp → Prop) → Prop
abbrev TIp := V → V → Hp → VK → Prop
section
variable {X : Cx} {pos : Pos}
def gName (i : Nat) : TG := fun v σ H Q => Q (σ.set i (some v)) H
theorem pg_name {i : Nat} {x : Str} (hN : X.N.Nodup) (hi : X.N[i]? = some x) (hx : Loc X.env.scope x) (hf : X.fn x = true ∨ X.env.scope.names.lookup x = some .local := by first | exact .inl rfl | exact .inr rfl | assumption) : PG X (.Name x pos) (gName i) := by
  intro pins s σ H v u Q I r h
  exact wpAny_assign_Name (store_ok I hN hi hx r (fun s' I' => ⟨_, H, I', h⟩) hf)
def gNil : TGs := fun vs σ H Q => vs = [] ∧ Q σ H
def gCons (t : TG) (u : TGs) : TGs := fun vs σ H Q => ∃ v r, vs = v :: r ∧ t v σ H fun σ' H' => u r σ' H' Q
theorem pgs_nil : PGs X [] gNil := by
  intro pins s σ H vs us Q I r h
  obtain ⟨e, h⟩ := h
  subst e
  cases r
  exact assignInOrder_nil ⟨σ, H, I, h⟩
theorem pgs_cons {e : Expr} {es : List Expr} {t : TG} {u : TGs} (h1 : PG X e t) (h2 : PGs X es u)
    (hs : (assignEach (e :: es) X.env).map (·.2) = assign e X.env :: (assignEach es X.env).map (·.2) := by rfl) : PGs X (e :: es) (gCons t u) := by
  intro pins s σ H vs us Q I r h
  obtain ⟨v, vr, e1, h⟩ := h
  subst e1
  cases r with
  | cons r rr =>
    rw [hs]
    refine assignInOrder_cons (thn (h1 pins s σ H _ _ _ I r h) fun _ s1 ⟨σ1, H1, I1, q1⟩ => ?_)
    exact h2 pins s1 σ1 H1 _ _ Q I1 rr q1
def gTup (K : PySem.W.Frag) (n : Nat) (t : TGs) : TG := fun v σ H Q => ∃ a xs, v = .ref a ∧ SqT K H a xs ∧ xs.length = n ∧ t xs σ H Q
theorem pg_tup {es : List Expr} {k : Nat} {t : TGs} {n : Nat} (hc : X.calm = true) (h : PGs X es t)
    (hn : (assignEach es X.env).length = n := by rfl) (hst : (assignEach es X.env).findIdx? (·.1) = none := by rfl) : PG X (.Tuple es k pos) (gTup X.K n t) := by
  intro pins s σ H v u Q I r hw
  obtain ⟨a, xs, e1, hq, hl, hw⟩ := hw
  subst e1
  cases r
  obtain ⟨its, rv, ht, hz⟩ := I.tuple hq
  refine assign_Tuple_tuple (I.ok.hd hc) ht (by simp [hn, ← hl, rv.length]) hst fun h' hx => ?_
  have I1 : Inv X pins σ H { s with heap := h' } := I.kept (t' := s.toks) fun b o e => hx b o (Nat.ne_of_lt (Heap.lt_size e)) e
  exact h pins _ σ H xs _ Q I1 (by simpa using rv) hw
def gSub (to ti : TE) (t : TSet) : TG := fun v σ H Q => to σ H fun o H1 => ti σ H1 fun i H2 => t o i v H2 fun H3 => Q σ H3
def tAsg (te : TE) (g : TG) : TS := fun D σ H => te σ H fun x H1 => g x σ H1 D.nx
theorem ps_asg {tg e : Expr} {te : TE} {g : TG} (he : PE X e te) (hg : PG X tg g) (hs : swapsWithSole [tg] e pos.line X.env = pure false := by rfl) (hw : swappedStores [tg] e X.env = pure none := by rfl)
    (h1 : (assignEach [tg] X.env).map (·.2) = [assign tg X.env] := by rfl) : PS X (.Assign [tg] e pos) (tAsg te g) := by
  intro pins s σ H D I h
  refine wpAny_Assign_stores (thn (he pins s σ H _ I h) fun v s1 ⟨x, H1, I1, r1, q1⟩ => ?_) hs hw
  rw [h1]
  exact thn (hg pins s1 σ H1 x v _ I1 r1 q1) fun _ s2 q => q
theorem ps_set {i : Nat} {x : Str} {e : Expr} {te : TE} {pos' : Pos} (hN : X.N.Nodup) (hi : X.N[i]? = some x) (hx : Loc X.env.scope x) (he : PE X e te) (hs : swapsWith e (some (.Name x pos')) pos.line X.env = pure false := by rfl) (hf : X.fn x = true ∨ X.env.scope.names.lookup x = some .local := by first | exact .inl rfl | exact .inr rfl | assumption) :
    PS X (.Assign [.Name x pos'] e pos) (tAsg te (gName i)) := by
  intro pins s σ H D I h
  refine wpAny_Assign_Name (thn (he pins s σ H _ I h) fun v s1 ⟨y, H1, I1, r1, q1⟩ => ?_) hs
  exact store_ok I1 hN hi hx r1 (fun s2 I2 => ⟨_, H1, I2, q1⟩) hf
def tAug (i : Nat) (te : TE) (ti : TIp) : TS := fun D σ H => ∃ x, σ[i]? = some (some x) ∧ te σ H fun y H1 => ti x y H1 fun z H2 => D.nx (σ.set i (some z)) H2
def ipI (f : Int → Int → Int) : TIp := fun x y H Q => ∃ i j, x = .int i ∧ y = .int j ∧ Q (.int (f i j)) H
end
section
variable {X : Cx} {pos : Pos}
def tWhile (c : TT) (tb : TS) : TS := fun D σ H => ∃ W : Nat → St → Hp → Prop, (∃ m, W m σ H) ∧ ∀ m σ H, W m σ H →
  c σ H fun b H1 => if b = true then ∃ N : St → Hp → Prop, (∀ σ' H', N σ' H' → ∃ m', m' < m ∧ W m' σ' H') ∧ tb { D with nx := N, ct := N, bk := D.nx } σ H1 else D.nx σ H1
end
structure It where
  go : Nat → Hp → Prop
  yld : Nat → Hp → V → Hp → Prop
  stop : Nat → Hp → Prop
def FpOk (X : Cx) (pins : List (Addr × Obj)) (H : Hp) (b : Addr) : Prop :=
  H b = none ∧ b ≠ X.env.locals ∧ b ∉ X.fs ∧ (b ∈ X.ex ∨ X.s₀.heap.objs.size ≤ b) ∧ (∀ x c, X.env.cells.lookup x = some c → c ≠ b) ∧ ∀ p ∈ X.pn ++ pins, p.1 ≠ b
theorem Inv.fpOk {X : Cx} {pins : List (Addr × Obj)} {σ : St} {H H' : Hp} {s : Shared} {b : Addr} (I : Inv X pins σ H s) (hb : s.heap.objs.size ≤ b) (hn : H' b = none) : FpOk X pins H' b := by
  refine ⟨hn, Nat.ne_of_gt (Nat.lt_of_lt_of_le I.lt hb), I.nofs hb, .inr (Nat.le_trans I.sz hb), fun x c e z => ?_, fun p hp z => ?_⟩
  · obtain ⟨v, q⟩ := I.cell x c e
    exact absurd (Nat.lt_of_lt_of_le q.lt (by rw [z]; exact hb)) (Nat.lt_irrefl _)
  · exact absurd (Nat.lt_of_lt_of_le (Heap.lt_size (I.pin p hp).1) (by rw [z]; exact hb)) (Nat.lt_irrefl _)
structure Turn (P : Program) (w : World) (K : PySem.W.Frag) (tg : Expr) (J : It) (fp : List Addr) (it : Addr) (tn : Nat → Heap → Prop) : Prop where
  mem : it ∈ fp
  obj : ∀ i h, tn i h → ∀ b ∈ fp, ∃ o, h.get? b = some o ∧ ∀ v, o.data ≠ .cell v
  keep : ∀ i h h', tn i h → (∀ b ∈ fp, ∀ o, h.get? b = some o → h'.get? b = some o) → tn i h'
  item : ∀ (X : Cx), X.prog = P → X.w = w → X.K = K → X.calm = true → ∀ (i : Nat) (pins : List (Addr × Obj)) (s : Shared) (σ : St) (H : Hp) (E : Value → Shared → Prop), Inv X pins σ H s → (∀ b ∈ fp, FpOk X pins H b) → tn i s.heap → J.go i H →
    wpAny (model P w) X.A (pyNext (.ref it)) (fun r s1 => ∃ u, r = some u ∧
      wpAny (model P w) X.A (letOwnedTupleGo tg (.ref it) u) (fun _ s2 => ∃ x H', Inv X pins σ H' s2 ∧ RelV x u ∧ J.yld i H x H' ∧ tn (i + 1) s2.heap ∧ ∀ b ∈ fp, H' b = none) E s1) E s
  done : ∀ (X : Cx), X.prog = P → X.w = w → X.K = K → X.calm = true → ∀ (i : Nat) (pins : List (Addr × Obj)) (s : Shared) (σ : St) (H : Hp) (E : Value → Shared → Prop), Inv X pins σ H s → (∀ b ∈ fp, FpOk X pins H b) → tn i s.heap → J.stop i H →
    wpAny (model P w) X.A (pyNext (.ref it)) (fun r s1 => r = none ∧ Inv X pins σ H s1) E s
  self : ∀ (A : Around) (i : Nat) (s : Shared) (Q : Value → Shared → Prop) (E : Value → Shared → Prop), tn i s.heap → Q (.ref it) s → wpAny (model P w) A (pyIter (.ref it)) Q E s
abbrev TI := St → Hp → (It → Hp → Prop) → Prop
def PIE (X : Cx) (pins : List (Addr × Obj)) (σ : St) (tg : Expr) (R : It → Hp → Prop) (itv : Value) (s2 : Shared) : Prop :=
  ∃ (it : Addr) (fp : List Addr) (tn : Nat → Heap → Prop) (J : It) (H' : Hp), itv = .ref it ∧ Inv X pins σ H' s2 ∧ Turn X.prog X.w X.K tg J fp it tn ∧ tn 0 s2.heap ∧ (∀ b ∈ fp, FpOk X pins H' b) ∧ R J H'
def PI (X : Cx) (tg iter : Expr) (wi : TI) : Prop :=
  ∀ (pins : List (Addr × Obj)) (s : Shared) (σ : St) (H : Hp) (R : It → Hp → Prop), Inv X pins σ H s → wi σ H R →
    wpAny (model X.prog X.w) X.A (eval iter X.env) (fun v s1 => wpAny (model X.prog X.w) X.A (pyIter v) (PIE X pins σ tg R) X.xe s1) X.xe s
theorem go_of {M : Model} {A : Around} {E : Value → Shared → Prop} {s : Shared} {tg : Expr} {it : Addr} {u : Value} {o : Obj} {n : String} {vs : Array Value} {Q : Unit → Shared → Prop} (ho : s.heap.get? it = some o) (hc : o.cls = .type n) (hd : o.data = .fields vs)
    (hn : ["enumerate", "zip", "dict_itemiterator", "dict_reverseitemiterator", "odict_iterator", "itertools.zip_longest", "itertools.pairwise"].contains n = false) (hQ : Q () s) : wpAny M A (letOwnedTupleGo tg (.ref it) u) Q E s := by
  unfold letOwnedTupleGo
  cases tg <;> first
    | exact wpAny_pure hQ
    | (cases u <;> first
        | exact wpAny_pure hQ
        | (refine wpAny_bind (wpAny_load ho ?_)
           rw [hc, hd]
           show wpAny M A (if (["enumerate", "zip", "dict_itemiterator", "dict_reverseitemiterator", "odict_iterator", "itertools.zip_longest", "itertools.pairwise"].contains n && vs[0]? == some (rawInt _)) = true then _ else _) Q E s
           rw [if_neg (by intro h; rw [hn, Bool.false_and] at h; cases h)]
           exact wpAny_pure hQ))
def Itl (K : PySem.W.Frag) (a : Addr) : It :=
  ⟨fun i H => ∃ xs x, SqL K H a xs ∧ xs[i]? = some x, fun i H x H' => H' = H ∧ ∀ xs, SqL K H a xs → xs[i]? = some x, fun i H => ∃ xs, SqL K H a xs ∧ xs.length ≤ i⟩
def Itt (K : PySem.W.Frag) (a : Addr) : It :=
  ⟨fun i H => ∃ xs x, SqT K H a xs ∧ xs[i]? = some x, fun i H x H' => H' = H ∧ ∀ xs, SqT K H a xs → xs[i]? = some x, fun i H => ∃ xs, SqT K H a xs ∧ xs.length ≤ i⟩
def Itr (lo : Int) (n : Nat) : It := ⟨fun i _ => i < n, fun i H x H' => H' = H ∧ x = .int (lo + i), fun i _ => n ≤ i⟩
theorem turn_list {P : Program} {w : World} {K : PySem.W.Frag} {tg : Expr} (a it : Addr) : Turn P w K tg (Itl K a) [it] it (fun i h => h.IsListIter it a i) where
  mem := by simp
  obj := fun i h st b hb => by
    have e : b = it := by simpa using hb
    subst e
    obtain ⟨o, e, c, d⟩ := st
    exact ⟨o, e, fun v z => by rw [d] at z; cases z⟩
  keep := fun i h h' st k => st.at fun o e => k it (by simp) o e
  item := by
    intro X hP hw hK hc i pins s σ H E I hf st hg
    subst hP hw hK
    obtain ⟨xs, x, hq, hx⟩ := hg
    obtain ⟨its, rv, p, hz⟩ := I.list hq
    obtain ⟨u, hu, ru⟩ := rv.get hx
    obtain ⟨f0, f1, f2, f3, f4, f5⟩ := hf it (by simp)
    refine wpAny_pyNext_list_item st p.isList (x := u) (by simpa using hu) fun h' st' sb => ?_
    have I1 : Inv X pins σ H { s with heap := h' } := I.turned (t' := s.toks) (fun b o hb e => (sb.2 b hb).trans e) f0 f1 f3 f4 f5
    obtain ⟨o, e, c, d⟩ := id st'
    exact ⟨u, rfl, go_of (s := { s with heap := h' }) e c d (by decide) ⟨x, H, I1, ru, ⟨rfl, fun ys hy => by rw [I.list_inj hy hq]; exact hx⟩, st', fun b hb => (hf b hb).1⟩⟩
  done := by
    intro X hP hw hK hc i pins s σ H E I hf st hg
    subst hP hw hK
    obtain ⟨xs, hq, hx⟩ := hg
    obtain ⟨its, rv, p, hz⟩ := I.list hq
    obtain ⟨f0, f1, f2, f3, f4, f5⟩ := hf it (by simp)
    have hl := rv.length
    exact wpAny_pyNext_list_end (I.ok.hd hc) st p.isList (by simp; omega) fun h' eb => ⟨rfl, I.turned (t' := s.toks) (fun b o hb e => eb b o hb e) f0 f1 f3 f4 f5⟩
  self := fun _ _ _ _ _ st h => wpAny_pyIter_listiter st h
theorem turn_tuple {P : Program} {w : World} {K : PySem.W.Frag} {tg : Expr} (a it : Addr) : Turn P w K tg (Itt K a) [it] it (fun i h => h.IsTupleIter it a i) where
  mem := by simp
  obj := fun i h st b hb => by
    have e : b = it := by simpa using hb
    subst e
    obtain ⟨o, e, c, d⟩ := st
    exact ⟨o, e, fun v z => by rw [d] at z; cases z⟩
  keep := fun i h h' st k => st.at fun o e => k it (by simp) o e
  item := by
    intro X hP hw hK hc i pins s σ H E I hf st hg
    subst hP hw hK
    obtain ⟨xs, x, hq, hx⟩ := hg
    obtain ⟨its, rv, p, hz⟩ := I.tuple hq
    obtain ⟨u, hu, ru⟩ := rv.get hx
    obtain ⟨f0, f1, f2, f3, f4, f5⟩ := hf it (by simp)
    refine wpAny_pyNext_tuple_item st (show s.heap.IsTuple a its.toArray from p) (x := u) (by simpa using hu) fun h' st' sb => ?_
    have I1 : Inv X pins σ H { s with heap := h' } := I.turned (t' := s.toks) (fun b o hb e => (sb.2 b hb).trans e) f0 f1 f3 f4 f5
    obtain ⟨o, e, c, d⟩ := id st'
    exact ⟨u, rfl, go_of (s := { s with heap := h' }) e c d (by decide) ⟨x, H, I1, ru, ⟨rfl, fun ys hy => by rw [I.tuple_inj hy hq]; exact hx⟩, st', fun b hb => (hf b hb).1⟩⟩
  done := by
    intro X hP hw hK hc i pins s σ H E I hf st hg
    subst hP hw hK
    obtain ⟨xs, hq, hx⟩ := hg
    obtain ⟨its, rv, p, hz⟩ := I.tuple hq
    obtain ⟨f0, f1, f2, f3, f4, f5⟩ := hf it (by simp)
    have hl := rv.length
    exact wpAny_pyNext_tuple_end (I.ok.hd hc) st (show s.heap.IsTuple a its.toArray from p) (by simp; omega) fun h' eb => ⟨rfl, I.turned (t' := s.toks) (fun b o hb e => eb b o hb e) f0 f1 f3 f4 f5⟩
  self := fun _ _ _ _ _ st h => wpAny_pyIter_tupleiter st h
theorem turn_range {P : Program} {w : World} {K : PySem.W.Frag} {tg : Expr} (it : Addr) (lo : Int) (n : Nat) : Turn P w K tg (Itr lo n) [it] it (fun i h => IsRangeIter h it (lo + (i : Nat) * 1) ((n : Int) - (i : Nat)) 1) where
  mem := by simp
  obj := fun i h st b hb => by
    have e : b = it := by simpa using hb
    subst e
    exact ⟨_, st, fun v z => by
      have z' : Data.fields _ = Data.cell v := z
      cases z'⟩
  keep := fun i h h' st k => k it (by simp) _ st
  item := by
    intro X hP hw hK hc i pins s σ H E I hf st hg
    subst hP hw hK
    obtain ⟨f0, f1, f2, f3, f4, f5⟩ := hf it (by simp)
    have W := Walks.range (prog := X.prog) (w := X.w) (I.ok.hd hc) it lo 1 n
    refine W.item i s _ _ hg st fun v h' tk hv st' kk => ?_
    obtain ⟨t, rfl⟩ := hv
    have I1 : Inv X pins σ H { s with heap := h', toks := tk } := I.turned (fun b o hb e => kk b o (by simpa using hb) e) f0 f1 f3 f4 f5
    refine ⟨_, rfl, go_of (s := { s with heap := h', toks := tk }) (n := "range_iterator") st' rfl rfl (by decide) ⟨.int (lo + i), H, I1, ⟨t, ?_⟩, ⟨rfl, rfl⟩, st', fun b hb => (hf b hb).1⟩⟩
    rw [Int.mul_one]
  done := by
    intro X hP hw hK hc i pins s σ H E I hf st hg
    subst hP hw hK
    obtain ⟨f0, f1, f2, f3, f4, f5⟩ := hf it (by simp)
    exact wpAny_pyNext_range_end (I.ok.hd hc) st (by have : n ≤ i := hg; omega) fun h' eb => ⟨rfl, I.turned (t' := s.toks) (fun b o hb e => eb b o hb e) f0 f1 f3 f4 f5⟩
  self := fun _ _ _ _ _ st h => wpAny_pyIter_rangeiter st h
end L2
namespace L2
open PySem PySem.Spec PyProof.Rows
section
variable {X : Cx} {tg : Expr}
def iList (K : PySem.W.Frag) (tl : TE) : TI := fun σ H R => tl σ H fun x H1 => ∃ a, x = .ref a ∧ (∃ xs, SqL K H1 a xs) ∧ R (Itl K a) H1
def iTup (K : PySem.W.Frag) (tl : TE) : TI := fun σ H R => tl σ H fun x H1 => ∃ a, x = .ref a ∧ (∃ xs, SqT K H1 a xs) ∧ R (Itt K a) H1
theorem pi_list {l : Expr} {tl : TE} (hl : PE X l tl) : PI X tg l (iList X.K tl) := by
  intro pins s σ H R I h
  refine thn (hl pins s σ H _ I h) fun v s1 ⟨x, H1, I1, r1, q1⟩ => ?_
  obtain ⟨a, e, ⟨xs, hq⟩, q⟩ := q1
  subst e
  cases r1
  obtain ⟨its, rv, p, hz⟩ := I1.list hq
  refine wpAny_pyIter_list p.isList ?_
  refine ⟨s1.heap.objs.size, [s1.heap.objs.size], _, _, H1, rfl, I1.kept (t' := s1.toks) fun b o e => Heap.get?_push_of_some _ e, turn_list a _, ⟨_, Heap.get?_push_size _ rfl, rfl, rfl⟩, fun b hb => ?_, q⟩
  have e : b = s1.heap.objs.size := by simpa using hb
  subst e
  exact I1.fpOk (Nat.le_refl _) (I1.hok.fresh (Nat.le_refl _))
theorem pi_tup {l : Expr} {tl : TE} (hl : PE X l tl) : PI X tg l (iTup X.K tl) := by
  intro pins s σ H R I h
  refine thn (hl pins s σ H _ I h) fun v s1 ⟨x, H1, I1, r1, q1⟩ => ?_
  obtain ⟨a, e, ⟨xs, hq⟩, q⟩ := q1
  subst e
  cases r1
  obtain ⟨its, rv, p, hz⟩ := I1.tuple hq
  refine wpAny_pyIter_tuple (show s1.heap.IsTuple a its.toArray from p) ?_
  refine ⟨s1.heap.objs.size, [s1.heap.objs.size], _, _, H1, rfl, I1.kept (t' := s1.toks) fun b o e => Heap.get?_push_of_some _ e, turn_tuple a _, ⟨_, Heap.get?_push_size _ rfl, rfl, rfl⟩, fun b hb => ?_, q⟩
  have e : b = s1.heap.objs.size := by simpa using hb
  subst e
  exact I1.fpOk (Nat.le_refl _) (I1.hok.fresh (Nat.le_refl _))
theorem range_it {pins : List (Addr × Obj)} {σ : St} {H : Hp} {s : Shared} {R : It → Hp → Prop} {E : Value → Shared → Prop} {lo hi : Int} {t u v : Tok} {tk : Nat} (I : Inv X pins σ H s) (h1 : -(2 ^ 62) ≤ lo) (h2 : lo < 2 ^ 62) (h3 : -(2 ^ 62) ≤ hi) (h4 : hi < 2 ^ 62)
    (q : R (Itr lo (hi - lo).toNat) H) : wpAny (model X.prog X.w) X.A (pyIter (.ref s.heap.objs.size)) (PIE X pins σ tg R) E { s with heap := s.heap.push { cls := .type "range", data := .fields #[.int lo t, .int hi u, .int 1 v] }, toks := tk } := by
  refine wpAny_pyIter_range (IsRange.new ..) (small_one h1 h2 h3 h4) ?_
  have I1 : Inv X pins σ H { s with heap := s.heap.push { cls := .type "range", data := .fields #[.int lo t, .int hi u, .int 1 v] }, toks := tk } := I.kept fun b o e => Heap.get?_push_of_some _ e
  refine ⟨(s.heap.push { cls := .type "range", data := .fields #[.int lo t, .int hi u, .int 1 v] }).objs.size, [(s.heap.push { cls := .type "range", data := .fields #[.int lo t, .int hi u, .int 1 v] }).objs.size], _, _, H, rfl,
    I1.kept (t' := tk) fun b o e => Heap.get?_push_of_some _ e, turn_range _ lo (hi - lo).toNat, ?_, fun b hb => ?_, q⟩
  · have e1 : lo + ((0 : Nat) : Int) * 1 = lo := by simp
    have e2 : (((hi - lo).toNat : Nat) : Int) - ((0 : Nat) : Int) = Builtin.Range.rangeSize lo hi 1 := by rw [rangeSize_one]; split <;> omega
    show IsRangeIter _ _ (lo + ((0 : Nat) : Int) * 1) ((((hi - lo).toNat : Nat) : Int) - ((0 : Nat) : Int)) 1
    rw [e1, e2]
    exact Heap.get?_push_size _ rfl
  · have e : b = (s.heap.push { cls := .type "range", data := .fields #[.int lo t, .int hi u, .int 1 v] }).objs.size := by simpa using hb
    subst e
    exact I1.fpOk (Nat.le_refl _) (I1.hok.fresh (Nat.le_refl _))
def iRng1 (ta : TA) : TI := fun σ H R => ta σ H fun vs H1 => ∃ j : Int, vs = [.int j] ∧ -(2 ^ 62) ≤ j ∧ j < 2 ^ 62 ∧ R (Itr 0 j.toNat) H1
def iRng2 (ta : TA) : TI := fun σ H R => ta σ H fun vs H1 => ∃ i j : Int, vs = [.int i, .int j] ∧ (-(2 ^ 62) ≤ i ∧ i < 2 ^ 62 ∧ -(2 ^ 62) ≤ j ∧ j < 2 ^ 62) ∧ R (Itr i (j - i).toNat) H1
theorem pi_range1 {a : Expr} {ta : TA} {p pos : Pos} (hg : Gl X "range") (hm : X.mg "range" = none) (ha : PA X [a] ta) (hs : starEach [a] X.env = [(false, eval a X.env)] := by rfl) : PI X tg (.Call (.Name "range" p) [a] [] pos) (iRng1 ta) := by
  intro pins s σ H R I h
  refine Call_ (ld_blt I hg hm boot_range (PyProof.Rows.callWith_type1 (thn (ha pos pins s σ H _ I h) fun us s1 ⟨vs, H1, I1, r1, q1⟩ => ?_) hs rfl))
  obtain ⟨j, e, q1, q2, q⟩ := q1
  subst e
  cases r1 with
  | cons r rr =>
    cases rr
    obtain ⟨t, rfl⟩ := r
    exact call_range_1 (range_it I1 (by omega) (by omega) q1 q2 (by simpa using q))
def tFor (wi : TI) (g : TG) (tb : TS) : TS := fun D σ H => wi σ H fun J H1 => ∃ W : Nat → Nat → St → Hp → Prop, (∃ m, W 0 m σ H1) ∧ ∀ i m σ H, W i m σ H →
  (J.stop i H ∧ D.nx σ H) ∨ (J.go i H ∧ ∃ N : St → Hp → Prop, (∀ σ' H', N σ' H' → ∃ m', m' < m ∧ W (i + 1) m' σ' H') ∧ ∀ x H', J.yld i H x H' → g x σ H' fun σ2 H2 => tb { D with nx := N, ct := N, bk := D.nx } σ2 H2)
def pinsAt (fp : List Addr) (h : Heap) : List (Addr × Obj) := fp.filterMap fun b => (h.get? b).map fun o => (b, o)
theorem mem_pinsAt {fp : List Addr} {h : Heap} {b : Addr} {o : Obj} (hb : b ∈ fp) (e : h.get? b = some o) : (b, o) ∈ pinsAt fp h := List.mem_filterMap.mpr ⟨b, hb, by rw [e]; rfl⟩
theorem of_pinsAt {fp : List Addr} {h : Heap} {p : Addr × Obj} (hp : p ∈ pinsAt fp h) : p.1 ∈ fp ∧ h.get? p.1 = some p.2 := by
  obtain ⟨b, hb, e⟩ := List.mem_filterMap.mp hp
  cases q : h.get? b with
  | none => rw [q] at e; cases e
  | some o =>
    rw [q] at e
    have e' : (b, o) = p := Option.some.inj e
    subst e'
    exact ⟨hb, q⟩
theorem Inv.pinned {pins : List (Addr × Obj)} {σ : St} {H : Hp} {s : Shared} {fp : List Addr} (I : Inv X pins σ H s) (hf : ∀ b ∈ fp, FpOk X pins H b) (ho : ∀ b ∈ fp, ∃ o, s.heap.get? b = some o ∧ ∀ v, o.data ≠ .cell v) : Inv X (pins ++ pinsAt fp s.heap) σ H s :=
  I.pins_of fun p hp => (List.mem_append.mp hp).elim (fun z => I.pin p (List.mem_append_right _ z)) fun z => by
    obtain ⟨hb, e⟩ := of_pinsAt z
    obtain ⟨f0, f1, f2, _⟩ := hf p.1 hb
    obtain ⟨o, e', d⟩ := ho p.1 hb
    rw [e] at e'; cases e'
    exact ⟨e, f0, f1, f2, d⟩
theorem Inv.unpinned {pins pl : List (Addr × Obj)} {σ : St} {H : Hp} {s : Shared} (I : Inv X (pins ++ pl) σ H s) : Inv X pins σ H s := I.pins_of fun p hp => I.pin p (List.mem_append_right _ (List.mem_append_left _ hp))
theorem ps_for {iter : Expr} {body : List Stmt} {wi : TI} {g : TG} {tb : TS} {pos : Pos} (hp : PassesOwn (model X.prog X.w) X.A X.env X.xe) (hc : X.calm = true) (hi : PI X tg iter wi) (hg : PG X tg g) (hb : PSs X body tb)
    (hs : ∀ x, foldedSetIterable iter X.env x = pure x := by intro _; rfl) : PS X (.For tg iter body [] pos) (tFor wi g tb) := by
  intro pins s σ H D I h
  refine wpAny_For (thn (hi pins s σ H _ I h) fun v s1 h1 => thn h1 fun itv s2 h2 => ?_) hs
  obtain ⟨it, fp, tn, J, H2, e, I2, T, st2, f2, W, ⟨m0, w0⟩, turn⟩ := h2
  subst e
  have stat : ∀ {H' : Hp}, (∀ b ∈ fp, H' b = none) → ∀ b ∈ fp, FpOk X pins H' b := fun hn b hb => ⟨hn b hb, (f2 b hb).2⟩
  refine codeAny_forLoop_any (fun n s' => ∃ i σ' H', Inv X pins σ' H' s' ∧ tn i s'.heap ∧ (∀ b ∈ fp, H' b = none) ∧ W i n σ' H') ?_ m0 ⟨0, σ, H2, I2, st2, fun b hb => (f2 b hb).1, w0⟩
  rintro n s3 ⟨i, σ3, H3, I3, st3, fr3, w3⟩
  rcases turn i n σ3 H3 w3 with ⟨stop, qn⟩ | ⟨go, N, hN, step⟩
  · refine wpAny_passesOwn hp (thn (T.done X rfl rfl rfl hc i pins s3 σ3 H3 X.xe I3 (stat fr3) st3 stop) fun r s4 ⟨hr, I4⟩ => ?_)
    subst hr
    exact wpAny_execs_nil ⟨σ3, H3, I4, qn⟩
  · refine wpAny_passesOwn hp (thn (T.item X rfl rfl rfl hc i pins s3 σ3 H3 X.xe I3 (stat fr3) st3 go) fun r s4 ⟨u, hr, h4⟩ => ?_)
    subst hr
    refine wpAny_passesOwn hp (thn h4 fun _ s5 ⟨x, H5, I5, r5, y5, st5, fr5⟩ => ?_)
    have I5' := I5.pinned (stat fr5) (T.obj _ _ st5)
    refine wpAny_passesOwn hp (thn (hg _ s5 σ3 H5 x u _ I5' r5 (step x H5 y5)) fun _ s6 ⟨σ6, H6, I6, q6⟩ => ?_)
    refine wpAny_passesOwn hp (thn (hb _ s6 σ6 H6 _ I6 q6) fun f s7 q7 => ?_)
    have again : ∀ {σ7 : St} {H7 : Hp}, Inv X (pins ++ pinsAt fp s5.heap) σ7 H7 s7 → N σ7 H7 → ∃ m, m < n ∧ ∃ i σ' H', Inv X pins σ' H' s7 ∧ tn i s7.heap ∧ (∀ b ∈ fp, H' b = none) ∧ W i m σ' H' := fun {σ7 H7} I7 n7 => by
      obtain ⟨m', hm, w7⟩ := hN σ7 H7 n7
      refine ⟨m', hm, i + 1, σ7, H7, I7.unpinned, T.keep _ _ _ st5 fun b hb o e => (I7.pin (b, o) (List.mem_append_right _ (List.mem_append_right _ (mem_pinsAt hb e)))).1, fun b hb => ?_, w7⟩
      obtain ⟨o, e, d⟩ := T.obj _ _ st5 b hb
      exact (I7.pin (b, o) (List.mem_append_right _ (List.mem_append_right _ (mem_pinsAt hb e)))).2.1
    cases f with
    | next => obtain ⟨σ7, H7, I7, n7⟩ := q7; exact again I7 n7
    | cont => obtain ⟨σ7, H7, I7, n7⟩ := q7; exact again I7 n7
    | brk => obtain ⟨σ7, H7, I7, q7⟩ := q7; exact ⟨σ7, H7, I7.unpinned, q7⟩
    | ret v => obtain ⟨x7, σ7, H7, I7, r7, q7⟩ := q7; exact ⟨x7, σ7, H7, I7.unpinned, r7, q7⟩
end
theorem for_list {K : PySem.W.Frag} {a : Addr} {xs : List V} {g : TG} {tb : TS} {D : Ends} {σ : St} {H : Hp} (Pv : Nat → St → Hp → Prop) (h0 : Pv 0 σ H) (hl : ∀ i σ H, i ≤ xs.length → Pv i σ H → SqL K H a xs)
    (hs : ∀ i x σ H, xs[i]? = some x → Pv i σ H → g x σ H fun σ2 H2 => tb { D with nx := Pv (i + 1), ct := Pv (i + 1), bk := D.nx } σ2 H2) (hd : ∀ σ H, Pv xs.length σ H → D.nx σ H) :
    ∃ W : Nat → Nat → St → Hp → Prop, (∃ m, W 0 m σ H) ∧ ∀ i m σ H, W i m σ H →
      ((Itl K a).stop i H ∧ D.nx σ H) ∨ ((Itl K a).go i H ∧ ∃ N : St → Hp → Prop, (∀ σ' H', N σ' H' → ∃ m', m' < m ∧ W (i + 1) m' σ' H') ∧ ∀ x H', (Itl K a).yld i H x H' → g x σ H' fun σ2 H2 => tb { D with nx := N, ct := N, bk := D.nx } σ2 H2) := by
  refine ⟨fun i m σ H => m = xs.length - i ∧ i ≤ xs.length ∧ Pv i σ H, ⟨xs.length, by simp, Nat.zero_le _, h0⟩, ?_⟩
  rintro i m σ H ⟨rfl, hi, p⟩
  have q := hl i σ H hi p
  by_cases hlt : i < xs.length
  · refine .inr ⟨⟨xs, xs[i], q, by simp [hlt]⟩, Pv (i + 1), fun σ' H' p' => ⟨xs.length - (i + 1), by omega, rfl, hlt, p'⟩, fun x H' y => ?_⟩
    obtain ⟨e, y⟩ := y
    subst e
    exact hs i x σ _ (y xs q) p
  · have e : i = xs.length := by omega
    subst e
    exact .inl ⟨⟨xs, q, Nat.le_refl _⟩, hd σ H p⟩
theorem for_tup {K : PySem.W.Frag} {a : Addr} {xs : List V} {g : TG} {tb : TS} {D : Ends} {σ : St} {H : Hp} (Pv : Nat → St → Hp → Prop) (h0 : Pv 0 σ H) (hl : ∀ i σ H, i ≤ xs.length → Pv i σ H → SqT K H a xs)
    (hs : ∀ i x σ H, xs[i]? = some x → Pv i σ H → g x σ H fun σ2 H2 => tb { D with nx := Pv (i + 1), ct := Pv (i + 1), bk := D.nx } σ2 H2) (hd : ∀ σ H, Pv xs.length σ H → D.nx σ H) :
    ∃ W : Nat → Nat → St → Hp → Prop, (∃ m, W 0 m σ H) ∧ ∀ i m σ H, W i m σ H →
      ((Itt K a).stop i H ∧ D.nx σ H) ∨ ((Itt K a).go i H ∧ ∃ N : St → Hp → Prop, (∀ σ' H', N σ' H' → ∃ m', m' < m ∧ W (i + 1) m' σ' H') ∧ ∀ x H', (Itt K a).yld i H x H' → g x σ H' fun σ2 H2 => tb { D with nx := N, ct := N, bk := D.nx } σ2 H2) := by
  refine ⟨fun i m σ H => m = xs.length - i ∧ i ≤ xs.length ∧ Pv i σ H, ⟨xs.length, by simp, Nat.zero_le _, h0⟩, ?_⟩
  rintro i m σ H ⟨rfl, hi, p⟩
  have q := hl i σ H hi p
  by_cases hlt : i < xs.length
  · refine .inr ⟨⟨xs, xs[i], q, by simp [hlt]⟩, Pv (i + 1), fun σ' H' p' => ⟨xs.length - (i + 1), by omega, rfl, hlt, p'⟩, fun x H' y => ?_⟩
    obtain ⟨e, y⟩ := y
    subst e
    exact hs i x σ _ (y xs q) p
  · have e : i = xs.length := by omega
    subst e
    exact .inl ⟨⟨xs, q, Nat.le_refl _⟩, hd σ H p⟩
theorem for_range {lo : Int} {n : Nat} {g : TG} {tb : TS} {D : Ends} {σ : St} {H : Hp} (Pv : Nat → St → Hp → Prop) (h0 : Pv 0 σ H)
    (hs : ∀ i σ H, i < n → Pv i σ H → g (.int (lo + i)) σ H fun σ2 H2 => tb { D with nx := Pv (i + 1), ct := Pv (i + 1), bk := D.nx } σ2 H2) (hd : ∀ σ H, Pv n σ H → D.nx σ H) :
    ∃ W : Nat → Nat → St → Hp → Prop, (∃ m, W 0 m σ H) ∧ ∀ i m σ H, W i m σ H →
      ((Itr lo n).stop i H ∧ D.nx σ H) ∨ ((Itr lo n).go i H ∧ ∃ N : St → Hp → Prop, (∀ σ' H', N σ' H' → ∃ m', m' < m ∧ W (i + 1) m' σ' H') ∧ ∀ x H', (Itr lo n).yld i H x H' → g x σ H' fun σ2 H2 => tb { D with nx := N, ct := N, bk := D.nx } σ2 H2) := by
  refine ⟨fun i m σ H => m = n - i ∧ i ≤ n ∧ Pv i σ H, ⟨n, by simp, Nat.zero_le _, h0⟩, ?_⟩
  rintro i m σ H ⟨rfl, hi, p⟩
  by_cases hlt : i < n
  · refine .inr ⟨hlt, Pv (i + 1), fun σ' H' p' => ⟨n - (i + 1), by omega, rfl, hlt, p'⟩, fun x H' y => ?_⟩
    obtain ⟨e, y⟩ := y
    subst e y
    exact hs i σ _ hlt p
  · have e : i = n := by omega
    subst e
    exact .inl ⟨Nat.le_refl _, hd σ H p⟩
end L2
namespace L2
open PySem PySem.Spec PyProof.Rows
abbrev R2 := V → V → Hp → VK → Prop
def OpR (X : Cx) (f : Value → Value → Sem Value) (r : R2) : Prop :=
  ∀ (pins : List (Addr × Obj)) (s : Shared) (σ : St) (H : Hp) (x y : V) (v u : Value) (Q : VK), Inv X pins σ H s → RelV x v → RelV y u → r x y H Q →
    wpAny (model X.prog X.w) X.A (f v u) (EP X pins σ Q) X.xe s
def UnR (X : Cx) (f : Value → Sem Value) (r : V → Hp → VK → Prop) : Prop :=
  ∀ (pins : List (Addr × Obj)) (s : Shared) (σ : St) (H : Hp) (x : V) (v : Value) (Q : VK), Inv X pins σ H s → RelV x v → r x H Q →
    wpAny (model X.prog X.w) X.A (f v) (EP X pins σ Q) X.xe s
def CallR (X : Cx) (f : Value) (r : List V → Hp → VK → Prop) : Prop :=
  ∀ (pins : List (Addr × Obj)) (s : Shared) (σ : St) (H : Hp) (xs : List V) (us : List Value) (Q : VK), Inv X pins σ H s → Vals xs us → r xs H Q →
    wpAny (model X.prog X.w) X.A (call f us) (EP X pins σ Q) X.xe s
def tOp (r : R2) (ta tb : TE) : TE := fun σ H Q => ta σ H fun x H1 => tb σ H1 fun y H2 => r x y H2 Q
def tUn (r : V → Hp → VK → Prop) (ta : TE) : TE := fun σ H Q => ta σ H fun x H1 => r x H1 Q
def rI (C : Int → Int → Prop) (g : Int → Int → V) : R2 := fun x y H Q => ∃ i j, x = .int i ∧ y = .int j ∧ C i j ∧ Q (g i j) H
def rI0 (g : Int → Int → V) : R2 := fun x y H Q => ∃ i j, x = .int i ∧ y = .int j ∧ Q (g i j) H
def rU (g : Int → V) : V → Hp → VK → Prop := fun x H Q => ∃ i, x = .int i ∧ Q (g i) H
section
variable {X : Cx} {a b c : Expr} {ta tb tc : TE} {pos : Pos}
theorem binT (ha : PE X a ta) (hb : PE X b tb) {pins : List (Addr × Obj)} {s : Shared} {σ : St} {H : Hp} {R : V → V → Hp → Prop} (I : Inv X pins σ H s)
    (h : ta σ H fun x H1 => tb σ H1 fun y H2 => R x y H2) {Q : Value → Shared → Prop} {f : Value → Value → Sem Value}
    (hf : ∀ v u s2 x y H2, Inv X pins σ H2 s2 → RelV x v → RelV y u → R x y H2 → wpAny (model X.prog X.w) X.A (f v u) Q X.xe s2) :
    wpAny (model X.prog X.w) X.A (eval a X.env) (fun v s₁ => wpAny (model X.prog X.w) X.A (eval b X.env) (fun u s₂ => wpAny (model X.prog X.w) X.A (f v u) Q X.xe s₂) X.xe s₁) X.xe s := by
  refine thn (ha pins s σ H _ I h) fun v s1 ⟨x, H1, I1, r1, q1⟩ => ?_
  refine thn (hb pins s1 σ H1 _ I1 q1) fun u s2 ⟨y, H2, I2, r2, q2⟩ => ?_
  exact hf v u s2 x y H2 I2 r1 r2 q2
theorem pe_op {op : Operator} {r : R2} (ho : OpR X (binaryOp op) r) (ha : PE X a ta) (hb : PE X b tb) : PE X (.BinOp a op b pos) (tOp r ta tb) := by
  intro pins s σ H Q I h
  exact wpAny_BinOp (binT ha hb I h fun v u s2 x y H2 I2 rx ry q => ho pins s2 σ H2 x y v u Q I2 rx ry q)
theorem pe_un {op : UnaryOp} {r : V → Hp → VK → Prop} (ho : UnR X (unaryOp op) r) (ha : PE X a ta) : PE X (.UnaryOp op a pos) (tUn r ta) := by
  intro pins s σ H Q I h
  exact UnaryOp_ (thn (ha pins s σ H _ I h) fun v s1 ⟨x, H1, I1, r1, q1⟩ => ho pins s1 σ H1 x v Q I1 r1 q1)
theorem opI {f : Value → Value → Sem Value} {C : Int → Int → Prop} {g : Int → Int → Int}
    (rule : ∀ (i j : Int) (t u : Tok) (s : Shared) (Q : Value → Shared → Prop) (E : Value → Shared → Prop), C i j → Q (.int (g i j) s.toks) { s with toks := s.toks + 1 } → wpAny (model X.prog X.w) X.A (f (.int i t) (.int j u)) Q E s) :
    OpR X f (rI C fun i j => .int (g i j)) := by
  intro pins s σ H x y v u Q I rx ry h
  obtain ⟨i, j, rfl, rfl, hc, q⟩ := h
  obtain ⟨t, rfl⟩ := rx
  obtain ⟨t', rfl⟩ := ry
  exact rule i j t t' s _ _ hc ⟨.int (g i j), H, I.tok _, ⟨_, rfl⟩, q⟩
theorem opI0 {f : Value → Value → Sem Value} {g : Int → Int → Int}
    (rule : ∀ (i j : Int) (t u : Tok) (s : Shared) (Q : Value → Shared → Prop) (E : Value → Shared → Prop), Q (.int (g i j) s.toks) { s with toks := s.toks + 1 } → wpAny (model X.prog X.w) X.A (f (.int i t) (.int j u)) Q E s) :
    OpR X f (rI0 fun i j => .int (g i j)) := by
  intro pins s σ H x y v u Q I rx ry h
  obtain ⟨i, j, rfl, rfl, q⟩ := h
  obtain ⟨t, rfl⟩ := rx
  obtain ⟨t', rfl⟩ := ry
  exact rule i j t t' s _ _ ⟨.int (g i j), H, I.tok _, ⟨_, rfl⟩, q⟩
theorem opB0 {f : Value → Value → Sem Value} {g : Int → Int → Bool}
    (rule : ∀ (i j : Int) (t u : Tok) (s : Shared) (Q : Value → Shared → Prop) (E : Value → Shared → Prop), Q (.bool (g i j)) s → wpAny (model X.prog X.w) X.A (f (.int i t) (.int j u)) Q E s) :
    OpR X f (rI0 fun i j => .bl (g i j)) := by
  intro pins s σ H x y v u Q I rx ry h
  obtain ⟨i, j, rfl, rfl, q⟩ := h
  obtain ⟨t, rfl⟩ := rx
  obtain ⟨t', rfl⟩ := ry
  exact rule i j t t' s _ _ ⟨.bl (g i j), H, I, rfl, q⟩
def CPow (i j : Int) : Prop := 0 ≤ j ∧ j ≤ 1000000 ∧ i.natAbs < 2 ^ 64
def CMul (i j : Int) : Prop := (-(2 ^ 64) < i ∧ i < 2 ^ 64) ∨ (-(2 ^ 64) < j ∧ j < 2 ^ 64)
theorem CMul.ok {i j : Int} (h : CMul i j) : IntMulOk i j := by
  rcases h with ⟨h1, h2⟩ | ⟨h1, h2⟩
  · exact .of_left (intBits_le_64 h1 h2)
  · exact .of_right (intBits_le_64 h1 h2)
theorem op_add : OpR X (binaryOp .Add) (rI0 fun i j => .int (i + j)) := opI0 fun _ _ _ _ _ _ _ q => add_int q
theorem op_mul : OpR X (binaryOp .Mult) (rI CMul fun i j => .int (i * j)) := opI fun _ _ _ _ _ _ _ hc q => mul_int q hc.ok
theorem op_mod : OpR X (binaryOp .Mod) (rI (fun _ j => 0 < j) fun i j => .int (i % j)) := opI fun i j _ _ _ _ _ hc q => by
  have h1 : (0 : Int) < j := hc
  exact mod_int' (by omega) (by rw [Int.fmod_eq_emod_of_nonneg i (by omega)]; exact q)
theorem op_pow : OpR X (binaryOp .Pow) (rI CPow fun i j => .int (i ^ j.toNat)) := opI fun _ _ _ _ _ _ _ hc q => pow_int_small hc.1 hc.2.1 hc.2.2 q
theorem unI {f : Value → Sem Value} {g : Int → Int}
    (rule : ∀ (i : Int) (t : Tok) (s : Shared) (Q : Value → Shared → Prop) (E : Value → Shared → Prop), Q (.int (g i) s.toks) { s with toks := s.toks + 1 } → wpAny (model X.prog X.w) X.A (f (.int i t)) Q E s) :
    UnR X f (rU fun i => .int (g i)) := by
  intro pins s σ H x v Q I rx h
  obtain ⟨i, rfl, q⟩ := h
  obtain ⟨t, rfl⟩ := rx
  exact rule i t s _ _ ⟨.int (g i), H, I.tok _, ⟨_, rfl⟩, q⟩
theorem un_neg : UnR X (unaryOp .USub) (rU fun i => .int (-i)) := unI fun _ _ _ _ _ q => neg_int q
end
def scal : V → V → Bool
  | .non, .non => true | .non, .int _ => true | .int _, .non => true | .non, .bl _ => true | .bl _, .non => true | .non, .str _ => true | .str _, .non => true
  | .int _, .int _ => true | .bl _, .bl _ => true | .str _, .str _ => true | .byt _, .byt _ => true
  | .int _, .str _ => true | .str _, .int _ => true | .bl _, .str _ => true | .str _, .bl _ => true
  | _, _ => false
def rEq : R2 := fun x y H Q => scal x y = true ∧ Q (.bl (decide (x = y))) H
def rNe : R2 := fun x y H Q => scal x y = true ∧ Q (.bl (!decide (x = y))) H
theorem dec_int {i j : Int} : decide (V.int i = V.int j) = (i == j) := by
  rw [Bool.eq_iff_iff]
  simp
theorem dec_bl {i j : Bool} : decide (V.bl i = V.bl j) = (i == j) := by
  rw [Bool.eq_iff_iff]
  simp
theorem dec_str {i j : Str} : decide (V.str i = V.str j) = (i == j) := by
  rw [Bool.eq_iff_iff]
  simp
theorem dec_byt {i j : Array UInt8} : decide (V.byt i = V.byt j) = (i.toList == j.toList) := by
  rw [Bool.eq_iff_iff]
  cases i
  cases j
  simp
section
variable {X : Cx} {a b c : Expr} {ta tb tc : TE} {pos : Pos}
theorem fin_bl {pins : List (Addr × Obj)} {σ : St} {H : Hp} {s : Shared} {Q : VK} {k k' : Bool} (I : Inv X pins σ H s) (q : Q (.bl k) H) (e : k = k') : EP X pins σ Q (.bool k') s := by
  subst e
  exact ⟨.bl k, H, I, rfl, q⟩
theorem op_eq : OpR X (compareOp .Eq) rEq := by
  intro pins s σ H x y v u Q I rx ry h
  obtain ⟨hs, q⟩ := h
  cases x with
  | non =>
    cases rx
    cases y with
    | non => cases ry; exact PySem.EqNone.eq_none_none (fin_bl I q (by simp))
    | bl j => cases ry; exact PySem.EqNone.eq_none_bool (fin_bl I q (by simp))
    | int j => obtain ⟨t', rfl⟩ := ry; exact PySem.EqNone.eq_none_int (fin_bl I q (by simp))
    | str j => obtain ⟨t', rfl⟩ := ry; exact PySem.EqNone.eq_none_str (fin_bl I q (by simp))
    | _ => exact absurd (show false = true from hs) Bool.false_ne_true
  | bl i =>
    cases rx
    cases y with
    | non => cases ry; exact PySem.EqNone.eq_bool_none (fin_bl I q (by simp))
    | bl j => cases ry; exact eq_bool (fin_bl I q dec_bl)
    | str j => obtain ⟨t', rfl⟩ := ry; exact PySem.EqMixed.eq_bool_str (fin_bl I q (by simp))
    | _ => exact absurd (show false = true from hs) Bool.false_ne_true
  | int i =>
    obtain ⟨t, rfl⟩ := rx
    cases y with
    | non => cases ry; exact PySem.EqNone.eq_int_none (fin_bl I q (by simp))
    | int j => obtain ⟨t', rfl⟩ := ry; exact eq_int (fin_bl I q dec_int)
    | str j => obtain ⟨t', rfl⟩ := ry; exact PySem.EqMixed.eq_int_str (fin_bl I q (by simp))
    | _ => exact absurd (show false = true from hs) Bool.false_ne_true
  | str i =>
    obtain ⟨t, rfl⟩ := rx
    cases y with
    | non => cases ry; exact PySem.EqNone.eq_str_none (fin_bl I q (by simp))
    | bl j => cases ry; exact PySem.EqMixed.eq_str_bool (fin_bl I q (by simp))
    | int j => obtain ⟨t', rfl⟩ := ry; exact PySem.EqMixed.eq_str_int (fin_bl I q (by simp))
    | str j => obtain ⟨t', rfl⟩ := ry; exact eq_str (fin_bl I q dec_str)
    | _ => exact absurd (show false = true from hs) Bool.false_ne_true
  | byt i =>
    obtain ⟨t, rfl⟩ := rx
    cases y with
    | byt j => obtain ⟨t', rfl⟩ := ry; exact PySem.W.eq_bytes (fin_bl I q dec_byt)
    | _ => exact absurd (show false = true from hs) Bool.false_ne_true
  | _ => cases y <;> exact absurd (show false = true from hs) Bool.false_ne_true
theorem op_ne : OpR X (compareOp .NotEq) rNe := by
  intro pins s σ H x y v u Q I rx ry h
  obtain ⟨hs, q⟩ := h
  cases x with
  | non =>
    cases rx
    cases y with
    | non => cases ry; exact PySem.EqNone.ne_none_none (fin_bl I q (by simp))
    | bl j => cases ry; exact PySem.EqNone.ne_none_bool (fin_bl I q (by simp))
    | int j => obtain ⟨t', rfl⟩ := ry; exact PySem.EqNone.ne_none_int (fin_bl I q (by simp))
    | str j => obtain ⟨t', rfl⟩ := ry; exact PySem.EqNone.ne_none_str (fin_bl I q (by simp))
    | _ => exact absurd (show false = true from hs) Bool.false_ne_true
  | bl i =>
    cases rx
    cases y with
    | non => cases ry; exact PySem.EqNone.ne_bool_none (fin_bl I q (by simp))
    | bl j => cases ry; exact ne_bool (fin_bl I q (congrArg not dec_bl))
    | str j => obtain ⟨t', rfl⟩ := ry; exact PySem.EqMixed.ne_bool_str (fin_bl I q (by simp))
    | _ => exact absurd (show false = true from hs) Bool.false_ne_true
  | int i =>
    obtain ⟨t, rfl⟩ := rx
    cases y with
    | non => cases ry; exact PySem.EqNone.ne_int_none (fin_bl I q (by simp))
    | int j => obtain ⟨t', rfl⟩ := ry; exact ne_int (fin_bl I q (congrArg not dec_int))
    | str j => obtain ⟨t', rfl⟩ := ry; exact PySem.EqMixed.ne_int_str (fin_bl I q (by simp))
    | _ => exact absurd (show false = true from hs) Bool.false_ne_true
  | str i =>
    obtain ⟨t, rfl⟩ := rx
    cases y with
    | non => cases ry; exact PySem.EqNone.ne_str_none (fin_bl I q (by simp))
    | bl j => cases ry; exact PySem.EqMixed.ne_str_bool (fin_bl I q (by simp))
    | int j => obtain ⟨t', rfl⟩ := ry; exact PySem.EqMixed.ne_str_int (fin_bl I q (by simp))
    | str j => obtain ⟨t', rfl⟩ := ry; exact ne_str (fin_bl I q (congrArg not dec_str))
    | _ => exact absurd (show false = true from hs) Bool.false_ne_true
  | byt i =>
    obtain ⟨t, rfl⟩ := rx
    cases y with
    | byt j => obtain ⟨t', rfl⟩ := ry; exact PySem.W.ne_bytes (fin_bl I q (congrArg not dec_byt))
    | _ => exact absurd (show false = true from hs) Bool.false_ne_true
  | _ => cases y <;> exact absurd (show false = true from hs) Bool.false_ne_true
theorem op_lt : OpR X (compareOp .Lt) (rI0 fun i j => .bl (decide (i < j))) := opB0 fun _ _ _ _ _ _ _ q => lt_int q
theorem op_le : OpR X (compareOp .LtE) (rI0 fun i j => .bl (decide (i ≤ j))) := opB0 fun _ _ _ _ _ _ _ q => le_int q
theorem op_gt : OpR X (compareOp .Gt) (rI0 fun i j => .bl (decide (j < i))) := opB0 fun _ _ _ _ _ _ _ q => gt_int q
theorem op_in_str : OpR X (compareOp .In) (fun x y H Q => ∃ i j, x = .str i ∧ y = .str j ∧ Q (.bl (!(Builtin.Str.occurrences j i 0 j.length 1).isEmpty)) H) := by
  intro pins s σ H x y v u Q I rx ry h
  obtain ⟨i, j, rfl, rfl, q⟩ := h
  obtain ⟨t, rfl⟩ := rx
  obtain ⟨t', rfl⟩ := ry
  exact in_str (fin_bl I q rfl)
theorem op_isN : OpR X (compareOp .Is) (fun x y H Q => y = .non ∧ Q (.bl (decide (x = .non))) H) := by
  intro pins s σ H x y v u Q I rx ry h
  obtain ⟨rfl, q⟩ := h
  cases ry
  refine is_none_gen (fin_bl I q ?_)
  cases x <;> first
    | (cases rx; rfl)
    | (obtain ⟨t, rfl⟩ := rx; rfl)
theorem nomark (b : Expr) {op : CmpOp} (h : op ≠ .In := by decide) (h2 : op ≠ .NotIn := by decide) : behindInMarks op b = false := by
  have e1 : (op == CmpOp.In) = false := by cases op <;> first | rfl | exact absurd rfl h
  have e2 : (op == CmpOp.NotIn) = false := by cases op <;> first | rfl | exact absurd rfl h2
  cases b <;> simp [behindInMarks, e1, e2]
theorem pe_cmpR {op : CmpOp} {r : R2} (ho : OpR X (compareOp op) r) (ha : PE X a ta) (hb : PE X b tb) (hm : behindInMarks op b = false) : PE X (.Compare a [op] [b] pos) (tOp r ta tb) := by
  intro pins s σ H Q I h
  exact wpAny_Compare1 (binT ha hb I h fun v u s2 x y H2 I2 rx ry q => ho pins s2 σ H2 x y v u Q I2 rx ry q) hm
def tTest (t : TE) : TT := fun σ H Q => t σ H fun x H' => ∃ k, x = .bl k ∧ Q k H'
theorem pt_cmpR {op : CmpOp} {r : R2} (ho : OpR X (compareOp op) r) (ha : PE X a ta) (hb : PE X b tb) (hm : behindInMarks op b = false) : PT X (.Compare a [op] [b] pos) (tTest (tOp r ta tb)) := by
  intro pins s σ H Q I h
  refine wpAny_isTrue_Compare1 (thn (ha pins s σ H _ I h) fun v s1 ⟨x, H1, I1, r1, q1⟩ => thn (hb pins s1 σ H1 _ I1 q1) fun u s2 ⟨y, H2, I2, r2, q2⟩ =>
    thn (ho pins s2 σ H2 x y v u _ I2 r1 r2 q2) fun c s3 ⟨z, H3, I3, r3, k, e, q3⟩ => ?_) hm
  subst e
  cases r3
  exact wpAny_truthy_bool ⟨H3, I3, q3⟩
def tChain (r r' : R2) (ta tb tc : TE) : TE := fun σ H Q => ta σ H fun x H1 => tb σ H1 fun y H2 => r x y H2 fun z H3 => ∃ k, z = .bl k ∧
  (if k = true then tc σ H3 fun w' H4 => r' y w' H4 Q else Q (.bl false) H3)
theorem pe_chain {op op' : CmpOp} {r r' : R2} (ho : OpR X (compareOp op) r) (ho' : OpR X (compareOp op') r') (ha : PE X a ta) (hb : PE X b tb) (hc : PE X c tc)
    (hm : lastMarks [op, op'] [b, c] = false := by with_unfolding_all rfl) : PE X (.Compare a [op, op'] [b, c] pos) (tChain r r' ta tb tc) := by
  intro pins s σ H Q I h
  refine Compare_chain (thn (ha pins s σ H _ I h) fun v s1 ⟨x, H1, I1, r1, q1⟩ => chain_link (thn (hb pins s1 σ H1 _ I1 q1) fun u s2 ⟨y, H2, I2, r2, q2⟩ =>
    thn (ho pins s2 σ H2 x y v u _ I2 r1 r2 q2) fun d s3 ⟨z, H3, I3, r3, k, e, q3⟩ => ?_)) hm
  subst e
  cases r3
  refine wpAny_truthy_bool ?_
  cases k with
  | false => exact ite_ff ⟨.bl false, H3, I3, rfl, q3⟩
  | true => exact ite_tt (chain_last (thn (hc pins s3 σ H3 _ I3 q3) fun w' s4 ⟨z', H4, I4, r4, q4⟩ => ho' pins s4 σ H4 y z' u w' Q I4 r2 r4 q4))
theorem pt_chain {op op' : CmpOp} {r r' : R2} (ho : OpR X (compareOp op) r) (ho' : OpR X (compareOp op') r') (ha : PE X a ta) (hb : PE X b tb) (hc : PE X c tc)
    (hm : lastMarks [op, op'] [b, c] = false := by with_unfolding_all rfl) : PT X (.Compare a [op, op'] [b, c] pos) (tTest (tChain r r' ta tb tc)) := by
  intro pins s σ H Q I h
  refine isTrue_chain (thn (ha pins s σ H _ I h) fun v s1 ⟨x, H1, I1, r1, q1⟩ => test_link (thn (hb pins s1 σ H1 _ I1 q1) fun u s2 ⟨y, H2, I2, r2, q2⟩ =>
    thn (ho pins s2 σ H2 x y v u _ I2 r1 r2 q2) fun d s3 ⟨z, H3, I3, r3, k, e, q3⟩ => ?_)) hm
  subst e
  cases r3
  refine wpAny_truthy_bool ?_
  cases k with
  | false =>
    obtain ⟨k', e', q'⟩ := q3
    cases e'
    exact ite_ff ⟨H3, I3, q'⟩
  | true =>
    refine ite_tt (test_last (thn (hc pins s3 σ H3 _ I3 q3) fun w' s4 ⟨z', H4, I4, r4, q4⟩ => thn (ho' pins s4 σ H4 y z' u w' _ I4 r2 r4 q4) fun d' s5 ⟨z2, H5, I5, r5, k2, e2, q5⟩ => ?_))
    subst e2
    cases r5
    exact wpAny_truthy_bool ⟨H5, I5, q5⟩
theorem line63 : (sizeLine : Nat) < 2 ^ 63 := by rw [sizeLine_eq]; decide
theorem op_add_str : OpR X (binaryOp .Add) (fun x y H Q => ∃ i j, x = .str i ∧ y = .str j ∧ i.length + j.length ≤ sizeLine ∧ Q (.str (i ++ j)) H) := by
  intro pins s σ H x y v u Q I rx ry h
  obtain ⟨i, j, rfl, rfl, hz, q⟩ := h
  obtain ⟨t, rfl⟩ := rx
  obtain ⟨t', rfl⟩ := ry
  exact add_str (fun t' tk => ⟨.str (i ++ j), H, I.tok _, ⟨_, rfl⟩, q⟩) hz
theorem vals1 {x : V} {us : List Value} (r : Vals [x] us) : ∃ u, us = [u] ∧ RelV x u := by
  cases r with
  | cons r1 r2 => cases r2; exact ⟨_, rfl, r1⟩
theorem vals2 {x y : V} {us : List Value} (r : Vals [x, y] us) : ∃ u w', us = [u, w'] ∧ RelV x u ∧ RelV y w' := by
  cases r with
  | cons r1 r2 =>
    cases r2 with
    | cons r3 r4 => cases r4; exact ⟨_, _, rfl, r1, r3⟩
theorem call_abs : CallR X (.builtin "abs") (fun xs H Q => ∃ i, xs = [.int i] ∧ Q (.int (if i < 0 then -i else i)) H) := by
  intro pins s σ H xs us Q I r h
  obtain ⟨i, rfl, q⟩ := h
  obtain ⟨u, rfl, t, rfl⟩ := vals1 r
  exact call_abs_int fun u tk => ⟨.int (if i < 0 then -i else i), H, I.tok _, ⟨_, rfl⟩, q⟩
theorem call_int1 : CallR X (.type "int") (fun xs H Q => (∃ i, xs = [.int i] ∧ Q (.int i) H) ∨ ∃ k, xs = [.bl k] ∧ Q (.int (if k then 1 else 0)) H) := by
  intro pins s σ H xs us Q I r h
  rcases h with ⟨i, rfl, q⟩ | ⟨k, rfl, q⟩
  · obtain ⟨u, rfl, t, rfl⟩ := vals1 r
    exact call_int_int ⟨.int i, H, I, ⟨_, rfl⟩, q⟩
  · obtain ⟨u, rfl, r1⟩ := vals1 r
    cases r1
    exact call_int_bool ⟨.int (if k then 1 else 0), H, I.tok _, ⟨_, rfl⟩, q⟩
end
end L2
namespace L2
open PySem PySem.Spec PyProof.Rows
structure ObjM (h : Heap) (x dx C : Addr) (mA : Str → Option Value) : Prop where
  obj : h.get? x = some (PySem.W.instObj C dx)
  ns : h.Ns1 dx mA
  ne : dx ≠ x
theorem lookIn_ns {h : Heap} {dx : Addr} {mA : Str → Option Value} (n : h.Ns1 dx mA) : ∃ od, h.get? dx = some od ∧ ∀ name, PySem.W.lookIn name od = some (mA name) := by
  obtain ⟨o, es, ep, ho, hd, hk, _, hm⟩ := n
  refine ⟨o, ho, fun name => ?_⟩
  have e := hm name
  unfold nsFind findBy at e
  rw [← Array.find?_toList] at e
  unfold PySem.W.lookIn
  rw [hd]
  dsimp only
  split
  · rename_i y q
    rw [q] at e
    exact congrArg some e
  · rename_i q
    rw [q] at e
    have a : es.toList.any (·.refKey) = false := by
      rw [List.any_eq_false]
      intro y hy
      obtain ⟨z, t, hkey⟩ := hk y (Array.mem_toList_iff.mp hy)
      simp [DictEntry.refKey, hkey]
    have a' : ¬ es.toList.any (·.refKey) = true := by rw [a]; exact Bool.false_ne_true
    rw [if_neg a']
    exact congrArg some e
theorem ObjM.look {h : Heap} {x dx C : Addr} {mA : Str → Option Value} (I : ObjM h x dx C mA) : ∃ od, PySem.W.InstAt h x (PySem.W.instObj C dx) C (some od) ∧ ∀ name, PySem.W.lookIn name od = some (mA name) :=
  let ⟨od, ho, hl⟩ := lookIn_ns I.ns
  ⟨od, ⟨I.obj, rfl, rfl, ho⟩, hl⟩
section
variable {prog : Program} {w : World} {A : Around} {E : Value → Shared → Prop} {s : Shared} {K : PySem.W.Frag} {x dx C f : Addr} {mA : Str → Option Value} {name : Str} {v : Value}
end
def putF (f : Str) (v : V) : List (Str × V) → List (Str × V)
  | [] => [(f, v)]
  | (g, x) :: r => if g = f then (g, v) :: r else (g, x) :: putF f v r
section
variable {P : Program} {w : World} {H H' : Hp} {h h' : Heap} {a C dx : Addr} {fs fs' : List (Str × V)}
theorem ins_get (hok : HOk P w H h) (e : H a = some (.ins C dx fs)) : ∃ mA, ObjM h a dx C mA ∧ (∀ f, RelO (fs.lookup f) (mA f)) ∧ PySem.Within mA (fs.map (·.1)) ∧ fs.length ≤ 1000 ∧ H dx = some (.own a) := by
  obtain ⟨d, z, ne, ob, mA, n, r, q⟩ := (show ObjOk P w H h a (.ins C dx fs) from hok a _ e)
  exact ⟨mA, ⟨ob, n, ne⟩, r, q, z, d⟩
end
structure Cls (K : PySem.W.Frag) (C : Addr) : Prop where
  pg : PySem.W.plainGet K C Str.empty = true
  hd : PySem.W.hasDictIn K C = true
  po : PySem.W.plainOver K C = true
  sa : PySem.W.findIn K (.ref C) "__setattr__" = some (some (.builtin "object.__setattr__"))
theorem Cls.get {K : PySem.W.Frag} {C : Addr} (c : Cls K C) (f : Str) : PySem.W.plainGet K C f = true := c.pg
def NoAttr (K : PySem.W.Frag) (C : Addr) (f : Str) : Prop := PySem.W.findIn K (.ref C) f = some none
structure Con (K : PySem.W.Frag) (C : Addr) (f : Str) (v : V) (u : Value) : Prop where
  at_ : PySem.W.findIn K (.ref C) f = some (some u)
  rel : RelV v u
  get : PySem.W.specialIn K u "__get__" = some none
  cp : PySem.W.copiedNames.contains f = false
structure Meth (K : PySem.W.Frag) (C : Addr) (m : Str) (f : Addr) : Prop where
  at_ : PySem.W.findIn K (.ref C) m = some (some (.ref f))
  fn : PySem.W.isFn K (.ref f) = true
  kp : PySem.W.keepIn K (.ref f) = true
section
variable {X : Cx} {pins : List (Addr × Obj)} {σ : St} {H : Hp} {s : Shared} {a C dx : Addr} {fs : List (Str × V)} {f : Str} {v : V} {A : Around} {E : Value → Shared → Prop}
theorem Inv.made (I : Inv X pins σ H s) : Inv X pins σ (upd (upd H s.heap.objs.size (.own (s.heap.objs.size + 1))) (s.heap.objs.size + 1) (.ins C s.heap.objs.size []))
    { s with heap := (s.heap.push PySem.W.emptyDict).push (PySem.W.instObj C s.heap.objs.size) } := by
  have e1 : (s.heap.push PySem.W.emptyDict).get? s.heap.objs.size = some PySem.W.emptyDict := Heap.get?_push_size s.heap rfl
  have e2 : ((s.heap.push PySem.W.emptyDict).push (PySem.W.instObj C s.heap.objs.size)).get? (s.heap.objs.size + 1) = some (PySem.W.instObj C s.heap.objs.size) := by
    have := Heap.get?_push_size (s.heap.push PySem.W.emptyDict) (o := PySem.W.instObj C s.heap.objs.size) rfl
    rwa [Heap.size_push] at this
  have e3 : (s.heap.push PySem.W.emptyDict).Ns s.heap.objs.size (fun _ => none) := ⟨PySem.W.emptyDict, #[], _, e1, rfl, (fun e he => absurd he (by simp)), fun _ => rfl⟩
  have I1 := I.laid (a := s.heap.objs.size) (o := .own (s.heap.objs.size + 1)) (h' := s.heap.push PySem.W.emptyDict) (t' := s.toks) (fun b u q => Heap.get?_push_of_some _ q) (Nat.le_refl _) ⟨_, e1⟩
  refine I1.laid (a := s.heap.objs.size + 1) (o := .ins C s.heap.objs.size []) (t' := s.toks) (fun b u q => Heap.get?_push_of_some _ q) (Nat.le_of_eq (Heap.size_push _ _)) ?_
  have ne : s.heap.objs.size ≠ s.heap.objs.size + 1 := Nat.ne_of_lt (Nat.lt_succ_self _)
  refine ⟨by rw [upd_ne ne, upd_same], Nat.zero_le _, ne, e2, fun _ => none, (Heap.Ns1.of_empty e3).at fun o q => Heap.get?_push_of_some _ q, fun _ => True.intro, fun y hy => absurd rfl hy⟩
end
def tFld (K : PySem.W.Frag) (ta : TE) (f : Str) : TE := fun σ H Q => ta σ H fun x H1 => ∃ a C dx fs v, x = .ref a ∧ H1 a = some (.ins C dx fs) ∧ Cls K C ∧ NoAttr K C f ∧ fs.lookup f = some v ∧ Q v H1
def sFld (K : PySem.W.Frag) (ta tv : TE) (f : Str) : TS := fun D σ H => tv σ H fun y H1 => ta σ H1 fun x H2 => ∃ a C dx fs, x = .ref a ∧ H2 a = some (.ins C dx fs) ∧ Cls K C ∧ NoAttr K C f ∧ fs.length < 1000 ∧
  D.nx σ (upd H2 a (.ins C dx (putF f y fs)))
section
variable {X : Cx} {o e value : Expr} {f : Str} {pos pos' tpos : Pos} {ta tv : TE}
end
section
variable {X : Cx} {pins : List (Addr × Obj)} {σ : St} {H : Hp} {s : Shared} {A : Around} {E : Value → Shared → Prop} {Q : Value → Shared → Prop} {c : Value} {b : Bool}
inductive TyOf (K : PySem.W.Frag) (H : Hp) : V → Value → Prop where
  | non : TyOf K H .non (.type "NoneType")
  | bl (x : Bool) : TyOf K H (.bl x) (.type "bool")
  | int (i : Int) : TyOf K H (.int i) (.type "int")
  | str (x : Str) : TyOf K H (.str x) (.type "str")
  | flt (x : UInt64) : TyOf K H (.flt x) (.type "float")
  | lst {a : Addr} {xs : List V} (e : H a = some (.lst xs)) : TyOf K H (.ref a) (.type "list")
  | frz {a : Addr} {o : Obj} {xs : List V} (e : H a = some (.frz o (.lst xs))) : TyOf K H (.ref a) (.type "list")
  | tup {a : Addr} {xs : List V} (e : H a = some (.tup xs)) : TyOf K H (.ref a) (.type "tuple")
  | dK {a : Addr} {kvs : List (Key × V)} (e : H a = some (.dK kvs)) : TyOf K H (.ref a) (.type "dict")
  | dT {a : Addr} {kvs : List (List Key × V)} (e : H a = some (.dT kvs)) : TyOf K H (.ref a) (.type "dict")
  | ins {a C dx : Addr} {fs : List (Str × V)} (e : H a = some (.ins C dx fs)) (cl : Cls K C) (ha : PySem.W.findIn K (.ref C) "__class__" = some (some (.builtin "object.__class__")))
      (hn : PySem.W.specialIn K (.builtin "object.__class__") "__get__" = some (some (.builtin "getset_descriptor.__get__"))) (htk : PySem.W.takesIn K (.builtin "object.__class__") = some true)
      (hm : PySem.W.mroIn K C (.type "object") = some true) : TyOf K H (.ref a) (.ref C)
theorem isinst_ok {x : V} {u t : Value} (I : Inv X pins σ H s) (rx : RelV x u) (ty : TyOf X.K H x t) (e : PySem.W.kitOne X.K t c = some b) (h : ∀ tk, Q (.bool b) { s with toks := tk }) :
    wpAny (model X.prog X.w) A (call (.builtin "isinstance") [u, c]) Q E s := by
  cases ty with
  | non => cases (show u = Value.none from rx); exact PySem.W.kia_one PySem.W.kitx_none I.kIn True.intro e (fun z => nomatch z) h
  | bl y => cases (show u = Value.bool y from rx); exact PySem.W.kia_one PySem.W.kitx_bool I.kIn True.intro e (fun z => nomatch z) h
  | int i => obtain ⟨t, q⟩ := (show ∃ t, u = Value.int i t from rx); cases q; exact PySem.W.kia_one PySem.W.kitx_int I.kIn True.intro e (fun z => nomatch z) h
  | str y => obtain ⟨t, q⟩ := (show ∃ t, u = Value.str y t from rx); cases q; exact PySem.W.kia_one PySem.W.kitx_str I.kIn True.intro e (fun z => nomatch z) h
  | flt y => obtain ⟨t, q⟩ := (show ∃ t, u = Value.float y t from rx); cases q; exact PySem.W.kia_one PySem.W.kitx_float I.kIn True.intro e (fun z => nomatch z) h
  | @lst a xs ea =>
    cases (show u = Value.ref a from rx)
    obtain ⟨_, _, n, _, h1⟩ := (show ObjOk X.prog X.w H s.heap a (.lst xs) from I.hok a _ ea)
    exact PySem.W.kia_one PySem.W.kitx_list I.kIn ⟨_, h1, rfl⟩ e (fun z => nomatch z) h
  | @frz a ob xs ea =>
    cases (show u = Value.ref a from rx)
    obtain ⟨_, _, _, n, _, h1⟩ := (show ObjOk X.prog X.w H s.heap a (.frz ob (.lst xs)) from I.hok a _ ea)
    exact PySem.W.kia_one PySem.W.kitx_list I.kIn ⟨_, h1, rfl⟩ e (fun z => nomatch z) h
  | @tup a xs ea =>
    cases (show u = Value.ref a from rx)
    obtain ⟨_, _, _, p⟩ := (show ObjOk X.prog X.w H s.heap a (.tup xs) from I.hok a _ ea)
    obtain ⟨o, h1, h2, _⟩ := p
    exact PySem.W.kia_one PySem.W.kitx_tuple I.kIn ⟨o, h1, h2⟩ e (fun z => nomatch z) h
  | @dK a kvs ea =>
    cases (show u = Value.ref a from rx)
    obtain ⟨_, _, vs, _, p⟩ := (show ObjOk X.prog X.w H s.heap a (.dK kvs) from I.hok a _ ea)
    obtain ⟨o, es, ep, h1, h2, _⟩ := p
    exact PySem.W.kia_one PySem.W.kitx_dict I.kIn ⟨o, h1, h2.1⟩ e (fun z => nomatch z) h
  | @dT a kvs ea =>
    cases (show u = Value.ref a from rx)
    obtain ⟨_, _, xs, _, o, es, ep, h1, h2, _⟩ := (show ObjOk X.prog X.w H s.heap a (.dT kvs) from I.hok a _ ea)
    exact PySem.W.kia_one PySem.W.kitx_dict I.kIn ⟨o, h1, h2.1⟩ e (fun z => nomatch z) h
  | @ins a C dx fs ea cl ha hn htk hm =>
    cases (show u = Value.ref a from rx)
    obtain ⟨mA, O, _⟩ := ins_get I.hok ea
    obtain ⟨od, J, _⟩ := O.look
    exact PySem.W.kia_one (PySem.W.kitx_own (cl.get _) cl.hd ha hn htk hm) I.kIn J e (fun z => nomatch z) h
end
end L2
namespace L2
open PySem PySem.Spec PyProof.Rows
structure Room (k : Nat) (A : Around) : Prop where
  hd : A.handled = none
  dp : A.depth + 3 * k + 5 < recursionLimit
  un : A.units + 16 * k + 200 < cLine
theorem Room.mono {j k : Nat} {A : Around} (r : Room k A) (h : j ≤ k) : Room j A := ⟨r.hd, by have := r.dp; omega, by have := r.un; omega⟩
theorem Room.deeper {k : Nat} {A : Around} (r : Room (k + 1) A) (env : Env) : Room k (A.deeper env) :=
  ⟨r.hd, by have := r.dp; show A.depth + 1 + 3 * k + 5 < _; omega, by have := r.un; show A.units + 3 + 16 * k + 200 < _; omega⟩
theorem Room.in1 {k : Nat} {A : Around} (r : Room (k + 1) A) : Room k A.in1 :=
  ⟨r.hd, by have := r.dp; show A.depth + 3 * k + 5 < _; omega, by have := r.un; show A.units + 1 + 16 * k + 200 < _; omega⟩
theorem make_depth {A : Around} {C : Addr} {us : List Value} {kw : List (Str × Value)} : (A.under (.builtin "type.__call__" ⟨.ref C :: us, kw⟩)).depth = A.depth + 1 := by
  first | rfl | simp [Around.under, Code.weight, Code.isCreation, Code.isGuard, Code.isCaller, Code.frames, Code.isFrame, guardIds]
theorem make_units {A : Around} {C : Addr} {us : List Value} {kw : List (Str × Value)} : (A.under (.builtin "type.__call__" ⟨.ref C :: us, kw⟩)).units = A.units + 1 := by
  first | rfl | simp [Around.under, Code.cUnits, Code.frames, Code.isFrame]
theorem Room.make {k : Nat} {A : Around} (r : Room (k + 1) A) (C : Addr) (us : List Value) (kw : List (Str × Value)) : Room k (A.under (.builtin "type.__call__" ⟨.ref C :: us, kw⟩)) :=
  ⟨r.hd, by have := r.dp; rw [make_depth]; omega, by have := r.un; rw [make_units]; omega⟩
theorem Room.depth {k : Nat} {A : Around} (r : Room k A) : A.depth < recursionLimit := by have := r.dp; omega
theorem Room.units {k : Nat} {A : Around} (r : Room k A) : A.units + 64 < cLine := by have := r.un; omega
def tNil : TA := fun _ H Q => Q [] H
def tCons (ta : TE) (tr : TA) : TA := fun σ H Q => ta σ H fun x H1 => tr σ H1 fun xs H2 => Q (x :: xs) H2
section
variable {X : Cx} {e : Expr} {es : List Expr} {te : TE} {t : TA} {pos : Pos}
theorem pa_nil : PA X [] tNil := fun _ _ _ _ H Q I h => Calls.spliced_nil ⟨[], H, I, .nil, h⟩
theorem pa_cons (ha : PE X e te) (hr : PA X es t) (hs : starEach (e :: es) X.env = (false, eval e X.env) :: starEach es X.env := by rfl) : PA X (e :: es) (tCons te t) := by
  intro pos pins s σ H Q I h
  rw [hs]
  show wpAny _ _ (spliced ((false, eval e X.env) :: backTo pos (starEach es X.env))) _ _ s
  refine Calls.spliced_cons (thn (ha pins s σ H _ I h) fun u s1 ⟨x, H1, I1, r1, q1⟩ => ?_)
  exact thn (hr pos pins s1 σ H1 _ I1 q1) fun us s2 ⟨xs, H2, I2, r2, q2⟩ => ⟨x :: xs, H2, I2, .cons r1 r2, q2⟩
def tTup (t : TA) : TE := fun σ H Q => t σ H fun xs H1 => xs.length ≤ sizeLine ∧ ∀ p, H1 p = none → Q (.ref p) (upd H1 p (.tup xs))
def tLst (t : TA) : TE := fun σ H Q => t σ H fun xs H1 => xs.length ≤ sizeLine ∧ ∀ p, H1 p = none → Q (.ref p) (upd H1 p (.lst xs))
theorem pe_tup {x1} (h : PA X es t) : PE X (.Tuple es x1 pos) (tTup t) := by
  intro pins s σ H Q I hq
  refine wpAny_Tuple_spliced (thn (h pos pins s σ H _ I hq) fun us s1 ⟨xs, H1, I1, r, z, q⟩ => ⟨by rw [← r.length]; exact z, ?_⟩)
  have hf : H1 s1.heap.objs.size = none := I1.hok.fresh (Nat.le_refl _)
  refine ⟨.ref s1.heap.objs.size, upd H1 s1.heap.objs.size (.tup xs), I1.laid (t' := s1.toks) (fun b u e => Heap.get?_push_of_some _ e) (Nat.le_refl _) ?_, rfl, q _ hf⟩
  exact ⟨z, us, r, ⟨_, Heap.get?_push_size _ rfl, rfl, _, rfl⟩⟩
theorem pe_lst (h : PA X es t) : PE X (.List es pos) (tLst t) := by
  intro pins s σ H Q I hq
  refine wpAny_List_spliced (thn (h pos pins s σ H _ I hq) fun us s1 ⟨xs, H1, I1, r, z, q⟩ => ⟨by rw [← r.length]; exact z, ?_⟩)
  have hf : H1 s1.heap.objs.size = none := I1.hok.fresh (Nat.le_refl _)
  refine ⟨.ref s1.heap.objs.size, upd H1 s1.heap.objs.size (.lst xs), I1.laid (t' := s1.toks) (fun b u e => Heap.get?_push_of_some _ e) (Nat.le_refl _) ?_, rfl, q _ hf⟩
  exact ⟨z, us, 0, r, Heap.get?_push_size _ rfl⟩
end
abbrev Sp := List V → Hp → VK → XK → Prop
abbrev CXT := List Env → Hp → Shared → XK → Value → Shared → Prop
structure Env0 (P : Program) (w : World) (K : PySem.W.Frag) (mg : Str → Option Value) (base : Heap) (A : Around) (outer : List Env) (s : Shared) (H : Hp) : Prop where
  frames : A.frames = some outer
  mod : Mod K mg base
  bs : ∀ b o, base.get? b = some o → s.heap.get? b = some o ∧ H b = none
  bsz : base.objs.size ≤ s.heap.objs.size
  funs : s.heap.FunFrames base outer
  frf : ∀ b ∈ frs outer, H b = none
  hok : HOk P w H s.heap
  bare : AllBare s.gens
def CE (outer : List Env) (P : Program) (w : World) (H : Hp) (s : Shared) (Q : VK) (u : Value) (s' : Shared) : Prop :=
  ∃ v H', s'.os = s.os ∧ AllBare s'.gens ∧ Un (frs outer) [] H H' s.heap s'.heap ∧ HOk P w H' s'.heap ∧ RelV v u ∧ Q v H'
def CR (CX : CXT) (outer : List Env) (P : Program) (w : World) (H : Hp) (s : Shared) (Q : VK) (E : XK) (r : Result) (s' : Shared) : Prop :=
  match r with
  | .ok (.ret u) => CE outer P w H s Q u s'
  | .ok _ => False
  | .error e => CX outer H s E e s'
structure FnOk (P : Program) (w : World) (K : PySem.W.Frag) (mg : Str → Option Value) (base : Heap) (CX : CXT) (k : Nat) (f : Addr) (fd : FuncData) (ps : List Str) (sp : Sp) : Prop where
  len : ∀ vs H Q E, sp vs H Q E → vs.length = ps.length
  run : ∀ (A : Around) (outer : List Env) (s : Shared) (H : Hp) (args : Args) (us : List Value) (vs : List V) (Q : VK) (E : XK), Room k A → Env0 P w K mg base A outer s H → BindsTo s fd args (ps.zip us) → Vals vs us → sp vs H Q E →
    codeAny (model P w) A (.call (.ref f) args) (CR CX outer P w H s Q E) s
theorem FnOk.mono {P : Program} {w : World} {K : PySem.W.Frag} {mg : Str → Option Value} {base : Heap} {CX : CXT} {j k : Nat} {f : Addr} {fd : FuncData} {ps : List Str} {sp : Sp} (F : FnOk P w K mg base CX j f fd ps sp) (h : j ≤ k) :
    FnOk P w K mg base CX k f fd ps sp := ⟨F.len, fun A outer s H args us vs Q E hr => F.run A outer s H args us vs Q E (hr.mono h)⟩
theorem FnOk.imp {P : Program} {w : World} {K : PySem.W.Frag} {mg : Str → Option Value} {base : Heap} {CX : CXT} {k : Nat} {f : Addr} {fd : FuncData} {ps : List Str} {sp sp' : Sp} (F : FnOk P w K mg base CX k f fd ps sp)
    (h : ∀ vs H Q E, sp' vs H Q E → sp vs H Q E) : FnOk P w K mg base CX k f fd ps sp' :=
  ⟨fun vs H Q E q => F.len vs H Q E (h _ _ _ _ q), fun A outer s H args us vs Q E hr he hb hv hs => F.run A outer s H args us vs Q E hr he hb hv (h _ _ _ _ hs)⟩
theorem Env0.make {P : Program} {w : World} {K : PySem.W.Frag} {mg : Str → Option Value} {base : Heap} {A : Around} {outer : List Env} {s : Shared} {H : Hp} (e : Env0 P w K mg base A outer s H) (C : Addr) (us : List Value) (kw : List (Str × Value)) :
    Env0 P w K mg base (A.under (.builtin "type.__call__" ⟨.ref C :: us, kw⟩)) outer s H := ⟨by first | exact e.frames | (simpa [Around.under, Code.envs, Code.isFrame, pushEnvs] using e.frames), e.mod, e.bs, e.bsz, e.funs, e.frf, e.hok, e.bare⟩
theorem Env0.in1 {P : Program} {w : World} {K : PySem.W.Frag} {mg : Str → Option Value} {base : Heap} {A : Around} {outer : List Env} {s : Shared} {H : Hp} (e : Env0 P w K mg base A outer s H) :
    Env0 P w K mg base A.in1 outer s H := ⟨e.frames, e.mod, e.bs, e.bsz, e.funs, e.frf, e.hok, e.bare⟩
section
variable {X : Cx} {pins : List (Addr × Obj)} {σ : St} {H : Hp} {s s' : Shared}
theorem Inv.env0 (I : Inv X pins σ H s) : Env0 X.prog X.w X.K X.mg X.base X.A X.stack s H :=
  ⟨I.ok.frames, I.ok.mod, I.bs, Nat.le_trans I.ok.bsz I.sz, I.stack, I.stkFree, I.hok, I.bare⟩
theorem Inv.after {Q : VK} {u : Value} (I : Inv X pins σ H s) (h : CE X.stack X.prog X.w H s Q u s') : EP X pins σ Q u s' := by
  obtain ⟨v, H', os, bare, un, hok, r, q⟩ := h
  obtain ⟨hh, g, d, t, os'⟩ := s'
  obtain rfl : os' = s.os := os
  exact ⟨v, H', I.call (h' := hh) (g' := g) (d' := d) (t' := t) (ch := []) un hok bare (fun b z => absurd z (by simp)), r, q⟩
end
def tCall (sp : Sp) (dvs : List V) (E : XK) (t : TA) : TE := fun σ H Q => t σ H fun vs H1 => sp (vs ++ dvs) H1 Q E
def tMeth (C : Addr) (m : Str) (sp : Sp) (dvs : List V) (E : XK) (ta : TE) (t : TA) : TE := fun σ H Q => ta σ H fun x H1 => ∃ a dx fs, x = .ref a ∧ H1 a = some (.ins C dx fs) ∧ fs.lookup m = none ∧
  t σ H1 fun vs H2 => sp (x :: (vs ++ dvs)) H2 Q E
def tMake (C : Addr) (sp : Sp) (dvs : List V) (E : XK) (t : TA) : TE := fun σ H Q => t σ H fun vs H1 => ∀ x dx, H1 x = none → H1 dx = none → dx ≠ x →
  sp (.ref x :: (vs ++ dvs)) (upd (upd H1 dx (.own x)) x (.ins C dx [])) (fun v H2 => v = .non ∧ Q (.ref x) H2) E
def Binds (K : PySem.W.Frag) (fd : FuncData) (ps : List Str) (ds : List Value) : Prop :=
  ∀ (s : Shared) (us : List Value), K.In s.heap → (us ++ ds).length = ps.length → BindsTo s fd ⟨us, []⟩ (ps.zip (us ++ ds))
theorem Binds.all {K : PySem.W.Frag} {fd : FuncData} {ps : List Str} (h : ∀ us : List Value, us.length = ps.length → bindArgs fd ⟨us, []⟩ = pure (ps.zip us)) : Binds K fd ps [] := fun s us _ hl => by
  rw [List.append_nil] at hl ⊢
  exact .of_eq (h us hl)
def Passes (CX : CXT) (X : Cx) (E : XK) : Prop := ∀ (pins : List (Addr × Obj)) (σ : St) (H : Hp) (s : Shared) (e : Value) (s' : Shared), Inv X pins σ H s → CX X.stack H s E e s' → X.xe e s'
section
variable {X : Cx} {CX : CXT} {k : Nat} {f C : Addr} {fd : FuncData} {ps : List Str} {sp : Sp} {dvs : List V} {ds : List Value} {E : XK} {x m : Str} {p pos apos : Pos} {e o : Expr} {es : List Expr} {ta : TE} {t : TA}
theorem run_fn {pins : List (Addr × Obj)} {σ : St} {H : Hp} {s : Shared} {Q : VK} {us : List Value} {vs : List V} (F : FnOk X.prog X.w X.K X.mg X.base CX k f fd ps sp) (hr : Room k X.A) (hb : Binds X.K fd ps ds) (hd : Vals dvs ds) (hx : Passes CX X E)
    (I : Inv X pins σ H s) (r : Vals vs us) (h : sp (vs ++ dvs) H Q E) : wpAny (model X.prog X.w) X.A (call (.ref f) us) (EP X pins σ Q) X.xe s := by
  have r2 : Vals (vs ++ dvs) (us ++ ds) := r.append hd
  have hl : (us ++ ds).length = ps.length := by rw [← r2.length]; exact F.len _ _ _ _ h
  refine wpAny_call (codeAny_mono (F.run X.A X.stack s H ⟨us, []⟩ (us ++ ds) (vs ++ dvs) Q E hr I.env0 (hb s us I.kIn hl) r2 h) fun r s' hq => ?_)
  cases r with
  | error e => exact hx pins σ H s e s' I hq
  | ok fl =>
    cases fl with
    | ret u => exact I.after hq
    | next => exact False.elim hq
    | brk => exact False.elim hq
    | cont => exact False.elim hq
theorem pe_call (F : FnOk X.prog X.w X.K X.mg X.base CX k f fd ps sp) (hr : Room k X.A) (hg : Gl X x) (hm : X.mg x = some (.ref f)) (hk : PySem.W.keepIn X.K (.ref f) = true) (hb : Binds X.K fd ps ds) (hd : Vals dvs ds) (hx : Passes CX X E)
    (ha : PA X (e :: es) t) (hdb : (x == ("__debug__" : Str)) = false := by decide) (he : starEach (e :: es) X.env = (false, eval e X.env) :: starEach es X.env := by rfl) (hpl : (backTo pos (starEach es X.env)).any (·.1) = false := by rfl) :
    PE X (.Call (.Name x p) (e :: es) [] pos) (tCall sp dvs E t) := by
  intro pins s σ H Q I h
  refine wpAny_Call_Name_kw (ld_glob I hg hm ?_ hdb)
  refine PySem.W.callWith_K (h₀ := X.base) I.ok.mod.kin hk (thn (ha pos pins s σ H _ I h) fun us s1 ⟨vs, H1, I1, r, q⟩ => ⟨I1.kIn, ?_⟩) he hpl
  exact run_fn F hr hb hd hx I1 r q
structure Mk (K : PySem.W.Frag) (C f : Addr) : Prop where
  makes : PySem.W.makesIn K C = true
  init : PySem.W.findIn K (.ref C) "__init__" = some (some (.ref f))
  fn : PySem.W.isFn K (.ref f) = true
  kp : PySem.W.keepIn K (.ref C) = true
end
section
variable {X : Cx} {CX : CXT} {k : Nat} {f C : Addr} {fd : FuncData} {ps ks : List Str} {sp : Sp} {E : XK} {x m : Str} {p pos apos kpos : Pos} {e o : Expr} {es : List Expr} {kws : List Keyword} {te ta : TE} {t tk : TA} {nm : Option Str}
structure KBinds (K : PySem.W.Frag) (fd : FuncData) (ps ks : List Str) (g : List Value → List Value → List Value) (gV : List V → List V → List V) : Prop where
  to : ∀ (s : Shared) (us ws : List Value), K.In s.heap → (g us ws).length = ps.length → BindsTo s fd ⟨us, ks.zip ws⟩ (ps.zip (g us ws))
  rel : ∀ {vs : List V} {us : List Value} {zs : List V} {ws : List Value}, Vals vs us → Vals zs ws → Vals (gV vs zs) (g us ws)
variable {g : List Value → List Value → List Value} {gV : List V → List V → List V}
end
structure FnScope (N P : List Str) (sc : Scope) : Prop where
  kind : sc.kind = .function
  co : sc.isCoroutine = false
  gen : sc.isGenerator = false
  nd : N.Nodup
  pre : N.take P.length = P
  par : ∀ x ∈ P, sc.names.lookup x = some .local ∨ sc.names.lookup x = some .cell
  nofree : ∀ y ∈ sc.names, y.2 ≠ .free
theorem bindL_out {kindOf : Str → Option NameKind} {x : Str} : ∀ {binds : List (Str × Value)} {m : Str → Option Value}, (∀ v, (x, v) ∉ binds) → bindL kindOf binds m x = m x
  | [], _, _ => rfl
  | (n, v) :: r, m, h => by
    unfold bindL
    rw [bindL_out fun w hw => h w (List.mem_cons_of_mem _ hw)]
    split
    · have : x ≠ n := by rintro rfl; exact h v List.mem_cons_self
      simp [this]
    · rfl
theorem bindC_out {kindOf : Str → Option NameKind} {x : Str} : ∀ {binds : List (Str × Value)} {m : Str → Option Value}, (∀ v, (x, v) ∉ binds) → bindC kindOf binds m x = m x
  | [], _, _ => rfl
  | (n, v) :: r, m, h => by
    unfold bindC
    rw [bindC_out fun w hw => h w (List.mem_cons_of_mem _ hw)]
    split
    · rfl
    · have : x ≠ n := by rintro rfl; exact h v List.mem_cons_self
      simp [this]
theorem bindL_get {kindOf : Str → Option NameKind} {x : Str} {v : Value} : ∀ {P : List Str} {vs : List Value} {i : Nat} {m : Str → Option Value}, P.Nodup → P[i]? = some x → vs[i]? = some v → kindOf x = some .local →
    bindL kindOf (P.zip vs) m x = some v
  | [], _, _, _, _, h, _, _ => by simp at h
  | _ :: _, [], _, _, _, _, h, _ => by simp at h
  | p :: P, w :: vs, 0, m, nd, h1, h2, hk => by
    simp at h1 h2; subst h1; subst h2
    show bindL kindOf ((p, w) :: P.zip vs) m p = _
    unfold bindL
    rw [bindL_out fun v hv => (List.nodup_cons.mp nd).1 (List.of_mem_zip hv).1, if_pos hk]
    simp
  | p :: P, w :: vs, i + 1, m, nd, h1, h2, hk => by
    show bindL kindOf ((p, w) :: P.zip vs) m x = _
    unfold bindL
    exact bindL_get (i := i) (List.nodup_cons.mp nd).2 (by simpa using h1) (by simpa using h2) hk
theorem bindC_get {kindOf : Str → Option NameKind} {x : Str} {v : Value} : ∀ {P : List Str} {vs : List Value} {i : Nat} {m : Str → Option Value}, P.Nodup → P[i]? = some x → vs[i]? = some v → kindOf x ≠ some .local →
    bindC kindOf (P.zip vs) m x = some v
  | [], _, _, _, _, h, _, _ => by simp at h
  | _ :: _, [], _, _, _, _, h, _ => by simp at h
  | p :: P, w :: vs, 0, m, nd, h1, h2, hk => by
    simp at h1 h2; subst h1; subst h2
    show bindC kindOf ((p, w) :: P.zip vs) m p = _
    unfold bindC
    rw [bindC_out fun v hv => (List.nodup_cons.mp nd).1 (List.of_mem_zip hv).1, if_neg hk]
    simp
  | p :: P, w :: vs, i + 1, m, nd, h1, h2, hk => by
    show bindC kindOf ((p, w) :: P.zip vs) m x = _
    unfold bindC
    exact bindC_get (i := i) (List.nodup_cons.mp nd).2 (by simpa using h1) (by simpa using h2) hk
def start (N : List Str) (vs : List V) : St := vs.map some ++ List.replicate (N.length - vs.length) none
def cxOf (CX : CXT) (P : Program) (w : World) (K : PySem.W.Frag) (mg : Str → Option Value) (base : Heap) (N : List Str) (qual : Str) (scope : Scope) (f : Addr) (cd : Value) (A : Around) (outer : List Env) (s : Shared) (H : Hp) (E : XK) : Cx where
  prog := P
  w := w
  K := K
  mg := mg
  base := base
  A := A.deeper (envOfC qual scope s.heap.objs.size f cd)
  N := N
  s₀ := s
  H₀ := H
  env := envOfC qual scope s.heap.objs.size f cd
  outer := outer
  stack := envOfC qual scope s.heap.objs.size f cd :: outer
  ex := []
  calm := true
  fn := fun _ => true
  pn := []
  xe := fun e s' => wpAny (model P w) (A.deeper (envOfC qual scope s.heap.objs.size f cd)) (leaving (envOfC qual scope s.heap.objs.size f cd) e) (fun _ s'' => CX outer H s E e s'') (fun e' s'' => CX outer H s E e' s'') s'
theorem cell_has {sc : Scope} {n : Nat} {x : Str} (h : sc.names.lookup x = some .cell) : ∃ c, (cellsFrom n sc.names []).lookup x = some c := by
  have q := PySem.W.cellsFrom_some sc.names n [] (.inl h)
  exact Option.isSome_iff_exists.mp q
theorem inv_start {CX : CXT} {P : Program} {w : World} {K : PySem.W.Frag} {mg : Str → Option Value} {base : Heap} {N ps : List Str} {qual : Str} {scope : Scope} {f : Addr} {cd : Value} {A : Around} {outer : List Env} {s s1 : Shared} {H : Hp} {E : XK} {us : List Value} {vs : List V}
    (S : FnScope N ps scope) (hd : A.handled = none) (e0 : Env0 P w K mg base A outer s H) (hl : vs.length = ps.length) (r : Vals vs us)
    (x : InCallC s s.heap.objs.size (bindL (envOfC qual scope s.heap.objs.size f cd).kindOf (ps.zip us) fun _ => none) (cellsFrom (s.heap.objs.size + 1) scope.names []) (bindC (envOfC qual scope s.heap.objs.size f cd).kindOf (ps.zip us) fun _ => none) s1) :
    Inv (cxOf CX P w K mg base N qual scope f cd A outer s H E) [] (start N vs) H s1 := by
  have hpl : ps.length ≤ N.length := by have := congrArg List.length S.pre; rw [List.length_take] at this; omega
  obtain ⟨h1, tk, rfl, hk⟩ := x.done
  have noA : ∀ b : Addr, b ∉ (cxOf CX P w K mg base N qual scope f cd A outer s H E).ex := fun b z => absurd (show b ∈ ([] : List Addr) from z) (by simp)
  refine ⟨⟨e0.mod, S.kind, rfl, rfl, Nat.le_refl _, fun y z c h1 h2 => ?_, fun y hy => ?_, fun y c _ h => ?_, fun _ => hd, Around.frames_deeper e0.frames, .inr ⟨rfl, rfl⟩, fun b z => absurd z (noA b), e0.bs, e0.bsz, fun b _ _ => noA b, fun b z => absurd z (noA b), e0.funs, e0.frf⟩,
    rfl, e0.bare, Un.kept hk, ⟨_, x.toInCall.ns, fun i y v h1 h2 h3 => ?_⟩, fun y c h => ⟨_, x.cell y c h⟩, e0.hok.fresh (Nat.le_refl _), fun y c h => ?_, fun p hp => absurd (show p ∈ ([] : List (Addr × Obj)) from hp) (by simp), e0.hok.kept hk, ?_⟩
  · exact name_of_addr x.apart (PySem.mem_of_lookup h1) (PySem.mem_of_lookup h2)
  · have hy : scope.names.lookup y = some .cell ∨ scope.names.lookup y = some .free := hy
    rcases hy with hy | hy
    · exact cell_has hy
    · exact absurd rfl (S.nofree _ (PySem.mem_of_lookup hy))
  · exact Nat.le_of_lt (x.above y c (PySem.mem_of_lookup h))
  · have hi : i < vs.length := by
      unfold start at h2
      by_cases hi : i < vs.length
      · exact hi
      · rw [List.getElem?_append_right (by simpa using hi)] at h2
        rw [List.getElem?_replicate] at h2
        split at h2 <;> cases h2
    have ha : vs[i]? = some v := by
      unfold start at h2
      rw [List.getElem?_append_left (by simpa using hi), List.getElem?_map] at h2
      cases e : vs[i]? with
      | none => rw [e] at h2; cases h2
      | some a => rw [e] at h2; cases h2; rfl
    obtain ⟨u, hu, rv⟩ := r.get ha
    have hp : ps[i]? = some y := by
      rw [← S.pre, List.getElem?_take_of_lt (by omega)]; exact h1
    have ndP : ps.Nodup := by rw [← S.pre]; exact S.nd.sublist (List.take_sublist _ _)
    refine ⟨u, rv, ?_⟩
    rcases S.par y (List.mem_of_getElem? hp) with k | k
    · exact .inl ⟨k, bindL_get ndP hp hu k⟩
    · obtain ⟨c, e⟩ := cell_has (n := s.heap.objs.size + 1) k
      refine .inr ⟨.inl k, c, e, ?_⟩
      have q := x.cell y c e
      rw [bindC_get ndP hp hu (by show scope.names.lookup y ≠ _; rw [k]; decide)] at q
      exact q
  · exact e0.hok.fresh (Nat.le_of_lt (x.above y c (PySem.mem_of_lookup h)))
  · unfold start
    show _ = N.length
    rw [List.length_append, List.length_map, List.length_replicate]
    omega
theorem fn_of {CX : CXT} {P : Program} {w : World} {K : PySem.W.Frag} {mg : Str → Option Value} {base : Heap} {k : Nat} {f : Addr} {name qual : Str} {params : Arguments} {body : List Stmt} {scope : Scope} {dV kV doc pm cdv ct oc : Value} {an od : Option Addr}
    {osl : Array (Option Value)} {N ps : List Str} {sp : Sp} (lk : K.lookup f = some ⟨oc, od, .func (PySem.W.fnOf name qual params body scope dV kV doc pm an cdv ct), osl⟩) (hcd : PySem.W.codeIn K cdv qual = true) (S : FnScope N ps scope)
    (len : ∀ vs H Q E, sp vs H Q E → vs.length = ps.length)
    (hbody : ∀ (A : Around) (outer : List Env) (s : Shared) (H : Hp) (vs : List V) (Q : VK) (E : XK), Room k (A.deeper (envOfC qual scope s.heap.objs.size f cdv)) → sp vs H Q E →
      ∃ t, PSs (cxOf CX P w K mg base N qual scope f cdv A outer s H E) body t ∧ t { nx := fun _ H' => Q .non H', rt := Q } (start N vs) H) :
    FnOk P w K mg base CX (k + 1) f (PySem.W.fnOf name qual params body scope dV kV doc pm an cdv ct) ps sp := by
  refine ⟨len, fun A outer s H args us vs Q E hr e0 hb r hsp => ?_⟩
  have hl := len _ _ _ _ hsp
  have KX : K.In s.heap := e0.mod.kin.keeps fun b o e => (e0.bs b o e).1
  have lim : s.heap.NoLimit := e0.mod.nolimit.keeps fun b o e => (e0.bs b o e).1
  have hkind : ∀ y ∈ ps.zip us, scope.names.lookup y.1 = some .local ∨ (scope.names.lookup y.1 = some .cell ∧ ((cellsFrom (s.heap.objs.size + 1) scope.names []).lookup y.1).isSome = true) := fun ⟨n, v⟩ hy => by
    rcases S.par n (List.of_mem_zip hy).1 with q | q
    · exact .inl q
    · exact .inr ⟨q, PySem.W.cellsFrom_some _ _ _ (.inl q)⟩
  refine codeAny_call_function hr.depth (KX _ _ lk) rfl S.co S.gen rfl (PySem.W.codeRec_of KX hcd) (hb _ _ _ _ ?_)
  refine wpAny_newFunctionEnv_cells S.kind hkind fun env he s1 x => ?_
  subst he
  refine ⟨lim.keeps x.toInCall.keep, codeAny_func ?_⟩
  obtain ⟨t, ht, hq⟩ := hbody A outer s H vs Q E (hr.deeper _) hsp
  have I : Inv (cxOf CX P w K mg base N qual scope f cdv A outer s H E) [] (start N vs) H s1 := inv_start S hr.hd e0 hl r x
  refine wpAny_mono (ht [] s1 (start N vs) H _ I hq) (fun fl s' hs => ?_) fun e s' hs => hs
  have fin : ∀ {σ' : St} {H' : Hp} {v : V} {u : Value}, Inv (cxOf CX P w K mg base N qual scope f cdv A outer s H E) [] σ' H' s' → RelV v u → Q v H' → CE outer P w H s Q u s' :=
    fun {σ' H' v u} J rv q => ⟨v, H', J.os, J.bare, J.base, J.hok, rv, q⟩
  cases fl with
  | ret u =>
    obtain ⟨v, σ', H', J, rv, q⟩ := hs
    exact fin J rv q
  | next =>
    obtain ⟨σ', H', J, q⟩ := hs
    exact fin (v := V.non) (u := Value.none) J rfl q
  | brk =>
    obtain ⟨_, _, _, q⟩ := hs
    exact False.elim q
  | cont =>
    obtain ⟨_, _, _, q⟩ := hs
    exact False.elim q
end L2
namespace L2
open PySem PySem.Spec PyProof.Rows
section
variable {X : Cx} {x : Str} {p pos : Pos} {e : Expr} {es : List Expr} {t : TA} {id T : String} {r : List V → Hp → VK → Prop}
def tCB (r : List V → Hp → VK → Prop) (t : TA) : TE := fun σ H Q => t σ H fun vs H1 => r vs H1 Q
theorem pe_callB (hc : CallR X (.builtin id) r) (hg : Gl X x) (hm : X.mg x = none) (hv : bootBuiltins x = some (.builtin id)) (ha : PA X (e :: es) t) (hn : x ≠ "__name__" := by decide) (hdb : (x == ("__debug__" : Str)) = false := by decide)
    (he : starEach (e :: es) X.env = (false, eval e X.env) :: starEach es X.env := by rfl) (hpl : (backTo pos (starEach es X.env)).any (·.1) = false := by rfl) : PE X (.Call (.Name x p) (e :: es) [] pos) (tCB r t) := by
  intro pins s σ H Q I h
  refine wpAny_Call_Name_kw (ld_blt I hg hm hv ?_ hn hdb)
  exact PyProof.Rows.callWith_builtin1 (thn (ha pos pins s σ H _ I h) fun us s1 ⟨vs, H1, I1, r1, q1⟩ => hc pins s1 σ H1 vs us Q I1 r1 q1) he hpl
theorem pe_callTy (hc : CallR X (.type T) r) (hg : Gl X x) (hm : X.mg x = none) (hv : bootBuiltins x = some (.type T)) (ha : PA X (e :: es) t) (hn : x ≠ "__name__" := by decide) (hdb : (x == ("__debug__" : Str)) = false := by decide)
    (he : starEach (e :: es) X.env = (false, eval e X.env) :: starEach es X.env := by rfl) (hpl : (backTo pos (starEach es X.env)).any (·.1) = false := by rfl) : PE X (.Call (.Name x p) (e :: es) [] pos) (tCB r t) := by
  intro pins s σ H Q I h
  refine wpAny_Call_Name_kw (ld_blt I hg hm hv ?_ hn hdb)
  exact PyProof.Rows.callWith_type1 (thn (ha pos pins s σ H _ I h) fun us s1 ⟨vs, H1, I1, r1, q1⟩ => hc pins s1 σ H1 vs us Q I1 r1 q1) he hpl
end
end L2
namespace HT
open PySem PyProof.Rows
section
open PySem.SeqAt
open PySem.AutoSeq1 (wpAny_loadPart')
open PySem.MeetsSeq PySem.MeetsSeq2 PySem.MeetsSeq3
end
section
variable {prog : Program} {w : World} {A : Around} {E : Value → Shared → Prop} {s : Shared}
theorem cat_tup {t b : Addr} {vs ws : List Value} {Q : Value → Shared → Prop} (ht : IsTup s.heap t vs.toArray) (hb : IsTup s.heap b ws.toArray) (hv : vs ≠ [])
    (h1 : ws = [] → Q (.ref t) s) (h2 : ws ≠ [] → Q (.ref s.heap.objs.size) { s with heap := s.heap.push { cls := .type "tuple", data := .seq (vs ++ ws).toArray } })
    (hsz : vs.length + ws.length ≤ sizeLine) : wpAny (model prog w) A (binaryOp .Add (.ref t) (.ref b)) Q E s := by
  obtain ⟨⟨cls, dd, data, sl⟩, ho, hc, n, hd⟩ := id ht
  obtain ⟨⟨cls2, dd2, data2, sl2⟩, ho2, hc2, n2, hd2⟩ := id hb
  simp only at hc hd hc2 hd2
  subst hc hd hc2 hd2
  have e : vs.toArray ++ ws.toArray = (vs ++ ws).toArray := by simp
  by_cases hw : ws = []
  · exact concat_meets ⟨_, ho, rfl⟩ ⟨_, ho2, rfl⟩ noFill_tuple_add seq_tuple_add PySem.F.slot_tuple_add PySem.F.entry_tuple_add (PySem.F.args_tuple_add_2 _ _)
      (tuple_addW1 t b vs.toArray ws.toArray n n2 dd dd2 sl sl2 (by simpa using hv) (by simp [hw])) ⟨ho, ho2, h1 hw⟩
  · refine concat_meets ⟨_, ho, rfl⟩ ⟨_, ho2, rfl⟩ noFill_tuple_add seq_tuple_add PySem.F.slot_tuple_add PySem.F.entry_tuple_add (PySem.F.args_tuple_add_2 _ _)
      (tuple_addW2 t b vs.toArray ws.toArray n n2 dd dd2 sl sl2 (by simpa using hv) (by simpa using hw) (by rw [List.size_toArray, List.size_toArray]; exact hsz)) ⟨ho, ho2, ?_⟩
    rw [e]
    exact h2 hw
def sIx (n d : Nat) : Option Int → Nat
  | none => d
  | some v => if v < 0 then (v + (n : Int)).toNat else min v.toNat n
theorem sIx_none (n d : Nat) : sIx n d none = d := rfl
theorem sIx_nat (n d k : Nat) : sIx n d (some (k : Int)) = min k n := by
  show (if (k : Int) < 0 then ((k : Int) + (n : Int)).toNat else min (k : Int).toNat n) = min k n
  rw [if_neg (by omega), Int.toNat_natCast]
theorem sIx_le (n d : Nat) (hd : d ≤ n) (o : Option Int) : sIx n d o ≤ n := by
  cases o with
  | none => exact hd
  | some v =>
    show (if v < 0 then (v + (n : Int)).toNat else min v.toNat n) ≤ n
    by_cases hv : v < 0
    · rw [if_pos hv]; omega
    · rw [if_neg hv]; exact Nat.min_le_right _ _
theorem clip_eq (v : Int) (n d : Nat) : (if v < 0 then max (v + (n : Int)) 0 else min v (n : Int)) = ((sIx n d (some v) : Nat) : Int) := by
  show (if v < 0 then max (v + (n : Int)) 0 else min v (n : Int)) = (((if v < 0 then (v + (n : Int)).toNat else min v.toNat n) : Nat) : Int)
  by_cases hv : v < 0
  · simp only [if_pos hv]; omega
  · simp only [if_neg hv]; omega
theorem adjust_gen (lo hi : Option Int) (n : Nat) : Builtin.Slice.sliceAdjust lo hi 1 (n : Int) = (((sIx n 0 lo : Nat) : Int), ((sIx n n hi : Nat) : Int)) := by
  have h1 : ¬ ((1 : Int) < 0) := by omega
  unfold Builtin.Slice.sliceAdjust
  simp only [h1, if_false]
  refine Prod.ext ?_ ?_
  · cases lo with
    | none => rfl
    | some v => exact clip_eq v n 0
  · cases hi with
    | none => rfl
    | some v => exact clip_eq v n n
theorem places_gen (i j : Nat) : Builtin.Slice.slicePlaces (i : Int) (j : Int) 1 = j - i := by
  unfold Builtin.Slice.slicePlaces
  have h1 : (1 : Int) > 0 := by omega
  simp only [h1, if_true, Int.ediv_one]
  split <;> omega
theorem slicePart_ {v : Value} {o : Option Int} {Q : Option Int → Shared → Prop} (p : IsPart v o) (h : Q o s) : wpAny (model prog w) A (Builtin.Slice.slicePartIndex v) Q E s := by
  cases p with
  | none => exact slicePart_none h
  | int i t => exact slicePart_int h
theorem sliceApplied_gen {sl : Addr} {vl vu : Value} {lo hi : Option Int} {n : Nat} {Q : Int × Int × Nat → Shared → Prop} (hs : s.heap.IsSliceOf sl vl vu .none) (pl : IsPart vl lo) (pu : IsPart vu hi)
    (h : Q (((sIx n 0 lo : Nat) : Int), 1, sIx n n hi - sIx n 0 lo) s) : wpAny (model prog w) A (Builtin.Slice.sliceApplied (.ref sl) (pure (n : Int))) Q E s := by
  obtain ⟨os, hos, hcs, hds⟩ := id hs
  unfold Builtin.Slice.sliceApplied Builtin.Slice.sliceFields
  refine wpAny_bind (wpAny_bind (wpAny_field hos hds (x := vl) rfl (wpAny_bind (wpAny_field hos hds (x := vu) rfl (wpAny_bind (wpAny_field hos hds (x := .none) rfl (wpAny_pure ?_)))))))
  refine wpAny_bind (slicePart_none ?_)
  show wpAny _ _ (if ((1 : Int) == 0) = true then _ else _) _ _ s
  rw [if_neg (by decide)]
  refine wpAny_bind (slicePart_ pl (wpAny_bind (slicePart_ pu (wpAny_bind (wpAny_pure ?_)))))
  show wpAny _ _ (match Builtin.Slice.sliceAdjust lo hi 1 (n : Int) with | (lo, hi) => pure (lo, (1 : Int), Builtin.Slice.slicePlaces lo hi 1)) _ _ s
  rw [adjust_gen lo hi n]
  show wpAny _ _ (pure (((sIx n 0 lo : Nat) : Int), (1 : Int), Builtin.Slice.slicePlaces ((sIx n 0 lo : Nat) : Int) ((sIx n n hi : Nat) : Int) 1)) _ _ s
  rw [places_gen]
  exact wpAny_pure h
theorem pick_gen (xs : Array Value) (i k : Nat) : ((List.range k).filterMap fun (m : Nat) => xs[((i : Int) + (m : Int) * 1).toNat]?).toArray = ((xs.toList.drop i).take k).toArray := by
  have e : (fun (m : Nat) => xs[((i : Int) + (m : Int) * 1).toNat]?) = fun m => xs[i + m]? := by
    funext m
    have : ((i : Int) + (m : Int) * 1).toNat = i + m := by omega
    rw [this]
  rw [e]
  have := pick_run xs i k
  rw [List.filterMap_map] at this
  have e2 : ((fun x => xs[x]?) ∘ fun x => i + x) = fun m => xs[i + m]? := rfl
  rw [e2] at this
  rw [this]
theorem getItem_tuple_cut {t sl : Addr} {items : Array Value} {vl vu : Value} {lo hi : Option Int} {Q : Value → Shared → Prop} (ht : IsTup s.heap t items) (hs : s.heap.IsSliceOf sl vl vu .none) (pl : IsPart vl lo) (pu : IsPart vu hi)
    (hw : ¬ (sIx items.size 0 lo = 0 ∧ sIx items.size items.size hi = items.size))
    (h : Q (.ref s.heap.objs.size) { s with heap := s.heap.push { cls := .type "tuple", data := .seq ((items.toList.drop (sIx items.size 0 lo)).take (sIx items.size items.size hi - sIx items.size 0 lo)).toArray } })
    (hsz : items.size ≤ sizeLine) : wpAny (model prog w) A (getItem (.ref t) (.ref sl)) Q E s := by
  have htake : sizeOk (.seq ((items.toList.drop (sIx items.size 0 lo)).take (sIx items.size items.size hi - sIx items.size 0 lo)).toArray) := by
    show ((items.toList.drop (sIx items.size 0 lo)).take (sIx items.size items.size hi - sIx items.size 0 lo)).toArray.size ≤ sizeLine
    rw [List.size_toArray, List.length_take, List.length_drop, Array.length_toList]
    omega
  have hj : sIx items.size items.size hi ≤ items.size := sIx_le _ _ (Nat.le_refl _) hi
  obtain ⟨os, hos, hcs, hds⟩ := id hs
  have hTs : s.TypeIs (.ref sl) "slice" := ⟨os, hos, hcs⟩
  unfold getItem
  try with_reducible refine wpAny_holding ?_
  first | refine wpAny_bind (wpAny_pure ?_) | skip
  refine wpAny_bind (wpAny_sequenceKey ht.typeIs (by decide) ?_)
  refine wpAny_bind (wpAny_callSpecial?_slot (name := Str.ofString "__getitem__") ht.typeIs PyProof.Rows.slot_tuple_getitem
    (wpAny_call_entry PyProof.Rows.slot_tuple_getitem ht.typeIs entry_tuple_getitem ?_ (args_tuple_getitem _ _)))
  show wpAny _ _ (Builtin.Tuple.tupleItemsOf (.ref t) >>= _) _ _ s
  refine wpAny_bind (tupleItemsOf_ ht ?_)
  refine wpAny_bind (wpAny_typeOf hTs ?_)
  rw [if_pos (by decide)]
  refine wpAny_bind (sliceApplied_gen hs pl pu ?_)
  have hno : ¬ ((((sIx items.size 0 lo : Nat) : Int) == 0 && (1 : Int) == 1 && (sIx items.size items.size hi - sIx items.size 0 lo) == items.size) = true) := by
    intro q
    rw [Bool.and_eq_true, Bool.and_eq_true] at q
    have q1 : ((sIx items.size 0 lo : Nat) : Int) = 0 := eq_of_beq q.1.1
    have q2 : sIx items.size items.size hi - sIx items.size 0 lo = items.size := eq_of_beq q.2
    exact hw ⟨by omega, by omega⟩
  show wpAny _ _ (if (((sIx items.size 0 lo : Nat) : Int) == 0 && (1 : Int) == 1 && (sIx items.size items.size hi - sIx items.size 0 lo) == items.size) = true then _ else _) _ _ s
  rw [if_neg hno, pick_gen]
  first
    | exact wpAny_bind (m := Builtin.Tuple.tupleExact _) (wpAny_newObj_type (wpAny_pure ⟨_, rfl, wpAny_pure h⟩) htake)
    | exact wpAny_bind (m := Builtin.Tuple.tupleExact _) (wpAny_newObj_type (wpAny_bind (wpAny_pure (wpAny_pure ⟨_, rfl, wpAny_pure h⟩))) htake)
    | exact wpAny_bind (wpAny_bind (m := Builtin.Tuple.tupleExact _) (wpAny_newObj_type (wpAny_pure (wpAny_pure ⟨_, rfl, wpAny_pure h⟩)) htake))
    | exact wpAny_bind (wpAny_bind (m := Builtin.Tuple.tupleExact _) (wpAny_newObj_type (wpAny_pure ⟨_, rfl, wpAny_pure h⟩) htake))
end
end HT
namespace L2
open PySem PySem.Spec PyProof.Rows
abbrev TO := St → Hp → (Option Int → Hp → Prop) → Prop
def PO (X : Cx) (e : Option Expr) (t : TO) : Prop :=
  ∀ (pins : List (Addr × Obj)) (s : Shared) (σ : St) (H : Hp) (Q : Option Int → Hp → Prop), Inv X pins σ H s → t σ H Q →
    wpAny (model X.prog X.w) X.A (evalPart e X.env) (fun u s' => ∃ o H', Inv X pins σ H' s' ∧ IsPart u o ∧ Q o H') X.xe s
def tNoPart : TO := fun _ H Q => Q none H
def tPart (t : TE) : TO := fun σ H Q => t σ H fun x H1 => ∃ i, x = .int i ∧ Q (some i) H1
section
variable {X : Cx} {e : Expr} {te : TE} {lo hi : Option Expr} {tl th : TO} {pos p2 : Pos}
theorem po_none : PO X none tNoPart := by
  intro pins s σ H Q I h
  rw [evalPart_none]
  exact wpAny_pure ⟨none, H, I, .none, h⟩
theorem po_some (h : PE X e te) : PO X (some e) (tPart te) := by
  intro pins s σ H Q I hw
  rw [evalPart_some]
  refine thn (h pins s σ H _ I hw) fun u s1 ⟨x, H1, I1, r1, q1⟩ => ?_
  obtain ⟨i, rfl, q⟩ := q1
  obtain ⟨t, rfl⟩ := r1
  exact ⟨some i, H1, I1, .int i t, q⟩
def SlR (X : Cx) (r : V → Option Int → Option Int → Hp → VK → Prop) : Prop :=
  ∀ (pins : List (Addr × Obj)) (s : Shared) (σ : St) (H : Hp) (x : V) (v vl vu : Value) (lo hi : Option Int) (sl : Addr) (Q : VK), Inv X pins σ H s → RelV x v → s.heap.IsSliceOf sl vl vu .none → IsPart vl lo → IsPart vu hi → r x lo hi H Q →
    ∃ T id, typeLookup (.type T) "__getitem__" = pure (some (.builtin id)) ∧ s.TypeIs v T ∧ wpAny (model X.prog X.w) X.A (getItem v (.ref sl)) (EP X pins σ Q) X.xe s
def tSl (r : V → Option Int → Option Int → Hp → VK → Prop) (te : TE) (tl th : TO) : TE := fun σ H Q => te σ H fun x H1 => tl σ H1 fun l H2 => th σ H2 fun u H3 => r x l u H3 Q
theorem pe_slice {r : V → Option Int → Option Int → Hp → VK → Prop} (hr : SlR X r) (he : PE X e te) (hl : PO X lo tl) (hu : PO X hi th) : PE X (.Subscript e (.Slice lo hi none p2) pos) (tSl r te tl th) := by
  intro pins s σ H Q I h
  refine Subscript_ (thn (he pins s σ H _ I h) fun v s1 ⟨x, H1, I1, r1, q1⟩ => ?_)
  refine wpAny_Slice (thn (hl pins s1 σ H1 _ I1 q1) fun vl s2 ⟨l, H2, I2, pl, q2⟩ => thn (hu pins s2 σ H2 _ I2 q2) fun vu s3 ⟨u, H3, I3, pu, q3⟩ => ?_)
  rw [evalPart_none]
  refine wpAny_pure ?_
  have I4 : Inv X pins σ H3 { s3 with heap := s3.heap.push { cls := .type "slice", data := .fields #[vl, vu, .none] } } := I3.kept (t' := s3.toks) fun b ob q => Heap.get?_push_of_some _ q
  obtain ⟨T, id, hT, ht, hg⟩ := hr pins { s3 with heap := s3.heap.push { cls := .type "slice", data := .fields #[vl, vu, .none] } } σ H3 x v vl vu l u s3.heap.objs.size Q I4 r1 (Heap.IsSliceOf.new ..) pl pu q3
  show wpAny (model X.prog X.w) X.A (subscriptTail e (.Slice lo hi none p2) v (.ref s3.heap.objs.size)) (EP X pins σ Q) X.xe { s3 with heap := s3.heap.push { cls := .type "slice", data := .fields #[vl, vu, .none] } }
  exact tail_any (ops := [.ref s3.heap.objs.size, v]) ht hT hg (by with_unfolding_all rfl)
def cutV (xs : List V) (lo hi : Option Int) : List V := (xs.drop (HT.sIx xs.length 0 lo)).take (HT.sIx xs.length xs.length hi - HT.sIx xs.length 0 lo)
theorem cutV_length (xs : List V) (lo hi : Option Int) : (cutV xs lo hi).length ≤ xs.length := by
  unfold cutV
  rw [List.length_take, List.length_drop]
  omega
def rSlT (K : PySem.W.Frag) : V → Option Int → Option Int → Hp → VK → Prop := fun x lo hi H Q => ∃ a xs, x = .ref a ∧ SqT K H a xs ∧
  ¬ (HT.sIx xs.length 0 lo = 0 ∧ HT.sIx xs.length xs.length hi = xs.length) ∧ ∀ p, H p = none → Q (.ref p) (upd H p (.tup (cutV xs lo hi)))
theorem sl_tup : SlR X (rSlT X.K) := by
  intro pins s σ H x v vl vu lo hi sl Q I rx hs pl pu h
  obtain ⟨a, xs, rfl, hx, hw, q⟩ := h
  cases rx
  obtain ⟨its, r, ht, hz⟩ := I.tuple hx
  have hlen : its.toArray.size = xs.length := by rw [List.size_toArray]; exact r.length.symm
  refine ⟨"tuple", _, PyProof.Rows.slot_tuple_getitem.lookup, ht.typeIs, ?_⟩
  refine HT.getItem_tuple_cut ht hs pl pu (by rw [hlen]; exact hw) ?_ (by rw [hlen]; exact hz)
  rw [hlen]
  refine ⟨.ref s.heap.objs.size, _, I.laid (t' := s.toks) (o := .tup (cutV xs lo hi)) (fun b ob q => Heap.get?_push_of_some _ q) (Nat.le_refl _) ?_, rfl, q _ (I.hok.fresh (Nat.le_refl _))⟩
  exact ⟨Nat.le_trans (cutV_length xs lo hi) hz, _, (r.drop (HT.sIx xs.length 0 lo)).take (HT.sIx xs.length xs.length hi - HT.sIx xs.length 0 lo), IsTup.new _ _⟩
def rCatT (K : PySem.W.Frag) : R2 := fun x y H Q => ∃ a b xs ys, x = .ref a ∧ y = .ref b ∧ SqT K H a xs ∧ SqT K H b ys ∧ xs ≠ [] ∧ xs.length + ys.length ≤ sizeLine ∧
  (ys = [] → Q (.ref a) H) ∧ (ys ≠ [] → ∀ p, H p = none → Q (.ref p) (upd H p (.tup (xs ++ ys))))
theorem Vals.nil_iff {xs : List V} {us : List Value} (r : Vals xs us) : us = [] ↔ xs = [] := by
  cases r with
  | nil => simp
  | cons _ _ => simp
theorem op_catT : OpR X (binaryOp .Add) (rCatT X.K) := by
  intro pins s σ H x y v u Q I rx ry h
  obtain ⟨a, b, xs, ys, rfl, rfl, ha, hb, hx, hz, q1, q2⟩ := h
  cases rx
  cases ry
  obtain ⟨its, r1, p1, _⟩ := I.tuple ha
  obtain ⟨its2, r2, p2, _⟩ := I.tuple hb
  refine HT.cat_tup p1 p2 (fun z => hx (r1.nil_iff.mp z)) (fun z => ⟨.ref a, H, I, rfl, q1 (r2.nil_iff.mp z)⟩) (fun z => ?_) (by rw [← r1.length, ← r2.length]; exact hz)
  refine ⟨.ref s.heap.objs.size, _, I.laid (t' := s.toks) (o := .tup (xs ++ ys)) (fun b ob q => Heap.get?_push_of_some _ q) (Nat.le_refl _) ?_, rfl, q2 (fun w => z (r2.nil_iff.mpr w)) _ (I.hok.fresh (Nat.le_refl _))⟩
  exact ⟨by rw [List.length_append]; exact hz, _, r1.append r2, IsTup.new _ _⟩
end
end L2
namespace L2
open PySem PySem.Spec PyProof.Rows
def ixN (n : Nat) (i : Int) : Option Nat := if 0 ≤ i then (if i < n then some i.toNat else none) else if -(n : Int) ≤ i then some (i + n).toNat else none
def atI {α : Type} (xs : List α) (i : Int) : Option α := (ixN xs.length i).bind fun j => xs[j]?
theorem ixN_seq {n : Nat} {i : Int} {j : Nat} (h : ixN n i = some j) : seqIndex? i n = some j ∧ j < n ∧ -(n : Int) ≤ i ∧ i < n := by
  unfold ixN at h
  by_cases h0 : 0 ≤ i
  · rw [if_pos h0] at h
    by_cases h1 : i < n
    · rw [if_pos h1] at h
      have e : i.toNat = j := Option.some.inj h
      exact ⟨by rw [seqIndex_of h0 h1, e], by omega, by omega, h1⟩
    · rw [if_neg h1] at h; cases h
  · rw [if_neg h0] at h
    by_cases h1 : -(n : Int) ≤ i
    · rw [if_pos h1] at h
      have e : (i + n).toNat = j := Option.some.inj h
      exact ⟨by rw [seqIndex_neg (by omega) h1, e], by omega, h1, by omega⟩
    · rw [if_neg h1] at h; cases h
theorem atI_get {α : Type} {xs : List α} {i : Int} {v : α} (h : atI xs i = some v) : ∃ j, seqIndex? i xs.length = some j ∧ xs[j]? = some v ∧ j < xs.length ∧ -(xs.length : Int) ≤ i ∧ i < xs.length := by
  unfold atI at h
  cases e : ixN xs.length i with
  | none => rw [e] at h; cases h
  | some j =>
    rw [e] at h
    obtain ⟨h1, h2, h3, h4⟩ := ixN_seq e
    exact ⟨j, h1, h, h2, h3, h4⟩
theorem atI_nat {α : Type} {xs : List α} {j : Nat} {v : α} (h : xs[j]? = some v) : atI xs (j : Int) = some v := by
  have hj : j < xs.length := (List.getElem?_eq_some_iff.mp h).1
  have e : ixN xs.length (j : Int) = some j := by
    unfold ixN
    rw [if_pos (by omega), if_pos (by omega)]; simp
  unfold atI; rw [e]; exact h
theorem atI_last {α : Type} (xs : List α) (v : α) : atI (xs ++ [v]) (-1) = some v := by
  have hl : (xs ++ [v]).length = xs.length + 1 := by simp
  have e : ixN (xs ++ [v]).length (-1) = some xs.length := by
    unfold ixN
    rw [hl, if_neg (by decide), if_pos (by omega)]
    congr 1
    omega
  unfold atI
  rw [e]
  show (xs ++ [v])[xs.length]? = some v
  simp
def PlainIx (b : Expr) : Prop := ∀ o i, subscripted b false o i = operate [o, i] (getItem o i)
def IxR (X : Cx) (r : R2) : Prop :=
  ∀ (value slice : Expr) (pins : List (Addr × Obj)) (s : Shared) (σ : St) (H : Hp) (x y : V) (v u : Value) (Q : VK), Inv X pins σ H s → RelV x v → RelV y u → r x y H Q →
    subscripted slice false v u = operate [v, u] (getItem v u) → wpAny (model X.prog X.w) X.A (subscriptTail value slice v u) (EP X pins σ Q) X.xe s
def MtR (X : Cx) (id : String) (r : V → List V → Hp → VK → Prop) : Prop :=
  ∀ (pins : List (Addr × Obj)) (s : Shared) (σ : St) (H : Hp) (x : V) (xs : List V) (v : Value) (us : List Value) (Q : VK), Inv X pins σ H s → RelV x v → Vals xs us → r x xs H Q →
    wpAny (model X.prog X.w) X.A (call (.builtin id) (v :: us)) (EP X pins σ Q) X.xe s
section
variable {X : Cx} {a b : Expr} {ta tb : TE} {pos : Pos}
theorem pe_ix {r : R2} (hr : IxR X r) (ha : PE X a ta) (hb : PE X b tb) (hs : PlainIx b) : PE X (.Subscript a b pos) (tOp r ta tb) := by
  intro pins s σ H Q I h
  exact Subscript_ (binT ha hb I h fun v u s2 x y H2 I2 rx ry q => hr a b pins s2 σ H2 x y v u Q I2 rx ry q (hs _ _))
def rIxL (K : PySem.W.Frag) : R2 := fun x y H Q => ∃ p xs i v, x = .ref p ∧ y = .int i ∧ SqL K H p xs ∧ atI xs i = some v ∧ Q v H
def rIxT (K : PySem.W.Frag) : R2 := fun x y H Q => ∃ p xs i v, x = .ref p ∧ y = .int i ∧ SqT K H p xs ∧ atI xs i = some v ∧ Q v H
def rIxS : R2 := fun x y H Q => ∃ z i c, x = .str z ∧ y = .int i ∧ z.length ≤ sizeLine ∧ atI z.cps.toList i = some c ∧ Q (.str ⟨#[c]⟩) H
theorem ix_list : IxR X (rIxL X.K) := by
  intro value slice pins s σ H x y v u Q I rx ry h hs
  obtain ⟨p, xs, i, z, rfl, rfl, hq, he, q⟩ := h
  cases rx
  obtain ⟨t, rfl⟩ := ry
  obtain ⟨its, r, pl, hz⟩ := I.list hq
  obtain ⟨j, h1, h2, h3, h4, h5⟩ := atI_get he
  obtain ⟨w, ew, rw'⟩ := r.get h2
  have hl := r.length
  have hn := line63
  have fin : EP X pins σ Q w s := ⟨z, H, I, rw', q⟩
  by_cases h0 : 0 ≤ i
  · have hj : i.toNat = j := by
      rw [seqIndex_of h0 h5] at h1
      exact Option.some.inj h1
    exact item_listR pl.isList h0 (by omega) (by rw [hj]; simpa using ew) fin hs
  · have hj : (i + (its.toArray.size : Int)).toNat = j := by
      rw [seqIndex_neg (by omega) h4] at h1
      rw [List.size_toArray, ← hl]
      exact Option.some.inj h1
    exact subscriptTail_builtinR (x := w) pl.isList.typeIs slot_list_getitem.lookup
      (wpAny_getItem_list_neg (Q := fun r s' => r = w ∧ EP X pins σ Q r s') pl.isList (by omega) (by rw [List.size_toArray] <;> omega) (by omega) (by rw [hj]; simpa using ew) ⟨rfl, fin⟩) hs
theorem ix_tup : IxR X (rIxT X.K) := by
  intro value slice pins s σ H x y v u Q I rx ry h hs
  obtain ⟨p, xs, i, z, rfl, rfl, hq, he, q⟩ := h
  cases rx
  obtain ⟨t, rfl⟩ := ry
  obtain ⟨its, r, pl, hz⟩ := I.tuple hq
  obtain ⟨j, h1, h2, h3, h4, h5⟩ := atI_get he
  obtain ⟨w, ew, rw'⟩ := r.get h2
  have hl := r.length
  have hn := line63
  have fin : EP X pins σ Q w s := ⟨z, H, I, rw', q⟩
  exact subscriptTail_builtinR (x := w) pl.typeIs slot_tuple_getitem.lookup
    (getItem_tuple (j := j) (Q := fun r s' => r = w ∧ EP X pins σ Q r s') pl (by omega) (by omega) (by rw [List.size_toArray, ← hl]; exact h1) (by simpa using ew) ⟨rfl, fin⟩) hs
theorem ix_str : IxR X rIxS := by
  intro value slice pins s σ H x y v u Q I rx ry h hs
  obtain ⟨z, i, c, rfl, rfl, hz, he, q⟩ := h
  obtain ⟨t, rfl⟩ := rx
  obtain ⟨t', rfl⟩ := ry
  obtain ⟨j, h1, h2, h3, h4, h5⟩ := atI_get he
  have hl : z.cps.toList.length = z.length := by simp [Str.length]
  rw [hl] at h1 h4 h5
  have hn := line63
  exact tail_any (typeIs_str s z t) slot_str_getitem.lookup (getItem_str (c := c) (by
    have e1 : decide (i < -(2 ^ 63 : Int)) = false := decide_eq_false (by omega)
    have e2 : decide (i ≥ 2 ^ 63) = false := decide_eq_false (by omega)
    rw [e1, e2, Bool.or_false]) (by rw [h1]; simpa using h2) ⟨.str ⟨#[c]⟩, H, I.tok _, ⟨_, rfl⟩, q⟩) hs
theorem Inv.lst {pins : List (Addr × Obj)} {σ : St} {H : Hp} {s : Shared} {p : Addr} {xs : List V} (I : Inv X pins σ H s) (h : H p = some (.lst xs)) :
    ∃ (its : List Value) (n : Nat), Vals xs its ∧ s.heap.get? p = some { cls := .type "list", data := .seq its.toArray n } ∧ xs.length ≤ sizeLine := by
  obtain ⟨z, its, n, r, e⟩ := I.hok p _ h
  exact ⟨its, n, r, e, z⟩
theorem slice_bounds (lo hi : Option Int) (n : Nat) : (sliceBounds lo hi none n).1 = ((HT.sIx n 0 lo : Nat) : Int) ∧ (sliceBounds lo hi none n).2.1 = ((HT.sIx n n hi : Nat) : Int) ∧ (sliceBounds lo hi none n).2.2 = 1 := by
  refine ⟨?_, ?_, rfl⟩
  · cases lo with
    | none => simp [sliceBounds, HT.sIx]
    | some i =>
      simp only [sliceBounds, HT.sIx, Option.getD_none, show (1 : Int) > 0 by decide, if_true]
      by_cases h : i < 0
      · simp only [h, if_true] <;> omega
      · simp only [h, if_false] <;> omega
  · cases hi with
    | none => simp [sliceBounds, HT.sIx]
    | some i =>
      simp only [sliceBounds, HT.sIx, Option.getD_none, show (1 : Int) > 0 by decide, if_true]
      by_cases h : i < 0
      · simp only [h, if_true] <;> omega
      · simp only [h, if_false] <;> omega
theorem slicePick_cut (its : List Value) (lo hi : Option Int) : slicePick its.toArray lo hi none = ((its.drop (HT.sIx its.length 0 lo)).take (HT.sIx its.length its.length hi - HT.sIx its.length 0 lo)).toArray := by
  obtain ⟨h1, h2, h3⟩ := slice_bounds lo hi its.toArray.size
  unfold slicePick
  rw [h1, h2, h3]
  simp only [sliceRange_one, pick_run, List.size_toArray] <;> rfl
def rSlL (K : PySem.W.Frag) : V → Option Int → Option Int → Hp → VK → Prop := fun x lo hi H Q => ∃ a xs, x = .ref a ∧ SqL K H a xs ∧ ∀ p, H p = none → Q (.ref p) (upd H p (.lst (cutV xs lo hi)))
theorem sl_list : SlR X (rSlL X.K) := by
  intro pins s σ H x v vl vu lo hi sl Q I rx hs pl pu h
  obtain ⟨a, xs, rfl, hx, q⟩ := h
  cases rx
  obtain ⟨its, r, ht, hz⟩ := I.list hx
  have hlen := r.length
  refine ⟨"list", _, slot_list_getitem.lookup, ht.isList.typeIs, ?_⟩
  refine wpAny_getItem_list_slice ht.isList hs pl pu .none (by simp) ?_ (by rw [List.size_toArray] <;> omega)
  rw [slicePick_cut, ← hlen]
  refine ⟨.ref s.heap.objs.size, _, I.laid (t' := s.toks) (o := .lst (cutV xs lo hi)) (fun b ob q => Heap.get?_push_of_some _ q) (Nat.le_refl _) ?_, rfl, q _ (I.hok.fresh (Nat.le_refl _))⟩
  exact ⟨Nat.le_trans (cutV_length xs lo hi) hz, _, 0, (r.drop (HT.sIx xs.length 0 lo)).take (HT.sIx xs.length xs.length hi - HT.sIx xs.length 0 lo), Heap.get?_push_size _ rfl⟩
def flatV : V → Bool
  | .non => true
  | .bl _ => true
  | .int _ => true
  | .str _ => true
  | _ => false
def eqV : V → V → Bool
  | .non, .non => true
  | .bl a, .bl b => a == b
  | .bl a, .int b => (if a then 1 else 0) == b
  | .int a, .bl b => a == (if b then 1 else 0)
  | .int a, .int b => a == b
  | .str a, .str b => a == b
  | _, _ => false
theorem eqAt_V {A : Around} {s : Shared} {y x : V} {u v : Value} (ry : RelV y u) (rx : RelV x v) (fy : flatV y = true) (fx : flatV x = true) : SeqAt.EqAt A s u v (eqV y x) := by
  cases y with
  | non =>
    cases ry
    cases x with
    | non => cases rx; exact SeqAt.EqAt.same _
    | bl b => cases rx; exact SeqAt.EqAt.none_bool b
    | int b => obtain ⟨t, rfl⟩ := rx; exact SeqAt.EqAt.none_int b t
    | str b => obtain ⟨t, rfl⟩ := rx; exact SeqAt.EqAt.none_str b t
    | _ => exact absurd (show false = true from fx) Bool.false_ne_true
  | bl a =>
    cases ry
    cases x with
    | non => cases rx; exact SeqAt.EqAt.bool_none a
    | bl b => cases rx; exact SeqAt.EqAt.bool_bool a b
    | int b => obtain ⟨t, rfl⟩ := rx; exact SeqAt.EqAt.bool_int a b t
    | str b => obtain ⟨t, rfl⟩ := rx; exact SeqAt.EqAt.bool_str a b t
    | _ => exact absurd (show false = true from fx) Bool.false_ne_true
  | int a =>
    obtain ⟨t', rfl⟩ := ry
    cases x with
    | non => cases rx; exact SeqAt.EqAt.int_none a t'
    | bl b => cases rx; exact SeqAt.EqAt.int_bool a t' b
    | int b => obtain ⟨t, rfl⟩ := rx; exact SeqAt.EqAt.int_int a t' b t
    | str b => obtain ⟨t, rfl⟩ := rx; exact SeqAt.EqAt.int_str a t' b t
    | _ => exact absurd (show false = true from fx) Bool.false_ne_true
  | str a =>
    obtain ⟨t', rfl⟩ := ry
    cases x with
    | non => cases rx; exact SeqAt.EqAt.str_none a t'
    | bl b => cases rx; exact SeqAt.EqAt.str_bool a t' b
    | int b => obtain ⟨t, rfl⟩ := rx; exact SeqAt.EqAt.str_int a t' b t
    | str b => obtain ⟨t, rfl⟩ := rx; exact SeqAt.EqAt.str_str a t' b t
    | _ => exact absurd (show false = true from fx) Bool.false_ne_true
  | _ => exact absurd (show false = true from fy) Bool.false_ne_true
def eqU (x : V) (u : Value) : Bool := match u with
  | .none => eqV .non x
  | .bool b => eqV (.bl b) x
  | .int i _ => eqV (.int i) x
  | .str z _ => eqV (.str z) x
  | _ => false
theorem eqU_of {x y : V} {u : Value} (r : RelV y u) (f : flatV y = true) : eqU x u = eqV y x := by
  cases y with
  | non => cases r; rfl
  | bl b => cases r; rfl
  | int i => obtain ⟨t, rfl⟩ := r; rfl
  | str z => obtain ⟨t, rfl⟩ := r; rfl
  | _ => exact absurd (show false = true from f) Bool.false_ne_true
theorem any_eqU {x : V} : ∀ {xs : List V} {us : List Value}, Vals xs us → xs.all flatV = true → us.any (eqU x) = xs.any fun y => eqV y x
  | _, _, .nil, _ => rfl
  | y :: xs, u :: us, .cons r t, f => by
    rw [List.all_cons, Bool.and_eq_true] at f
    rw [List.any_cons, List.any_cons, eqU_of r f.1, any_eqU t f.2]
theorem mem_eqAt {A : Around} {s : Shared} {x : V} {v : Value} (rx : RelV x v) (fx : flatV x = true) : ∀ {xs : List V} {us : List Value}, Vals xs us → xs.all flatV = true → ∀ u ∈ us, SeqAt.EqAt A s u v (eqU x u)
  | _, _, .nil, _ => fun u hu => by cases hu
  | y :: xs, u :: us, .cons r t, f => fun u' hu => by
    rw [List.all_cons, Bool.and_eq_true] at f
    rcases List.mem_cons.mp hu with rfl | hu
    · rw [eqU_of r f.1]; exact eqAt_V r rx f.1 fx
    · exact mem_eqAt rx fx t f.2 u' hu
def inV (x : V) (xs : List V) : Bool := xs.any fun y => eqV y x
def rIn (K : PySem.W.Frag) (neg : Bool) : R2 := fun x y H Q => ∃ p xs, y = .ref p ∧ (SqL K H p xs ∨ SqT K H p xs) ∧ flatV x = true ∧ xs.all flatV = true ∧ Q (.bl (if neg then !inV x xs else inV x xs)) H
theorem op_in_seq : OpR X (compareOp .In) (rIn X.K false) := by
  intro pins s σ H x y v u Q I rx ry h
  obtain ⟨p, xs, rfl, hq, fx, fs, q⟩ := h
  cases ry
  rcases hq with hq | hq
  · obtain ⟨its, r, pl, hz⟩ := I.list hq
    refine SeqAt.in_listAt (eqU x) pl.isList (fun w hw => mem_eqAt rx fx r fs w (by simpa using hw)) ⟨.bl _, H, I, rfl, ?_⟩
    rw [show its.toArray.any (eqU x) = its.any (eqU x) by simp, any_eqU r fs]
    exact q
  · obtain ⟨its, r, pl, hz⟩ := I.tuple hq
    refine SeqAt.in_tupleAt (eqU x) pl (fun w hw => mem_eqAt rx fx r fs w (by simpa using hw)) ⟨.bl _, H, I, rfl, ?_⟩
    rw [show its.toArray.any (eqU x) = its.any (eqU x) by simp, any_eqU r fs]
    exact q
theorem op_notIn_seq : OpR X (compareOp .NotIn) (rIn X.K true) := by
  intro pins s σ H x y v u Q I rx ry h
  obtain ⟨p, xs, rfl, hq, fx, fs, q⟩ := h
  cases ry
  rcases hq with hq | hq
  · obtain ⟨its, r, pl, hz⟩ := I.list hq
    refine SeqAt.notIn_listAt (eqU x) pl.isList (fun w hw => mem_eqAt rx fx r fs w (by simpa using hw)) ⟨.bl _, H, I, rfl, ?_⟩
    rw [show its.toArray.any (eqU x) = its.any (eqU x) by simp, any_eqU r fs]
    exact q
  · obtain ⟨its, r, pl, hz⟩ := I.tuple hq
    refine SeqAt.notIn_tupleAt (eqU x) pl (fun w hw => mem_eqAt rx fx r fs w (by simpa using hw)) ⟨.bl _, H, I, rfl, ?_⟩
    rw [show its.toArray.any (eqU x) = its.any (eqU x) by simp, any_eqU r fs]
    exact q
theorem call_len_seq : CallR X (.builtin "len") (fun xs H Q => ∃ p ys, xs = [.ref p] ∧ (SqL X.K H p ys ∨ SqT X.K H p ys) ∧ Q (.int ys.length) H) := by
  intro pins s σ H xs us Q I r h
  obtain ⟨p, ys, rfl, hq, q⟩ := h
  obtain ⟨u, rfl, rx⟩ := vals1 r
  cases rx
  have hn := line63
  rcases hq with hq | hq
  · obtain ⟨its, r', pl, hz⟩ := I.list hq
    have hlen := r'.length
    exact Calls.call_len_list pl.isList (by simp only [List.size_toArray] <;> omega) ⟨.int ys.length, H, I.tok _, ⟨s.toks + 1, by rw [List.size_toArray, hlen]⟩, q⟩
  · obtain ⟨its, r', pl, hz⟩ := I.tuple hq
    have hlen := r'.length
    exact len_tuple pl (by simp only [List.size_toArray] <;> omega) ⟨.int ys.length, H, I.tok _, ⟨s.toks + 1, by rw [List.size_toArray, hlen]⟩, q⟩
theorem call_len_str : CallR X (.builtin "len") (fun xs H Q => ∃ z, xs = [.str z] ∧ z.length ≤ sizeLine ∧ Q (.int z.length) H) := by
  intro pins s σ H xs us Q I r h
  obtain ⟨z, rfl, hz, q⟩ := h
  obtain ⟨u, rfl, t, rfl⟩ := vals1 r
  have hn := line63
  exact len_str (by omega) ⟨.int z.length, H, I.tok _, ⟨_, rfl⟩, q⟩
theorem call_list_of : CallR X (.type "list") (fun xs H Q => ∃ p ys, xs = [.ref p] ∧ (SqL X.K H p ys ∨ SqT X.K H p ys) ∧ ∀ l, H l = none → Q (.ref l) (upd H l (.lst ys))) := by
  intro pins s σ H xs us Q I r h
  obtain ⟨p, ys, rfl, hq, q⟩ := h
  obtain ⟨u, rfl, rx⟩ := vals1 r
  cases rx
  have fin : ∀ (its : List Value), Vals ys its → ys.length ≤ sizeLine → ∀ (h' : Heap) (c' : Nat), (∀ b o', s.heap.get? b = some o' → h'.get? b = some o') →
      h'.get? s.heap.objs.size = some { cls := .type "list", dict := none, data := .seq its.toArray c', slots := #[] } → EP X pins σ Q (.ref s.heap.objs.size) { s with heap := h' } := fun its r' hz h' c' kp e =>
    ⟨.ref s.heap.objs.size, _, I.laid (t' := s.toks) kp (Nat.le_refl _) (show ObjOk X.prog X.w _ h' _ (.lst ys) from ⟨hz, its, c', r', e⟩), rfl, q _ (I.hok.fresh (Nat.le_refl _))⟩
  rcases hq with hq | hq
  · obtain ⟨its, r', pl, hz⟩ := I.list hq
    have hlen := r'.length
    obtain ⟨o, ho, hc, n, hd⟩ := pl.isList
    exact call_list_seq p (.inl rfl) ho hc hd (fun h' c' kp e => fin its r' hz h' c' kp e) (by simp only [List.size_toArray] <;> omega)
  · obtain ⟨its, r', pl, hz⟩ := I.tuple hq
    have hlen := r'.length
    obtain ⟨o, ho, hc, n, hd⟩ := pl
    exact call_list_seq p (.inr rfl) ho hc hd (fun h' c' kp e => fin its r' hz h' c' kp e) (by simp only [List.size_toArray] <;> omega)
theorem call_tuple_of : CallR X (.type "tuple") (fun xs H Q => ∃ p ys, xs = [.ref p] ∧ ((SqL X.K H p ys ∧ ∀ l, H l = none → Q (.ref l) (upd H l (.tup ys))) ∨ (SqT X.K H p ys ∧ Q (.ref p) H))) := by
  intro pins s σ H xs us Q I r h
  obtain ⟨p, ys, rfl, h⟩ := h
  obtain ⟨u, rfl, rx⟩ := vals1 r
  cases rx
  rcases h with ⟨hq, q⟩ | ⟨hq, q⟩
  · obtain ⟨its, r', pl, hz⟩ := I.list hq
    have hlen := r'.length
    refine call_tuple_list pl.isList (fun h' kp => ?_) (by simp only [List.size_toArray] <;> omega)
    have I1 : Inv X pins σ H { s with heap := h' } := I.kept (t' := s.toks) kp
    have I2 : Inv X pins σ (upd H h'.objs.size (.tup ys)) { s with heap := h'.push { cls := .type "tuple", data := .seq its.toArray } } :=
      I1.laid (t' := s.toks) (fun b o e => Heap.get?_push_of_some _ e) (Nat.le_refl _) (show ObjOk X.prog X.w _ _ _ (.tup ys) from ⟨hz, its, r', IsTup.new _ _⟩)
    exact ⟨.ref h'.objs.size, _, I2, rfl, q _ (I1.hok.fresh (Nat.le_refl _))⟩
  · obtain ⟨its, r', pl, hz⟩ := I.tuple hq
    exact call_tuple_same pl ⟨.ref p, H, I, rfl, q⟩
def tyV (K : PySem.W.Frag) (T : String) (x : V) (H : Hp) : Prop := match x with
  | .str _ => T = "str"
  | .int _ => T = "int"
  | .ref p => (T = "list" ∧ ∃ xs, SqL K H p xs) ∨ (T = "tuple" ∧ ∃ o, K.lookup p = some o ∧ o.cls = .type "tuple" ∧ o.dict = none) ∨
      (T = "dict" ∧ ((∃ kvs, H p = some (.dK kvs)) ∨ ∃ kvs, H p = some (.dT kvs))) ∨ (T = "set" ∧ ∃ S n, H p = some (.set S n))
  | _ => False
theorem tyV_is {pins : List (Addr × Obj)} {σ : St} {H : Hp} {s : Shared} {T : String} {x : V} {v : Value} (I : Inv X pins σ H s) (r : RelV x v) (ty : tyV X.K T x H) :
    s.TypeIs v T ∧ ∀ a, v = .ref a → ∃ ob, s.heap.get? a = some ob ∧ ob.dict = none := by
  cases x with
  | str z =>
    obtain ⟨t, rfl⟩ := r
    cases (show T = "str" from ty)
    exact ⟨typeIs_str s z t, fun _ e => nomatch e⟩
  | int i =>
    obtain ⟨t, rfl⟩ := r
    cases (show T = "int" from ty)
    exact ⟨typeIs_int s i t, fun _ e => nomatch e⟩
  | ref p =>
    cases r
    rcases ty with ⟨rfl, xs, hq⟩ | ⟨rfl, o, hk, hc, hd⟩ | ⟨rfl, hk⟩ | ⟨rfl, S, n, hk⟩
    · obtain ⟨its, _, pl, _⟩ := I.list hq
      refine ⟨pl.isList.typeIs, fun a e => ?_⟩
      cases e
      obtain ⟨o, n, e, c, hd, _⟩ := pl
      exact ⟨o, e, hd⟩
    · refine ⟨⟨o, I.kIn p o hk, hc⟩, fun a e => ?_⟩
      cases e
      exact ⟨o, I.kIn _ o hk, hd⟩
    · have z : ∃ o, s.heap.get? p = some o ∧ o.ExactDict := by
        rcases hk with ⟨kvs, hk⟩ | ⟨kvs, hk⟩
        · obtain ⟨_, _, _, _, o, _, _, e, ex, _⟩ := I.hok p _ hk
          exact ⟨o, e, ex⟩
        · obtain ⟨_, _, _, _, o, _, _, e, ex, _⟩ := I.hok p _ hk
          exact ⟨o, e, ex⟩
      obtain ⟨o, e, ex⟩ := z
      refine ⟨⟨o, e, ex.1⟩, fun a e2 => ?_⟩
      cases e2
      exact ⟨o, e, ex.2.1⟩
    · obtain ⟨o, _, _, _, e, ex, _⟩ := I.hok p _ hk
      refine ⟨⟨o, e, ex.1⟩, fun a e2 => ?_⟩
      cases e2
      exact ⟨o, e, ex.2.1⟩
  | _ => exact False.elim ty
def tBM0 (K : PySem.W.Frag) (T : String) (r : V → List V → Hp → VK → Prop) (to : TE) : TE := fun σ H Q => to σ H fun x H1 => tyV K T x H1 ∧ r x [] H1 Q
def tBM (K : PySem.W.Frag) (T : String) (r : V → List V → Hp → VK → Prop) (to : TE) (t : TA) : TE := fun σ H Q => to σ H fun x H1 => tyV K T x H1 ∧ t σ H1 fun xs H2 => r x xs H2 Q
variable {o e : Expr} {es : List Expr} {to : TE} {t : TA} {name : Str} {apos cpos : Pos} {T id : String} {r : V → List V → Hp → VK → Prop}
theorem pe_bm (pa : PlainAttrs T) (slot : Slot T name id) (hty : typeOf (.builtin id) = pure (.type "method_descriptor")) (hm : MtR X id r) (ho : PE X o to) (ha : PA X (e :: es) t)
    (hbase : attributeBase o name X.env (eval o X.env) = eval o X.env := by rfl)
    (hfew : ((backTo cpos (starEach (e :: es) X.env)).all (fun x => !x.1) && (backToKw cpos (keywordEach [] X.env)).all (fun x => x.1.isSome)
      && decide ((e :: es).length + ([] : List Keyword).length + (if ([] : List Keyword).isEmpty then 0 else 1) < 30)) = true := by rfl)
    (hline : (apos.endLine == cpos.line) = true := by rfl) (hs : starEach (e :: es) X.env = (false, eval e X.env) :: starEach es X.env := by rfl) (hplain : (backTo cpos (starEach es X.env)).any (·.1) = false := by rfl) :
    PE X (.Call (.Attribute o name apos) (e :: es) [] cpos) (tBM X.K T r to t) := by
  intro pins s σ H Q I h
  refine wpAny_Call_method_late hbase hfew hline rfl (thn (ho pins s σ H _ I h) fun v s1 ⟨x, H1, I1, r1, ty, q1⟩ => ?_)
  obtain ⟨h1, h2⟩ := tyV_is I1 r1 ty
  refine ⟨T, id, pa, slot, hty, h1, h2, ?_⟩
  have hA := ha cpos pins s1 σ H1 _ I1 q1
  rw [hs] at hA ⊢
  refine Calls.callWith_builtin (by show (false || (backTo cpos (starEach es X.env)).any (·.1)) = false; rw [hplain] <;> rfl) (Calls.evalArgs_plain ?_)
  exact thn hA fun us s2 ⟨vs, H2, I2, r2, q2⟩ => hm pins s2 σ H2 x vs v us Q I2 r1 r2 q2
end
end L2
namespace L2
open PySem PySem.Spec PyProof.Rows
def MtM (X : Cx) (id : String) (r : V → List V → Hp → VK → Prop) : Prop :=
  ∀ (pins : List (Addr × Obj)) (s : Shared) (σ : St) (H : Hp) (x : V) (xs : List V) (v : Value) (us : List Value) (Q : VK), Inv X pins σ H s → RelV x v → Vals xs us → r x xs H Q →
    wpAny (model X.prog X.w) X.A (call (.builtin id) (v :: us)) (EP X pins σ Q) X.xe s
theorem Vals.one : ∀ {x : V} {us : List Value}, Vals [x] us → ∃ u, us = [u] ∧ RelV x u
  | _, _, .cons r .nil => ⟨_, rfl, r⟩
theorem Vals.two : ∀ {x y : V} {us : List Value}, Vals [x, y] us → ∃ u v, us = [u, v] ∧ RelV x u ∧ RelV y v
  | _, _, _, .cons r (.cons q .nil) => ⟨_, _, rfl, r, q⟩
theorem Vals.zero : ∀ {us : List Value}, Vals [] us → us = []
  | _, .nil => rfl
theorem Vals.dropLast {xs : List V} {us : List Value} (h : Vals xs us) : Vals xs.dropLast us.dropLast := by
  induction h with
  | nil => exact .nil
  | cons r t ih =>
    cases t with
    | nil => exact .nil
    | cons q t' => exact .cons r ih
section
variable {X : Cx} {pins : List (Addr × Obj)} {σ : St} {H : Hp} {s : Shared} {l b : Addr} {xs ys zs : List V}
theorem Inv.lset {its its' : List Value} {n : Nat} {f : Array Value → Array Value} {t' : Nat} (I : Inv X pins σ H s) (hH : H l = some (.lst xs))
    (e : s.heap.get? l = some { cls := .type "list", data := .seq its.toArray n }) (hf : f its.toArray = its'.toArray) (hv : Vals ys its') (hz : ys.length ≤ sizeLine) :
    Inv X pins σ (upd H l (.lst ys)) { s with heap := s.heap.update l (Obj.mapSeq f), toks := t' } := by
  have q := PySem.IsL.update e f
  rw [hf] at q
  refine I.write (x := l) (e := l) (by rw [hH]; exact trivial) (.inl rfl) (fun b' u hb hu => (Heap.get?_update_other s.heap (Obj.mapSeq f) (Ne.symm hb)).trans hu) ⟨_, q⟩ ?_
  exact ⟨hz, its', _, hv, q⟩
theorem Inv.lnew {its : List Value} {t' : Nat} (I : Inv X pins σ H s) (hv : Vals ys its) (hz : ys.length ≤ sizeLine) :
    Inv X pins σ (upd H s.heap.objs.size (.lst ys)) { s with heap := s.heap.push { cls := .type "list", data := .seq its.toArray }, toks := t' } :=
  I.laid (fun _ _ q => Heap.get?_push_of_some _ q) (Nat.le_refl _) ⟨hz, its, 0, hv, Heap.get?_push_size _ rfl⟩
theorem Inv.fresh (I : Inv X pins σ H s) : H s.heap.objs.size = none := I.hok.fresh (Nat.le_refl _)
theorem Inv.lstM (I : Inv X pins σ H s) (hH : H l = some (.lst xs)) : xs.length ≤ sizeLine ∧ ∃ (its : List Value) (n : Nat), Vals xs its ∧ xs.length = its.length ∧ s.heap.get? l = some { cls := .type "list", data := .seq its.toArray n } := by
  obtain ⟨z, its, n, r, e⟩ := I.hok l _ hH
  exact ⟨z, its, n, r, r.length, e⟩
end
section
variable {X : Cx}
def rAppend : V → List V → Hp → VK → Prop := fun x vs H Q => ∃ l xs y, x = .ref l ∧ vs = [y] ∧ H l = some (.lst xs) ∧ xs.length < sizeLine ∧ Q .non (upd H l (.lst (xs ++ [y])))
theorem mt_append : MtM X "list.append" rAppend := by
  intro pins s σ H x vs v us Q I rx rv h
  obtain ⟨l, xs, y, rfl, rfl, hH, hz, q⟩ := h
  cases rx
  obtain ⟨u, rfl, ru⟩ := rv.one
  obtain ⟨z, its, n, r, hl, e⟩ := I.lstM hH
  refine call_meets F.slot_list_append ⟨_, e, rfl⟩ F.entry_list_append (F.args_list_append_2 _ _) (PySem.list_append l its.toArray n u (by rw [List.size_toArray]; omega)) ⟨e, ?_⟩
  refine ⟨.non, _, I.lset (its' := its ++ [u]) hH e (by simp) (r.append (.cons ru .nil)) ?_, rfl, q⟩
  rw [List.length_append, List.length_singleton]
  omega
end
section
variable {prog : Program} {w : World} {A : Around} {E : Value → Shared → Prop} {s : Shared}
set_option maxRecDepth 100000 in
end
section
variable {X : Cx}
end
end L2
namespace Att
open PySem PySem.W PySem.Calls PyProof.Rows
theorem ints_of_wellAll {P : Params} {h : Heap} : ∀ (ns : List Int) (vs : List Value), WellAll P h vs (ns.map WData.int) → IntsAre vs ns := by
  intro ns
  induction ns with
  | nil =>
    intro vs w
    rw [List.map_nil] at w
    cases w
    exact .nil
  | cons n ns ih =>
    intro vs w
    rw [List.map_cons] at w
    cases w with
    | cons a b =>
      cases a
      exact .cons _ _ (ih _ b)
theorem script_of {l : OpenLaw} {n : Nat} (hn : l.most = some n) {P : Params} {h : Heap} {args : List WData} {vals : List Value}
    (hpre : l.row.toRowW.claim.pre args = true) (hwl : WellAll P h vals args) :
    ∃ a vs ns, vals = [Value.ref a] ∧ args = [WData.list (ns.map WData.int)] ∧ h.get? a = some { cls := .type "list", data := .seq vs.toArray } ∧ IntsAre vs ns ∧ ns.length ≤ n := by
  have hsh : WShape.hasAll [] args [.list .int] = true := (pre_splitW hpre).1
  have hc : l.pre.holds [] { args := args } = true := (pre_splitW hpre).2
  obtain ⟨d, r, rfl, h1, h2⟩ := hasAllW_cons hsh
  obtain rfl := hasAllW_nil h2
  obtain ⟨xs, rfl, h3⟩ := hasW_list h1
  obtain ⟨ns, rfl⟩ := items_int h3
  have hlen : ns.length ≤ n := by
    unfold OpenLaw.pre at hc
    have h4 : (WTm.not (.lt (.lit (.int (n : Int))) (.len (.arg 0)))).holds [] { args := [.list (ns.map .int)] } = true := by
      have h4 := (holds_andW hc).1
      rw [hn] at h4
      exact h4
    have h5 := condW_of h4 (w_not (w_lt w_lit (w_len_list (w_arg rfl))))
    rw [List.length_map] at h5
    refine Nat.le_of_not_lt fun q => ?_
    have q' : (n : Int) < ((ns.length : Nat) : Int) := by omega
    first
      | (rw [decide_eq_true q'] at h5; exact absurd h5 (by decide))
      | (simp at h5; omega)
  cases hwl with
  | cons w1 w2 =>
    cases w2
    cases w1 with
    | list ho hall => exact ⟨_, _, ns, rfl, rfl, ho, ints_of_wellAll ns _ hall, hlen⟩
theorem post_true (l : OpenLaw) (args : List WData) : l.row.toRowW.claim.post args (.bool true) args = true :=
  postW_of (r := l.row.toRowW) (X := (true == true))
    (show WShape.has [] (.bool true) .bool = true by first | rfl | decide | simp [WShape.has, WShape.arms, WShape.armsAll])
    (show (WTm.eq .res (.lit (.bool true))).value [] { args := args, res := some (.bool true), after := args } = some (.bool (true == true)) from w_eq_bool (w_res rfl) w_lit) rfl
theorem attach_call {l : OpenLaw} {n : Nat} {q : Program} {loose : List Str} {XP : (Str → Option Value) → Heap → Prop} {YP : World → Heap → Prop} {d : DefRec}
    (hn : l.most = some n) (hdf : d.params.defaults = [])
    (call : ∀ (w : World) (s₀ s₁ : Shared) (mg mb : Str → Option Value) (fa : Addr) (o : Obj) (pm cd doc : Value) (a : Addr) (vs : List Value) (ns : List Int),
      Ground q loose [] XP w s₀ mg mb s₁.heap → YP w s₁.heap →
      s₁.heap.get? fa = some o → o.data = .func (docDef d.name d.params d.body d.scope pm cd doc) → s₁.heap.CodeRec cd d.name → mg d.name = some (.ref fa) →
      s₁.heap.get? a = some { cls := .type "list", data := .seq vs.toArray } → IntsAre vs ns → ns.length ≤ n → s₁.gens = #[] →
      codeAny (model l.prog w) callerA (.call (.ref fa) ⟨[.ref a], []⟩) (fun r s' => r = .ok (.ret (.bool true)) ∧ OldK s₁.heap s'.heap ∧ s'.os = s₁.os ∧ AllBare s'.gens) s₁) :
    WalkO q loose XP YP l.row.toRowW d [] (fun f vs => PySem.call f vs) := by
  intro w s₀ s₁ mg mb G Y fa o pm cd doc dV kV ho hd hcd hD hmg hg args vals as hpre hlay hrd hwl hlo
  obtain rfl : dV = .none := Dflts.none hD hdf
  obtain rfl : kV = .none := Dflts.noKw hD
  obtain ⟨a, vs, ns, rfl, rfl, hobj, hints, hlen⟩ := script_of hn hpre hwl
  refine enter_call (codeAny_mono (call w s₀ s₁ mg mb fa o pm cd doc a vs ns G Y ho (fd_plain hd) hcd hmg hobj hints hlen hg) fun r s' hq => ?_)
  obtain ⟨rfl, h2, h3, h4⟩ := hq
  exact ⟨.inl ⟨.bool true, .bool true, [], rfl, fun _ => rfl, .bool true, post_true l _, fun _ => ⟨List.Pairwise.nil, fun _ hm => (nomatch hm)⟩⟩, h2, h3, h4⟩
section
variable {prog : Program} {w : World} {A : Around} {E : Value → Shared → Prop} {s : Shared} {K : Frag}
end
end Att
namespace L2
open PySem PySem.Spec PyProof.Rows
theorem vals_ints : ∀ {vs : List Value} {ns : List Int}, IntsAre vs ns → Vals (ns.map V.int) vs
  | _, _, .nil => .nil
  | _, _, .cons n t h => .cons ⟨t, rfl⟩ (vals_ints h)
def Only (H : Hp) : Prop := ∀ b, H b = none ∨ ∃ o xs, H b = some (.frz o (.lst xs))
theorem law_call {P : Program} {w : World} {K : PySem.W.Frag} {mg mb : Str → Option Value} {CX : CXT} {k : Nat} {fa a : Addr} {fd : FuncData} {x : Str} {sp : Sp} {s₁ : Shared} {vs : List Value} {ns : List Int}
    (KX : K.In s₁.heap) (hns : s₁.heap.Ns mainGlobals mg) (hb : s₁.heap.Ns builtinsNs mb) (hbb : ∀ x : Str, x ≠ "__name__" → mb x = bootBuiltins x) (hlim : s₁.heap.NoLimit) (hg : s₁.gens = #[])
    (ha : s₁.heap.get? a = some { cls := .type "list", data := .seq vs.toArray }) (hi : IntsAre vs ns) (hl : ns.length ≤ sizeLine) (hr : Room k callerA)
    (F : ∀ base : Heap, K.In base → base.Ns mainGlobals mg → FnOk P w K mg base CX k fa fd [x] sp) (hbind : ∀ (s : Shared) (u : Value), BindsTo s fd ⟨[u], []⟩ [(x, u)])
    (hsp : ∀ H : Hp, Only H → SqL K H a (ns.map V.int) → sp [.ref a] H (fun v _ => v = .bl true) fun _ _ _ => False)
    (hCX : ∀ H e s', CX [] H s₁ (fun _ _ _ => False) e s' → False) :
    codeAny (model P w) callerA (.call (.ref fa) ⟨[.ref a], []⟩) (fun r s' => r = .ok (.ret (.bool true)) ∧ OldK s₁.heap s'.heap ∧ s'.os = s₁.os ∧ AllBare s'.gens) s₁ := by
  have rv := vals_ints hi
  have lenV := hi.length
  have core : ∀ H : Hp, Only H → SqL K H a (ns.map V.int) → HOk P w H s₁.heap → (∀ b, H b ≠ none → b = a) → (H a ≠ none → K.lookup a = none) →
      codeAny (model P w) callerA (.call (.ref fa) ⟨[.ref a], []⟩) (fun r s' => r = .ok (.ret (.bool true)) ∧ OldK s₁.heap s'.heap ∧ s'.os = s₁.os ∧ AllBare s'.gens) s₁ := by
    intro H hO hS hok hA hK
    have base_of : ∀ {b : Addr} {o : Obj}, s₁.heap.get? b = some o → H b = none → (hidT s₁.heap H).get? b = some o := fun e n => hidT_get e n
    have noA : ∀ {b : Addr} {o : Obj} {es : Array DictEntry} {ep : Nat}, s₁.heap.get? b = some o → o.data = .dict es ep → H b = none := fun {b o es ep} e d => by
      cases q : H b with
      | none => rfl
      | some u =>
        have e' : b = a := hA b (by rw [q]; simp)
        subst e'
        rw [ha] at e; cases e
        have d' : Data.seq vs.toArray _ = Data.dict es ep := d
        cases d'
    have nsK : ∀ {b : Addr} {m : Str → Option Value}, s₁.heap.Ns b m → (hidT s₁.heap H).Ns b m := fun {b m} ⟨o, es, ep, e, d, r⟩ => ⟨o, es, ep, base_of e (noA e d), d, r⟩
    have hKb : K.In (hidT s₁.heap H) := fun b o e => base_of (KX b o e) (by
      cases q : H b with
      | none => rfl
      | some u =>
        have e' : b = a := hA b (by rw [q]; simp)
        subst e'
        rw [hK (by rw [q]; simp)] at e; cases e)
    have hM : Mod K mg (hidT s₁.heap H) := ⟨hKb, nsK hns, ⟨mb, nsK hb, hbb⟩, let ⟨mc, h1, h2⟩ := hlim; ⟨mc, nsK h1, h2⟩⟩
    have e0 : Env0 P w K mg (hidT s₁.heap H) callerA [] s₁ H := ⟨rfl, hM, fun b o e => of_hidT e, Nat.le_of_eq (hidT_size _ _), trivial, fun b hb => absurd (show b ∈ ([] : List Addr) from hb) (by simp), hok, .of_eq hg⟩
    refine codeAny_mono ((F _ hKb (nsK hns)).run callerA [] s₁ H ⟨[.ref a], []⟩ [.ref a] [.ref a] _ _ hr e0 (hbind s₁ (.ref a)) (.cons rfl .nil) (hsp H hO hS)) fun r s' h => ?_
    cases r with
    | error e => exact (hCX H e s' h).elim
    | ok fl =>
      cases fl with
      | next => exact False.elim h
      | brk => exact False.elim h
      | cont => exact False.elim h
      | ret u =>
        obtain ⟨v, H', os, bare, un, hok', r', q⟩ := h
        have q' : v = .bl true := q
        subst q'
        obtain rfl : u = Value.bool true := r'
        refine ⟨rfl, OldK.of_keep fun b o e => ?_, os, bare⟩
        cases q : H b with
        | none => exact un.keep b o e q (by intro z; exact absurd (show b ∈ ([] : List Addr) from z) (by simp)) (by simp)
        | some u =>
          rcases hO b with z | ⟨ob, xs, z⟩
          · rw [q] at z; cases z
          · have z2 := un.frzs b ob _ z
            obtain ⟨e1, _⟩ := hok b _ z
            obtain ⟨e2, _⟩ := hok' b _ z2
            rw [e] at e1; cases e1
            exact e2
  cases hk : K.lookup a with
  | some o =>
    have e := KX a o hk
    rw [ha] at e
    cases e
    refine core (fun _ => none) (fun _ => .inl rfl) (.inr ⟨_, vs.toArray, _, hk, rfl, rfl, rfl, by rw [List.size_toArray, lenV]; exact hl, by simpa using rv⟩) (fun b u z => by have z' : (none : Option HO) = some u := z; cases z') (fun b z => absurd rfl z) fun z => absurd rfl z
  | none =>
    refine core (fun b => if b = a then some (.frz { cls := .type "list", data := .seq vs.toArray } (.lst (ns.map V.int))) else none) (fun b => ?_) (.inl (.inr ⟨{ cls := .type "list", data := .seq vs.toArray }, if_pos rfl⟩)) (fun b u z => ?_) (fun b z => ?_) fun _ => hk
    · by_cases hb : b = a
      · exact .inr ⟨_, _, if_pos hb⟩
      · exact .inl (if_neg hb)
    · by_cases hb : b = a
      · have z' := (if_pos hb).symm.trans z
        cases z'
        subst hb
        exact ⟨ha, by rw [List.length_map]; exact hl, vs, _, rv, ha⟩
      · have z' := (if_neg hb).symm.trans z
        cases z'
    · by_cases hb : b = a
      · exact hb
      · exact absurd (if_neg hb) z
end L2
namespace L2
open PySem PySem.Spec PyProof.Rows
theorem walk_of {l : PySem.W.OpenLaw} {n k : Nat} {q : Program} {loose : List Str} {XP : (Str → Option Value) → Heap → Prop} {YP : World → Heap → Prop} {d : DefRec} {K : Params → PySem.W.Frag} {CX : World → CXT} {sp : World → Sp} {x : Str}
    (hn : l.most = some n) (hn2 : n ≤ sizeLine) (hdf : d.params.defaults = []) (hr : Room k callerA)
    (hY : ∀ (w : World) (h : Heap), YP w h → (K w.params).In h)
    (F : ∀ (w : World) (mg : Str → Option Value) (fa : Addr) (h : Heap), (K w.params).In h → h.Ns mainGlobals mg → mg d.name = some (.ref fa) →
      ∃ fd : FuncData, (∀ (s : Shared) (u : Value), BindsTo s fd ⟨[u], []⟩ [(x, u)]) ∧
        ∀ base : Heap, (K w.params).In base → base.Ns mainGlobals mg → FnOk l.prog w (K w.params) mg base (CX w) k fa fd [x] (sp w))
    (hsp : ∀ (w : World) (H : Hp) (a : Addr) (ns : List Int), ns.length ≤ n → Only H → SqL (K w.params) H a (ns.map V.int) → sp w [.ref a] H (fun v _ => v = .bl true) fun _ _ _ => False)
    (hCX : ∀ (w : World) (H : Hp) (s : Shared) (e : Value) (s' : Shared), CX w [] H s (fun _ _ _ => False) e s' → False) :
    PySem.W.WalkO q loose XP YP l.row.toRowW d [] (fun f vs => PySem.call f vs) := by
  refine Att.attach_call hn hdf fun w s₀ s₁ mg mb fa o pm cd doc a vs ns G Y ho hd hcd hmg hobj hints hlen hg => ?_
  have KX := hY w _ Y
  obtain ⟨fd, hb, hF⟩ := F w mg fa _ KX G.T.g hmg
  exact law_call KX G.T.g G.T.b G.T.builtins G.T.nolimit hg hobj hints (Nat.le_trans hlen hn2) hr hF hb (fun H hO hS => hsp w H a ns hlen hO hS) fun H e s' => hCX w H s₁ e s'
end L2
namespace L2
open PySem PySem.Spec PyProof.Rows
def defArgs (s : Stmt) : Arguments := match s with
  | .FunctionDef _ a _ _ _ _ _ _ _ _ => a
  | _ => { posonlyargs := [], args := [], vararg := none, kwonlyargs := [], kw_defaults := [], kwarg := none, defaults := [] }
def defBody (s : Stmt) : List Stmt := match s with
  | .FunctionDef _ _ b _ _ _ _ _ _ _ => b
  | _ => []
def defScope (s : Stmt) : Scope := match s with
  | .FunctionDef _ _ _ _ _ _ sc _ _ _ => sc
  | _ => { kind := .function, names := [], isGenerator := false, isCoroutine := false }
abbrev CX0 : CXT := fun _ _ _ _ _ _ => False
abbrev E0 : XK := fun _ _ _ => False
theorem pass0 {X : Cx} : Passes CX0 X E0 := fun _ _ _ _ _ _ _ h => h.elim
structure Fun (K : PySem.W.Frag) (x qual : Str) (st : Stmt) (f : Addr) (fd : FuncData) : Prop where
  ex : ∃ (oc : Value) (od : Option Addr) (kV doc pm : Value) (an : Option Addr) (cdv ct : Value) (osl : Array (Option Value)),
    fd = PySem.W.fnOf x qual (defArgs st) (defBody st) (defScope st) .none kV doc pm an cdv ct ∧ K.lookup f = some ⟨oc, od, .func fd, osl⟩ ∧ PySem.W.codeIn K cdv qual = true
  kp : PySem.W.keepIn K (.ref f) = true
section
variable {P : Program} {w : World} {K : PySem.W.Frag} {mg : Str → Option Value} {base : Heap}
theorem Fun.ok {x qual : Str} {st : Stmt} {f : Addr} {fd : FuncData} {N ps : List Str} {k : Nat} {sp : Sp} (F : Fun K x qual st f fd) (S : FnScope N ps (defScope st)) (len : ∀ vs H Q E, sp vs H Q E → vs.length = ps.length)
    (hbody : ∀ (cdv : Value) (A : Around) (outer : List Env) (s : Shared) (H : Hp) (vs : List V) (Q : VK) (E : XK), Room k (A.deeper (envOfC qual (defScope st) s.heap.objs.size f cdv)) → sp vs H Q E →
      ∃ t, PSs (cxOf CX0 P w K mg base N qual (defScope st) f cdv A outer s H E).nox (defBody st) t ∧ t { nx := fun _ H' => Q .non H', rt := Q } (start N vs) H) : FnOk P w K mg base CX0 (k + 1) f fd ps sp := by
  obtain ⟨oc, od, kV, doc, pm, an, cdv, ct, osl, rfl, lk, hcd⟩ := F.ex
  refine fn_of lk hcd S len fun A outer s H vs Q E hr hsp => ?_
  obtain ⟨t, h, q⟩ := hbody cdv A outer s H vs Q E hr hsp
  exact ⟨t, h.nox, q⟩
theorem Fun.binds {x qual : Str} {st : Stmt} {f : Addr} {fd : FuncData} {ps : List Str} (F : Fun K x qual st f fd)
    (h : ∀ (kV doc pm : Value) (an : Option Addr) (cdv ct : Value) (us : List Value), us.length = ps.length → bindArgs (PySem.W.fnOf x qual (defArgs st) (defBody st) (defScope st) .none kV doc pm an cdv ct) ⟨us, []⟩ = pure (ps.zip us)) : Binds K fd ps [] := by
  obtain ⟨oc, od, kV, doc, pm, an, cdv, ct, osl, rfl, lk, hcd⟩ := F.ex
  exact .all (h kV doc pm an cdv ct)
theorem fun_mk {x qual : Str} {st : Stmt} {f : Addr} {oc : Value} {od an : Option Addr} {osl : Array (Option Value)} {kV doc pm cdv ct : Value} (l : K.lookup f = some ⟨oc, od, .func (PySem.W.fnOf x qual (defArgs st) (defBody st) (defScope st) .none kV doc pm an cdv ct), osl⟩)
    (c : PySem.W.codeIn K cdv qual = true) (k : PySem.W.keepIn K (.ref f) = true) : Fun K x qual st f (PySem.W.fnOf x qual (defArgs st) (defBody st) (defScope st) .none kV doc pm an cdv ct) := ⟨⟨oc, od, kV, doc, pm, an, cdv, ct, osl, rfl, l, c⟩, k⟩
end
theorem small1000 {n : Nat} (h : n ≤ 1000) : n < sizeLine := Nat.lt_of_le_of_lt h (by decide)
section
variable {X : Cx}
theorem pv (i : Nat) {x : Str} {pos : Pos} (hN : X.N[i]? = some x := by rfl) (hv : Vis X.env.scope x := by first | exact Or.inl rfl | exact Or.inr (Or.inl rfl) | exact Or.inr (Or.inr rfl)) (hd : (x == ("__debug__" : Str)) = false := by decide)
    (hcd : (x == ("__classdict__" : Str)) = false := by decide) : PE X (.Name x pos) (tVar i) := pe_var hN hv hd hcd
end
theorem iteT {A B : Prop} (h : A) : if true = true then A else B := by
  rw [if_pos rfl]
  exact h
theorem ite2 {c A B : Prop} [Decidable c] (h1 : c → A) (h2 : ¬ c → B) : if c then A else B := by
  by_cases h : c
  · rw [if_pos h]
    exact h1 h
  · rw [if_neg h]
    exact h2 h
def Same (H H' : Hp) : Prop := ∀ b o, H b = some o → H' b = some o
theorem Same.refl (H : Hp) : Same H H := fun _ _ h => h
theorem Same.trans {H H1 H2 : Hp} (a : Same H H1) (b : Same H1 H2) : Same H H2 := fun c o h => b c o (a c o h)
theorem Same.free {H H' : Hp} (e : Same H H') {l : Addr} (h : H' l = Option.none) : H l = Option.none := by
  cases q : H l with
  | none => rfl
  | some o =>
    rw [e l o q] at h
    cases h
theorem Same.seq {K : PySem.W.Frag} {H H' : Hp} {a : Addr} {xs : List V} (e : Same H H') (h : SqL K H a xs) : SqL K H' a xs := by
  rcases h with (h | ⟨o, h⟩) | h
  · exact .inl (.inl (e _ _ h))
  · exact .inl (.inr ⟨o, e _ _ h⟩)
  · exact .inr h
end L2
set_option maxHeartbeats 4000000
namespace L2
open PySem PySem.Spec PyProof.Rows
theorem bt_abs : bootBuiltins "abs" = some (.builtin "abs") := by decide +kernel
theorem bt_len : bootBuiltins "len" = some (.builtin "len") := by decide +kernel
theorem bt_isinstance : bootBuiltins "isinstance" = some (.builtin "isinstance") := by decide +kernel
theorem bt_int : bootBuiltins "int" = some (.type "int") := by decide +kernel
theorem bt_bool : bootBuiltins "bool" = some (.type "bool") := by decide +kernel
theorem bt_str : bootBuiltins "str" = some (.type "str") := by decide +kernel
theorem bt_list : bootBuiltins "list" = some (.type "list") := by decide +kernel
theorem bt_tuple : bootBuiltins "tuple" = some (.type "tuple") := by decide +kernel
section
variable {X : Cx} {pos : Pos}
def DivOk (j : Int) : Prop := 0 < j ∧ (j < 1073741824 ∨ j.natAbs.log2 < 9000)
theorem DivOk.small {j : Int} (h : 0 < j) (h2 : j < 1073741824) : DivOk j := ⟨h, .inl h2⟩
theorem op_fdivL : OpR X (binaryOp .FloorDiv) (rI (fun _ j => DivOk j) fun i j => .int (i / j)) := opI fun i j _ _ _ _ _ hc q => by
  have h1 : (0 : Int) < j := hc.1
  refine floordiv_int (by omega) (by rw [Int.fdiv_eq_ediv_of_nonneg i (by omega)]; exact q) (.inl ?_)
  rcases hc.2 with h2 | h2
  · exact PyProof.noPylong_small (by omega)
  · exact PyProof.noPylong_of_log2 h2
def rCatS (K : PySem.W.Frag) : R2 := fun x y H Q => ∃ l b xs zs, x = .ref l ∧ y = .ref b ∧ SqL K H l xs ∧ SqL K H b zs ∧ xs.length + zs.length ≤ sizeLine ∧ ∀ p, H p = none → Q (.ref p) (upd H p (.lst (xs ++ zs)))
theorem op_catS : OpR X (binaryOp .Add) (rCatS X.K) := by
  intro pins s σ H x y v u Q I rx ry h
  obtain ⟨l, b, xs, zs, rfl, rfl, hH, hB, hz, q⟩ := h
  cases rx
  cases ry
  obtain ⟨its, r, hl, z⟩ := I.list hH
  obtain ⟨its2, r2, hl2, z2⟩ := I.list hB
  obtain ⟨⟨cls, dd, data, sl⟩, n, ho, hc, hdd, hd⟩ := hl
  obtain ⟨⟨cls2, dd2, data2, sl2⟩, n2, ho2, hc2, hdd2, hd2⟩ := hl2
  simp only at hc hd hc2 hd2
  subst hc hd hc2 hd2
  have l1 := r.length
  have l2 := r2.length
  have ea : its.toArray ++ its2.toArray = (its ++ its2).toArray := by simp
  refine concat_meets ⟨_, ho, rfl⟩ ⟨_, ho2, rfl⟩ noFill_list_add seq_list_add PySem.F.slot_list_add PySem.F.entry_list_add (PySem.F.args_list_add_2 _ _) (list_addW l b its.toArray its2.toArray n n2 dd dd2 sl sl2 (by rw [List.size_toArray, List.size_toArray]; omega)) ⟨ho, ho2, ?_⟩
  rw [ea]
  exact ⟨.ref _, _, I.lnew (t' := s.toks) (r.append r2) (by rw [List.length_append]; omega), rfl, q _ I.fresh⟩
def gLst (K : PySem.W.Frag) (n : Nat) (t : TGs) : TG := fun v σ H Q => ∃ a xs, v = .ref a ∧ SqL K H a xs ∧ xs.length = n ∧ t xs σ H Q
theorem pg_lst {es : List Expr} {k : Nat} {t : TGs} {n : Nat} (hc : X.calm = true) (h : PGs X es t)
    (hn : (assignEach es X.env).length = n := by rfl) (hst : (assignEach es X.env).findIdx? (·.1) = none := by rfl) : PG X (.Tuple es k pos) (gLst X.K n t) := by
  intro pins s σ H v u Q I r hw
  obtain ⟨a, xs, e1, hq, hl, hw⟩ := hw
  subst e1
  cases r
  obtain ⟨its, rv, ht, hz⟩ := I.list hq
  have hlist : s.heap.IsList a its.toArray := by
    obtain ⟨o, m, e, h1, _, h2⟩ := ht
    exact ⟨o, e, h1, m, h2⟩
  rw [assign_Tuple]
  refine wpAny_bind (wpAny_standAt ?_)
  unfold unpack
  have e2 : (assignEach es X.env).length = its.toArray.size := by rw [hn, ← hl, rv.length]; simp
  rw [e2, hst]
  refine wpAny_bind (wpAny_holding (PySem.W.kun_itemsOf (I.ok.hd hc) hlist fun h' hx => ?_))
  have I1 : Inv X pins σ H { s with heap := h' } := I.kept (t' := s.toks) fun b o e => hx b o (Nat.ne_of_lt (Heap.lt_size e)) e
  exact h pins _ σ H xs _ Q I1 (by simpa using rv) hw
theorem call_isinst : CallR X (.builtin "isinstance") (fun xs H Q => ∃ x n t b, xs = [x, .ty n] ∧ TyOf X.K H x t ∧ PySem.W.kitOne X.K t (.type n) = some b ∧ Q (.bl b) H) := by
  intro pins s σ H xs us Q I r h
  obtain ⟨x, n, t, b, rfl, ty, e, q⟩ := h
  obtain ⟨u, w', rfl, r1, r2⟩ := vals2 r
  cases (show w' = Value.type n from r2)
  exact isinst_ok I r1 ty e fun tk => ⟨.bl b, H, I.tok _, rfl, q⟩
end
end L2
namespace L2
open PySem PySem.Spec PyProof.Rows
section
variable {X : Cx}
end
end L2
namespace L2
open PySem PySem.Spec PyProof.Rows
theorem cut {X : Cx} {sts : List Stmt} {D : Ends} {σ : St} {H : Hp} (n : Nat) (M : St → Hp → Prop) (tail : ∃ t2, PSs X (sts.drop n) t2 ∧ ∀ σ' H', M σ' H' → t2 D σ' H')
    (head : ∀ t2, PSs X (sts.drop n) t2 → (∀ σ' H', M σ' H' → t2 D σ' H') → ∃ t, PSs X sts t ∧ t D σ H) : ∃ t, PSs X sts t ∧ t D σ H := by
  obtain ⟨t2, h1, h2⟩ := tail
  exact head t2 h1 h2
end L2
namespace L2
open PySem PySem.Spec PyProof.Rows
theorem cxOf_K (CX : CXT) (P : Program) (w : World) (K : PySem.W.Frag) (mg : Str → Option Value) (base : Heap) (N : List Str) (qual : Str) (scope : Scope) (f : Addr) (cd : Value) (A : Around) (outer : List Env) (s : Shared) (H : Hp) (E : XK) :
    (cxOf CX P w K mg base N qual scope f cd A outer s H E).K = K := rfl
end L2
namespace L2
open PySem PySem.Spec PyProof.Rows
theorem kit_same (K : PySem.W.Frag) (t : String) : PySem.W.kitOne K (.type t) (.type t) = some true := by
  unfold PySem.W.kitOne
  rw [if_pos (by simp)]
theorem kit_far (K : PySem.W.Frag) {t u : String} {b : Bool} (e1 : (Value.type t == Value.type u) = false) (e2 : PySem.W.kitMeta u = true) (e3 : (fastBuiltinMro t).map (·.contains (Value.type u)) = some b) : PySem.W.kitOne K (.type t) (.type u) = some b := by
  unfold PySem.W.kitOne
  rw [e1, if_neg Bool.false_ne_true]
  show (if PySem.W.kitMeta u = true then _ else _) = _
  rw [if_pos e2]
  exact e3
theorem kit_int_bool (K : PySem.W.Frag) : PySem.W.kitOne K (.type "int") (.type "bool") = some false := kit_far K (by decide +kernel) (by decide +kernel) (by decide +kernel)
end L2
namespace L2
open PySem PySem.Spec PyProof.Rows
theorem Same.put {H : Hp} {b : Addr} {o : HO} (h : H b = none) : Same H (upd H b o) := fun c u e => by
  rw [upd_ne (ne_of_none e h)]
  exact e
end L2
namespace L2
theorem scal_ii (i j : Int) : scal (.int i) (.int j) = true := rfl
theorem scal_bb (i j : Bool) : scal (.bl i) (.bl j) = true := rfl
theorem scal_ss (i j : PySem.Str) : scal (.str i) (.str j) = true := rfl
theorem scal_in (i : Int) : scal (.int i) .non = true := rfl
theorem scal_ni (i : Int) : scal .non (.int i) = true := rfl
end L2
namespace L2
open PySem PySem.Spec PyProof.Rows
def cxLc (X : Cx) (N : List Str) (scope : Scope) (cl : List (Str × Addr)) (C : Addr) (s : Shared) (H : Hp) (fp : List Addr) : Cx :=
  { X with N := N, s₀ := s, H₀ := H, env := compEnvC scope cl C X.env, outer := X.stack, stack := X.stack, ex := fp, fn := fun _ => false, pn := [], xe := fun _ _ => False }
def lcSlots (fr : List Nat) (σ : St) (v : Option V) : St := v :: fr.map fun j => (σ[j]?).join
structure LcOk (X : Cx) (x : Str) (ns : List Str) (fr : List Nat) (scope : Scope) (cl : List (Str × Addr)) : Prop where
  clos : closureFor scope X.env = pure cl
  nocell : ∀ y ∈ scope.names, y.2 ≠ .cell
  kind : scope.kind = .function
  own : ∀ y ∈ scope.names, y.2 = .local → scope.names.lookup y.1 = some .local
  var : scope.names.lookup x = some .local
  sub : ∀ z c, cl.lookup z = some c → X.env.cells.lookup z = some c
  has : ∀ z, ((relabel scope X.env).names.lookup z = some .cell ∨ (relabel scope X.env).names.lookup z = some .free) → ∃ c, cl.lookup z = some c
  len : ns.length = fr.length
  from_ : ∀ (k : Nat) z j, ns[k]? = some z → fr[k]? = some j → X.N[j]? = some z ∧ X.env.scope.names.lookup z = some .cell ∧ ((relabel scope X.env).names.lookup z = some .cell ∨ (relabel scope X.env).names.lookup z = some .free)
  nd : (x :: ns).Nodup
inductive LcIf (P : Expr → TT → Prop) : List Expr → TT → Prop where
  | nil : LcIf P [] fun _ H Q => Q true H
  | one {c : Expr} {t : TT} (h : P c t) : LcIf P [c] t
def lcLoop (J : It) (fr : List Nat) (tt : TT) (te : TE) (σ : St) (D : Addr) (Q : Hp → Prop) (H : Hp) : Prop :=
  ∃ W : Nat → Nat → Hp → Prop, (∃ m, W 0 m H) ∧ ∀ i m H2, W i m H2 → (J.stop i H2 ∧ Q H2) ∨ (J.go i H2 ∧ ∀ v H', J.yld i H2 v H' → tt (lcSlots fr σ (some v)) H' fun b H3 =>
    if b = true then te (lcSlots fr σ (some v)) H3 fun y H4 => ∃ ys, H4 D = some (.lst ys) ∧ ys.length < sizeLine ∧ ∃ m', m' < m ∧ W (i + 1) m' (upd H4 D (.lst (ys ++ [y]))) else ∃ m', m' < m ∧ W (i + 1) m' H3)
theorem iteT_inv {A B : Prop} (h : if true = true then A else B) : A := by
  rw [if_pos rfl] at h
  exact h
section
variable {X : Cx} {pins : List (Addr × Obj)} {σ : St} {H : Hp} {s : Shared} {x : Str} {ns : List Str} {fr : List Nat} {scope : Scope} {cl : List (Str × Addr)} {fp : List Addr}
theorem lc_ok (I : Inv X pins σ H s) (L : LcOk X x ns fr scope cl) (hf : ∀ b ∈ fp, FpOk X pins H b) (ho : ∀ b ∈ fp, b < s.heap.objs.size) : (cxLc X (x :: ns) scope cl s.heap.objs.size s H fp).Ok where
  mod := I.ok.mod
  kind := L.kind
  glob := I.ok.glob
  blt := I.ok.blt
  above := Nat.le_refl _
  inj := fun a b c h1 h2 => I.ok.inj a b c (L.sub a c h1) (L.sub b c h2)
  has := fun z h => L.has z h
  cab := fun _ _ h => nomatch h
  hd := I.ok.hd
  frames := I.ok.frames
  stk := .inl rfl
  exf := fun b hb => ⟨Nat.ne_of_lt (ho b hb), fun z c h => (hf b hb).2.2.2.2.1 z c (L.sub z c h)⟩
  bs := I.bs
  bsz := Nat.le_trans I.ok.bsz I.sz
  noex := fun b o e hb => by
    rcases (hf b hb).2.2.2.1 with h | h
    · exact I.ok.noex b o e h
    · exact absurd (Nat.lt_of_lt_of_le (Heap.lt_size e) (Nat.le_trans I.ok.bsz h)) (Nat.lt_irrefl _)
  exfs := fun b hb hs => by
    rcases List.mem_cons.mp (I.stkSub b hs) with h | h
    · exact (hf b hb).2.1 h
    · exact (hf b hb).2.2.1 h
  funs := I.stack
  frf := I.stkFree
theorem lc_slot {fr : List Nat} {σ : St} {v : Option V} {k : Nat} {u : V} (h : (lcSlots fr σ v)[k + 1]? = some (some u)) : ∃ j, fr[k]? = some j ∧ σ[j]? = some (some u) := by
  unfold lcSlots at h
  rw [List.getElem?_cons_succ, List.getElem?_map] at h
  cases e : fr[k]? with
  | none => rw [e] at h; cases h
  | some j =>
    rw [e] at h
    refine ⟨j, rfl, ?_⟩
    cases e2 : σ[j]? with
    | none => simp [e2] at h
    | some o => simp [e2] at h; rw [h]
theorem lc_start {h' : Heap} {t' : Nat} (I : Inv X pins σ H s) (L : LcOk X x ns fr scope cl) (hf : ∀ b ∈ fp, FpOk X pins H b) (ho : ∀ b ∈ fp, b < s.heap.objs.size)
    (hn : h'.Ns s.heap.objs.size fun _ => none) (hk : ∀ b o, s.heap.get? b = some o → h'.get? b = some o) :
    Inv (cxLc X (x :: ns) scope cl s.heap.objs.size s H fp) [] (lcSlots fr σ none) H { s with heap := h', toks := t' } where
  ok := lc_ok I L hf ho
  os := rfl
  bare := I.bare
  base := Un.kept hk
  loc := by
    refine ⟨_, hn, fun i z v e1 e2 e3 => ?_⟩
    cases i with
    | zero => cases e2
    | succ k =>
      have e1' : ns[k]? = some z := e1
      obtain ⟨j, ej, ev⟩ := lc_slot e2
      obtain ⟨hN, hc, hy⟩ := L.from_ k z j e1' ej
      obtain ⟨m, hm, hl⟩ := I.loc
      obtain ⟨u, r, l⟩ := hl j z v hN ev (.inr (.inl hc))
      refine ⟨u, r, .inr ⟨hy, ?_⟩⟩
      rcases l with ⟨l, _⟩ | ⟨_, c, hcl, ⟨o, ho2, hd⟩⟩
      · have : X.env.scope.names.lookup z = some .local := l
        rw [hc] at this
        cases this
      · obtain ⟨c', hc'⟩ := L.has z hy
        have e := L.sub z c' hc'
        rw [hcl] at e
        cases e
        exact ⟨c, hc', o, hk c o ho2, hd⟩
  cell := fun z c e => by
    obtain ⟨v, o, ho2, hd⟩ := I.cell z c (L.sub z c e)
    exact ⟨v, o, hk c o ho2, hd⟩
  free := I.fresh
  freeC := fun z c e => I.freeC z c (L.sub z c e)
  pin := fun p hp => nomatch hp
  hok := I.hok.kept hk
  len := by
    show (lcSlots fr σ none).length = (x :: ns).length
    unfold lcSlots
    rw [List.length_cons, List.length_map, List.length_cons, L.len]
theorem lc_block {elt iter : Expr} {px : Pos} {ifs : List Expr} {pos : Pos} {J : It} {it D : Addr} {tn : Nat → Heap → Prop} {tt : TT} {te : TE} {Qe : Hp → Prop} {R : Result → Shared → Prop} {s4 : Shared}
    (hc : X.calm = true) (L : LcOk X x ns fr scope cl) (T : Turn X.prog X.w X.K (.Name x px) J fp it tn) (hf : ∀ b ∈ fp, FpOk X pins H b) (ho : ∀ b ∈ fp, b < s.heap.objs.size) (I : Inv X pins σ H s)
    (hE : PE (cxLc X (x :: ns) scope cl s.heap.objs.size s H fp) elt te) (hT : LcIf (PT (cxLc X (x :: ns) scope cl s.heap.objs.size s H fp)) ifs tt) (hw : lcLoop J fr tt te σ D Qe H)
    (I4 : Inv (cxLc X (x :: ns) scope cl s.heap.objs.size s H fp) [] (lcSlots fr σ none) H s4) (st4 : tn 0 s4.heap)
    (hR : ∀ (s' : Shared) (H' : Hp) (v : Option V), Inv (cxLc X (x :: ns) scope cl s.heap.objs.size s H fp) [] (lcSlots fr σ v) H' s' → Qe H' → R (.ok .next) s') :
    codeAny (model X.prog X.w) X.A (.compStart (.ListComp elt [⟨.Name x px, iter, ifs, 0⟩] scope pos) 0 (.ref it) (.ref D) (compEnvC scope cl s.heap.objs.size X.env)) R s4 := by
  obtain ⟨W, ⟨m0, w0⟩, turn⟩ := hw
  have okY := lc_ok I L hf ho
  have hxl : Loc (cxLc X (x :: ns) scope cl s.heap.objs.size s H fp).env.scope x := .inl (lookup_relabel_local L.var)
  have stat : ∀ {H' : Hp}, (∀ b ∈ fp, H' b = none) → ∀ b ∈ fp, FpOk (cxLc X (x :: ns) scope cl s.heap.objs.size s H fp) [] H' b := fun hn b hb =>
    ⟨hn b hb, (okY.exf b hb).1, okY.exfs b hb, .inl hb, (okY.exf b hb).2, fun p hp => nomatch hp⟩
  have fr0 : ∀ b ∈ fp, H b = none := fun b hb => (hf b hb).1
  have loop : codeAny (model X.prog X.w) X.A (.compLoop (.ListComp elt [⟨.Name x px, iter, ifs, 0⟩] scope pos) 0 (.ref it) (.ref D) (compEnvC scope cl s.heap.objs.size X.env)) R s4 := by
    refine codeAny_loop rfl (fun n s' => ∃ i v H', Inv (cxLc X (x :: ns) scope cl s.heap.objs.size s H fp) [] (lcSlots fr σ v) H' s' ∧ tn i s'.heap ∧ (∀ b ∈ fp, H' b = none) ∧ W i n H') (fun n s3 hI => ?_) m0 ⟨0, none, H, I4, st4, fr0, w0⟩
    obtain ⟨i, v0, H3, I3, st3, fr3, w3⟩ := hI
    show wpAny _ X.A ((compTurn (.ListComp elt [⟨.Name x px, iter, ifs, 0⟩] scope pos) 0 (.ref it) (.ref D) (compEnvC scope cl s.heap.objs.size X.env)).onRaise (fun y => do noteFrame y (compEnvC scope cl s.heap.objs.size X.env); theTreesLotGoes y)) _ _ s3
    refine wpAny_noted ?_
    rw [compTurn_list]
    have low : ∀ {α : Type} {t : Sem α} {Q Q' : α → Shared → Prop} {E : Value → Shared → Prop} {s5 : Shared}, wpAny (model X.prog X.w) X.A t Q (fun _ _ => False) s5 → (∀ a s6, Q a s6 → Q' a s6) → wpAny (model X.prog X.w) X.A t Q' E s5 :=
      fun h hq => wpAny_mono h hq fun _ _ z => z.elim
    rcases turn i n H3 w3 with ⟨stop, q⟩ | ⟨go, step⟩
    · refine wpAny_bind (wpAny_standAt (wpAny_bind (low (T.done (cxLc X (x :: ns) scope cl s.heap.objs.size s H fp) rfl rfl rfl hc i [] s3 _ H3 (fun _ _ => False) I3 (stat fr3) st3 stop) fun r s5 hr => ?_)))
      obtain ⟨hr, I5⟩ := hr
      subst hr
      exact wpAny_pure (hR s5 H3 v0 I5 q)
    · refine wpAny_bind (wpAny_standAt (wpAny_bind (low (T.item (cxLc X (x :: ns) scope cl s.heap.objs.size s H fp) rfl rfl rfl hc i [] s3 _ H3 (fun _ _ => False) I3 (stat fr3) st3 go) fun r s5 hr => ?_)))
      obtain ⟨u, hr, h5⟩ := hr
      subst hr
      refine wpAny_bind (low h5 fun _ s6 h6 => ?_)
      obtain ⟨y, H6, I6, r6, y6, st6, fr6⟩ := h6
      have I6' := I6.pinned (stat fr6) (T.obj _ _ st6)
      have hg : PG (cxLc X (x :: ns) scope cl s.heap.objs.size s H fp) (.Name x px) (gName 0) := pg_name (i := 0) L.nd rfl hxl (.inr (lookup_relabel_local L.var))
      refine wpAny_bind (low (hg _ s6 _ H6 y u (fun σ' H' => σ' = lcSlots fr σ (some y) ∧ H' = H6) I6' r6 ⟨rfl, rfl⟩) fun _ s7 h7 => ?_)
      obtain ⟨σ7, H7, I7, e7, e7'⟩ := h7
      subst e7 e7'
      have back : ∀ {H8 : Hp} {s8 : Shared}, Inv (cxLc X (x :: ns) scope cl s.heap.objs.size s H fp) ([] ++ pinsAt fp s6.heap) (lcSlots fr σ (some y)) H8 s8 → (∃ m', m' < n ∧ W (i + 1) m' H8) →
          ∃ m, m < n ∧ ∃ i v H', Inv (cxLc X (x :: ns) scope cl s.heap.objs.size s H fp) [] (lcSlots fr σ v) H' s8 ∧ tn i s8.heap ∧ (∀ b ∈ fp, H' b = none) ∧ W i m H' := fun {H8 s8} I8 hm => by
        obtain ⟨m', hm, w8⟩ := hm
        refine ⟨m', hm, i + 1, some y, H8, I8.unpinned, T.keep _ _ _ st6 fun b hb o e => (I8.pin (b, o) (List.mem_append_right _ (List.mem_append_right _ (mem_pinsAt hb e)))).1, fun b hb => ?_, w8⟩
        obtain ⟨o, e, d⟩ := T.obj _ _ st6 b hb
        exact (I8.pin (b, o) (List.mem_append_right _ (List.mem_append_right _ (mem_pinsAt hb e)))).2.1
      have hstep := step y _ y6
      have emit : ∀ {H8 : Hp} {s8 : Shared}, Inv (cxLc X (x :: ns) scope cl s.heap.objs.size s H fp) ([] ++ pinsAt fp s6.heap) (lcSlots fr σ (some y)) H8 s8 →
          te (lcSlots fr σ (some y)) H8 (fun y H4 => ∃ ys, H4 D = some (.lst ys) ∧ ys.length < sizeLine ∧ ∃ m', m' < n ∧ W (i + 1) m' (upd H4 D (.lst (ys ++ [y])))) →
          wpAny (model X.prog X.w) X.A (do let _ ← call (.builtin "list.append") [.ref D, ← eval elt (compEnvC scope cl s.heap.objs.size X.env)]) (fun _ s9 => ∃ m, m < n ∧ ∃ i v H', Inv (cxLc X (x :: ns) scope cl s.heap.objs.size s H fp) [] (lcSlots fr σ v) H' s9 ∧ tn i s9.heap ∧ (∀ b ∈ fp, H' b = none) ∧ W i m H') (fun _ _ => False) s8 := fun {H8 s8} I8 h8 => by
        refine wpAny_bind (thn (hE _ s8 _ H8 _ I8 h8) fun v9 s9 h9 => ?_)
        obtain ⟨z, H9, I9, r9, ys, hD, hlen, hm⟩ := h9
        refine wpAny_bind (thn (mt_append (X := cxLc X (x :: ns) scope cl s.heap.objs.size s H fp) _ s9 _ H9 (.ref D) [z] (.ref D) [v9] (fun _ H' => ∃ m', m' < n ∧ W (i + 1) m' H') I9 rfl (.cons r9 .nil) ⟨D, ys, z, rfl, rfl, hD, hlen, hm⟩) fun v10 s10 h10 => ?_)
        obtain ⟨_, H10, I10, _, hm10⟩ := h10
        exact wpAny_pure (back I10 hm10)
      cases hT with
      | nil =>
        refine wpAny_bind (wpAny_tests_nil ?_)
        refine wpAny_bind (low (emit I7 (iteT_inv hstep)) fun _ s9 h9 => wpAny_pure ⟨rfl, h9⟩)
      | one hP =>
        refine wpAny_bind (wpAny_tests_one (low (hP _ s7 _ _ _ I7 hstep) fun b s8 h8 => ?_))
        obtain ⟨H8, I8, q8⟩ := h8
        cases b with
        | false =>
          have q9 : ∃ m', m' < n ∧ W (i + 1) m' H8 := q8
          exact wpAny_pure ⟨rfl, back I8 q9⟩
        | true =>
          exact wpAny_bind (low (emit I8 q8) fun _ s9 h9 => wpAny_pure ⟨rfl, h9⟩)
  exact codeAny_compStart_list loop (T.self X.A 0 _ _ _ st4 loop)
theorem lc_after {s' : Shared} {H' : Hp} {σ' : St} (I : Inv X pins σ H s) (hf : ∀ b ∈ fp, FpOk X pins H b) (I' : Inv (cxLc X (x :: ns) scope cl s.heap.objs.size s H fp) [] σ' H' s') : Inv X pins σ H' s' :=
  I.call' (ch := fp) I'.os I'.base I'.hok I'.bare fun b hb => ⟨(hf b hb).2.2.2.1, (hf b hb).2.1, (hf b hb).2.2.2.2.1, (hf b hb).2.2.2.2.2⟩
theorem lc_run {elt iter : Expr} {px : Pos} {ifs : List Expr} {pos : Pos} {J : It} {it : Addr} {tn : Nat → Heap → Prop} {tt : TT} {te : TE} {Qe : Addr → Hp → Prop} {R : Value → Addr → Result → Shared → Prop} {E : Value → Shared → Prop}
    (hc : X.calm = true) (L : LcOk X x ns fr scope cl) (T : Turn X.prog X.w X.K (.Name x px) J fp it tn) (hf : ∀ b ∈ fp, FpOk X pins H b) (I : Inv X pins σ H s) (st : tn 0 s.heap)
    (hE : ∀ C s H, PE (cxLc X (x :: ns) scope cl C s H fp) elt te) (hT : ∀ C s H, LcIf (PT (cxLc X (x :: ns) scope cl C s H fp)) ifs tt) (hw : ∀ D, H D = none → lcLoop J fr tt te σ D (Qe D) (upd H D (.lst [])))
    (hR : ∀ (D C : Addr) (s' : Shared) (H' : Hp), Inv X pins σ H' s' → Qe D H' → (∃ m o, s'.heap.get? C = some o ∧ (∀ v, o.data ≠ .cell v) ∧ ∀ h' : Heap, h'.get? C = some o → h'.Ns C m) → H' C = none → C ≠ X.env.locals → C ∉ X.fs → X.s₀.heap.objs.size ≤ C →
      (∀ z c, X.env.cells.lookup z = some c → c ≠ C) → (∀ p ∈ X.pn ++ pins, p.1 ≠ C) → R (.ref D) C (.ok .next) s') :
    wpAny (model X.prog X.w) X.A (newList []) (fun acc s₃ => wpAny (model X.prog X.w) X.A (newFunctionEnv scope X.env.globals cl [] X.env.qual none .none (some X.env)) (fun cenv s₄ =>
      codeAny (model X.prog X.w) X.A (.compStart (.ListComp elt [⟨.Name x px, iter, ifs, 0⟩] scope pos) 0 (.ref it) acc { cenv with scope := relabel scope X.env }) (R acc cenv.locals) s₄) E s₃) E s := by
  have ho : ∀ b ∈ fp, b < s.heap.objs.size := fun b hb => by
    obtain ⟨o, e, _⟩ := T.obj _ _ st b hb
    exact Heap.lt_size e
  have I3 : Inv X pins σ (upd H s.heap.objs.size (.lst [])) { s with heap := s.heap.push { cls := .type "list", dict := none, data := .seq ([] : List Value).toArray } } := I.lnew (t' := s.toks) (.nil) (Nat.zero_le _)
  refine wpAny_newObj_type (wpAny_newFunctionEnv L.nocell (by intro y hy; simp at hy) (fun h1 hns hsb => ?_) L.kind)
  dsimp only at hns hsb ⊢
  generalize hs3 : ({ s with heap := s.heap.push { cls := .type "list", dict := none, data := .seq ([] : List Value).toArray } } : Shared) = s3 at I3
  have eh : s.heap.push { cls := .type "list", dict := none, data := .seq ([] : List Value).toArray } = s3.heap := by rw [← hs3]
  rw [eh] at hns hsb ⊢
  have hz : s3.heap.objs.size = s.heap.objs.size + 1 := by rw [← eh, Heap.size_push]
  have hk : ∀ b o, s3.heap.get? b = some o → h1.get? b = some o := fun b o e => hsb.extBut b o (Nat.ne_of_lt (Heap.lt_size e)) (Heap.get?_push_of_some _ e)
  have hf3 : ∀ b ∈ fp, FpOk X pins (upd H s.heap.objs.size (.lst [])) b := fun b hb => ⟨by rw [upd_ne (Nat.ne_of_lt (ho b hb))]; exact (hf b hb).1, (hf b hb).2⟩
  have ho3 : ∀ b ∈ fp, b < s3.heap.objs.size := fun b hb => by rw [hz]; exact Nat.lt_succ_of_lt (ho b hb)
  have es : ∀ tk, ({ s with heap := h1, toks := tk } : Shared) = { s3 with heap := h1, toks := tk } := fun tk => by rw [← hs3]
  rw [es]
  have I4 := lc_start (t' := s.toks + ([] : List (Str × Value)).length) I3 L hf3 ho3 hns hk
  refine lc_block hc L T hf3 ho3 I3 (hE _ _ _) (hT _ _ _) (hw _ I.fresh) I4 ?_ fun s' H' v I' q => ?_
  · refine T.keep _ _ _ st fun b hb o e => hk b o ?_
    rw [← eh]
    exact Heap.get?_push_of_some _ e
  · have IX := lc_after I3 hf3 I'
    obtain ⟨m, ⟨o, es', ep, ho', hd', hr'⟩, _⟩ := I'.loc
    refine hR _ _ s' H' IX q ⟨m, o, ho', fun v z => ?_, fun h' e => ⟨o, es', ep, e, hd', hr'⟩⟩ I'.free (Nat.ne_of_gt I3.lt) (I3.nofs (Nat.le_refl _)) I3.sz (fun z c e => ?_) fun p hp => ?_
    · rw [hd'] at z
      cases z
    · obtain ⟨v, o2, e2, _⟩ := I3.cell z c e
      exact Nat.ne_of_lt (Heap.lt_size e2)
    · exact Nat.ne_of_lt (Heap.lt_size (I3.pin p hp).1)
def tLc (wi : TI) (fr : List Nat) (tt : TT) (te : TE) : TE := fun σ H Q => wi σ H fun J H1 => ∀ D, H1 D = none → lcLoop J fr tt te σ D (fun H2 => Q (.ref D) H2) (upd H1 D (.lst []))
theorem pe_lc {elt iter : Expr} {px pos : Pos} {ifs : List Expr} {wi : TI} {tt : TT} {te : TE} (hc : X.calm = true) (L : LcOk X x ns fr scope cl) (hi : PI X (.Name x px) iter wi)
    (hE : ∀ C s H fp, PE (cxLc X (x :: ns) scope cl C s H fp) elt te) (hT : ∀ C s H fp, LcIf (PT (cxLc X (x :: ns) scope cl C s H fp)) ifs tt)
    (hs : ∀ v, foldedSetIterable iter X.env v = pure v := by intro _; rfl) : PE X (.ListComp elt [⟨.Name x px, iter, ifs, 0⟩] scope pos) (tLc wi fr tt te) := by
  intro pins s σ H Q I h
  rw [eval_ListComp]
  refine wpAny_comprehension_free (use := none) rfl hs L.clos L.kind L.own (thn (hi pins s σ H _ I h) fun v s1 h1 => thn h1 fun itv s2 h2 => ?_)
  obtain ⟨it, fp, tn, J, H2, e, I2, T, st2, f2, q⟩ := h2
  subst e
  refine lc_run (R := fun acc C => compPost (model X.prog X.w) X.A X.xe none (EP X pins σ Q) acc C) hc L T f2 I2 st2 (fun C s H => hE C s H fp) (fun C s H => hT C s H fp) q ?_
  intro D C s' H' I' q' hns hn hl hfs hz hcell hpin
  obtain ⟨m, o, e, hd, hk⟩ := hns
  refine ⟨m, hk _ e, fun h' hsb => ?_⟩
  exact ⟨.ref D, H', I'.turned (t' := s'.toks) (fun b o hb e => hsb.extBut b o hb e) hn hl (.inr hz) hcell hpin, rfl, q'⟩
theorem ps_lc {elt iter : Expr} {y : Str} {j : Nat} {px py pos spos : Pos} {ifs : List Expr} {wi : TI} {tt : TT} {te : TE} (hc : X.calm = true) (hN : X.N.Nodup) (hj : X.N[j]? = some y) (hy : X.env.scope.names.lookup y = some .local) (L : LcOk X x ns fr scope cl) (hi : PI X (.Name x px) iter wi)
    (hE : ∀ C s H fp, PE (cxLc X (x :: ns) scope cl C s H fp) elt te) (hT : ∀ C s H fp, LcIf (PT (cxLc X (x :: ns) scope cl C s H fp)) ifs tt)
    (hsw : swapsWith (.ListComp elt [⟨.Name x px, iter, ifs, 0⟩] scope pos) (some (.Name y py)) spos.line X.env = pure true := by rfl)
    (hs : ∀ v, foldedSetIterable iter X.env v = pure v := by intro _; rfl) : PS X (.Assign [.Name y py] (.ListComp elt [⟨.Name x px, iter, ifs, 0⟩] scope pos) spos) (tAsg (tLc wi fr tt te) (gName j)) := by
  intro pins s σ H Dn I h
  rw [exec_Assign_Name_used _ _ _ _ hsw]
  refine wpAny_bind (wpAny_standAt (wpAny_bind ?_))
  show wpAny _ X.A (do let _ ← comprehension (.ListComp elt [⟨.Name x px, iter, ifs, 0⟩] scope pos) scope X.env _ (newList []) false (eval iter X.env) (some (assign (.Name y py) X.env))) _ _ s
  refine wpAny_bind (thn (wpAny_comprehension_free (use := some (assign (.Name y py) X.env)) (Q := fun _ s' => SP X pins Dn .next s') rfl hs L.clos L.kind L.own (thn (hi pins s σ H _ I h) fun v s1 h1 => thn h1 fun itv s2 h2 => ?_)) fun _ s' q => wpAny_pure (wpAny_pure q))
  obtain ⟨it, fp, tn, J, H2, e, I2, T, st2, f2, q⟩ := h2
  subst e
  refine lc_run (R := fun acc C => compPost (model X.prog X.w) X.A X.xe (some (assign (.Name y py) X.env)) (fun _ s' => SP X pins Dn .next s') acc C) hc L T f2 I2 st2 (fun C s H => hE C s H fp) (fun C s H => hT C s H fp) q ?_
  intro D C s' H' I' q' hns hn hl hfs hz hcell hpin
  obtain ⟨m, o, e, hd, hk⟩ := hns
  have I'' : Inv X (pins ++ [(C, o)]) σ H' s' := I'.pins_of fun p hp => by
    rcases List.mem_append.mp hp with h | h
    · exact I'.pin p (List.mem_append_right _ h)
    · have ep : p = (C, o) := by simpa using h
      subst ep
      exact ⟨e, hn, hl, hfs, hd⟩
  refine wpAny_assign_Name (store_ok I'' hN hj (.inl hy) (show RelV (.ref D) (.ref D) from rfl) (fun s2 I2 => ?_) (.inr hy))
  obtain ⟨e2, n2, _⟩ := I2.pin (C, o) (List.mem_append_right _ (List.mem_append_right _ (List.mem_singleton.mpr rfl)))
  refine ⟨m, hk _ e2, fun h' hsb => ?_⟩
  exact ⟨σ.set j (some (.ref D)), H', I2.unpinned.turned (t' := s2.toks) (fun b o hb e => hsb.extBut b o hb e) hn hl (.inr hz) hcell hpin, q'⟩
end
section
variable {X : Cx} {x : Str} {ns : List Str} {fr : List Nat} {scope : Scope} {cl : List (Str × Addr)}
theorem lk_mem {α : Type} {z : Str} {c : α} : ∀ {l : List (Str × α)}, l.lookup z = some c → (z, c) ∈ l
  | [], h => by simp at h
  | (y, d) :: l, h => by
    rw [List.lookup_cons] at h
    cases e : z == y with
    | true =>
      rw [e] at h
      have e2 : z = y := by simpa using e
      cases h
      rw [e2]
      exact List.mem_cons_self
    | false =>
      rw [e] at h
      exact List.mem_cons_of_mem _ (lk_mem h)
theorem lcok (clos : closureFor scope X.env = pure cl) (nocell : scope.names.all (fun y => y.2 != .cell) = true) (kind : scope.kind = .function)
    (own : scope.names.all (fun y => y.2 != .local || scope.names.lookup y.1 == some .local) = true) (var : scope.names.lookup x = some .local) (sub : ∀ p ∈ cl, X.env.cells.lookup p.1 = some p.2)
    (has : (relabel scope X.env).names.all (fun y => !(y.2 == .cell || y.2 == .free) || (cl.lookup y.1).isSome) = true) (len : ns.length = fr.length)
    (fr_ : ∀ p ∈ ns.zip fr, X.N[p.2]? = some p.1 ∧ X.env.scope.names.lookup p.1 = some .cell ∧ ((relabel scope X.env).names.lookup p.1 = some .cell ∨ (relabel scope X.env).names.lookup p.1 = some .free)) (nd : (x :: ns).Nodup) : LcOk X x ns fr scope cl where
  clos := clos
  nocell := fun y hy => by simpa using List.all_eq_true.mp nocell y hy
  kind := kind
  own := fun y hy h => by
    have := List.all_eq_true.mp own y hy
    rw [h] at this
    simpa using this
  var := var
  sub := fun z c h => sub _ (lk_mem h)
  has := fun z h => by
    have k : ∀ t, (relabel scope X.env).names.lookup z = some t → (t = .cell ∨ t = .free) → ∃ c, cl.lookup z = some c := fun t ht hk => by
      have := List.all_eq_true.mp has _ (lk_mem ht)
      rcases hk with rfl | rfl <;> simpa [Option.isSome_iff_exists] using this
    rcases h with h | h
    · exact k _ h (.inl rfl)
    · exact k _ h (.inr rfl)
  len := len
  from_ := fun k z j h1 h2 => fr_ (z, j) (List.mem_of_getElem? (i := k) (by rw [List.getElem?_zip_eq_some]; exact ⟨h1, h2⟩))
  nd := nd
end
end L2
namespace L2
end L2
namespace L2
open PySem PySem.Spec PyProof.Rows
end L2
namespace L2
open PySem PySem.Spec PyProof.Rows
open AutoSeq1 (wpAny_loadPart')
section
variable {prog : Program} {w : World} {A : Around} {E : Value → Shared → Prop} {s : Shared}
abbrev enKw (p : Int) (t : Tok) : List (Str × Value) := [("start", .int p t)]
theorem en_type (l : Value) (p : Int) (t : Tok) : checkTypeCall "enumerate" ⟨[l], enKw p t⟩ = pure () := by kernel_rfl
theorem en_newc (l : Value) (p : Int) (t : Tok) : checkBuiltinCall "enumerate.__new__" ⟨[.type "enumerate", l], enKw p t⟩ = pure () := by kernel_rfl
theorem en_init (o l : Value) (p : Int) (t : Tok) : argsOk "object.__init__" ⟨[o, l], enKw p t⟩ := by
  first | exact ⟨rfl⟩ | decide | (unfold argsOk; kernel_rfl) | trivial
theorem en_new (l : Addr) (xs : Array Value) (n : Nat) (dct : Option Addr) (sl : Array (Option Value)) (p : Int) (t : Tok) (hp : (!Builtin.SmallTypes.fitsIndex p) = false) :
    Meets (Builtin.«enumerate.__new__» ⟨[.type "enumerate", .ref l], enKw p t⟩) (fun _ R s => s.heap.get? l = some { cls := .type "list", dict := dct, data := .seq xs n, slots := sl } ∧
      R (.ok (.ret (.ref (s.heap.push { cls := .type "list_iterator", data := .fields #[.ref l, .int 0 0] }).objs.size)))
        { s with heap := (s.heap.push { cls := .type "list_iterator", data := .fields #[.ref l, .int 0 0] }).push { cls := .type "enumerate", data := .fields #[.none, .bool false, .ref s.heap.objs.size, rawInt p, .none, .none] } }) :=
  .of_wp fun prog w A R s h => by
    obtain ⟨hp0, g, d, tk, os⟩ := s
    obtain ⟨hl, h⟩ := h
    have sub := sub_enumerate
    have isl : Heap.IsList (Shared.heap ⟨hp0, g, d, tk, os⟩) l xs := ⟨_, hl, rfl, n, rfl⟩
    wp_walk using wpAny_loadPart' hl
    refine wpAny_stack_any fun st => wpAny_pure ?_
    split
    · rename_i c _ _ _ _ _
      cases (c == Value.type "enumerate") <;> (wp_walk using wpAny_loadPart' hl, wpAny_pyIter_list isl; exact ⟨_, rfl, h⟩)
    · wp_walk using wpAny_loadPart' hl, wpAny_pyIter_list isl
      exact ⟨_, rfl, h⟩
theorem en_made {T ni ii : String} {Bn Bi : Builtin} {as : List Value} {kw : List (Str × Value)} {S : PySem.Spec} {Q Q1 : Value → Shared → Prop} (ft : TypeCalled T ni ii) (c1 : checkTypeCall T ⟨as, kw⟩ = pure ())
    (c2 : checkBuiltinCall ni ⟨.type T :: as, kw⟩ = pure ()) (en : entryFor table ni = some Bn) (ei : entryFor table ii = some Bi) (g : Meets (Bn ⟨.type T :: as, kw⟩) S) (h : S A.in1 (wants Q1 E) s)
    (nx : ∀ o s1, Q1 o s1 → s1.TypeIs o T ∧ argsOk ii ⟨o :: as, kw⟩ ∧ ∃ Si, Meets (Bi ⟨o :: as, kw⟩) Si ∧ Si A.in1 (wants (fun r s2 => r = .none ∧ Q o s2) E) s1) : wpAny (model prog w) A (call (.type T) as kw) Q E s := by
  obtain ⟨c, tl, mr⟩ := ft.mro
  have made := ft.made; have sub := ft.sub; have nt := ft.notType; have cc := ft.canCreate
  refine wpAny_call (codeAny_of_tree ?_); show wpAny _ _ (callAny (.type T) _) _ _ _
  refine wpAny_pure ⟨Code.quiet_builtin _ (by decide +kernel), codeAny_builtin F.entry_type_call ?_⟩; rw [Around.under_plain (weight_type_call_type T as kw) (units_type_call_type T as kw)]
  repeat (any_goals (first | assumption | wp_step))
  refine codeAny_mono (codeAny_call_builtin ft.plain en (wpAny_of_eq c2 (g prog w A.in1 _ s h))) fun r s1 hr => ?_
  cases r with
  | error e => exact hr
  | ok fl =>
    cases fl with
    | ret o =>
      obtain ⟨hT, ok, Si, gi, hs⟩ := nx _ _ hr
      have li := ft.init.lookup; have bi := ft.init.bind o
      repeat (any_goals (first | assumption | wp_step))
      refine codeAny_mono (codeAny_call_builtin ft.init.plain ei (ft.init.check _ _ _ _ _ _ _ _ hT ok (gi prog w A.in1 _ s1 hs))) fun r2 s2 hr2 => ?_
      cases r2 with
      | error e => exact hr2
      | ok fl2 =>
        cases fl2 with
        | ret r =>
          obtain ⟨rfl, hq⟩ := hr2
          repeat (any_goals (first | assumption | wp_step))
        | _ => exact hr2.elim
    | _ => exact hr.elim
theorem en_obj {T ni : String} {o a : Value} {as : List Value} {kw : List (Str × Value)} (hl : typeLookup (.type T) "__init__" = pure (some (.builtin "object.__init__"))) (hm : Bind.madeBy (.type T) = pure (some ni)) (hne : (some ni != some "object.__new__") = true) :
    Meets (Builtin.«object.__init__» ⟨o :: a :: as, kw⟩) (fun _ R s => s.TypeIs o T ∧ R (.ok (.ret .none)) s) := by
  refine Meets.of_wp fun prog w A R s hs => ?_
  obtain ⟨hT, hq⟩ := hs
  repeat (any_goals (first | assumption | wp_step))
  exact ⟨_, rfl, hq⟩
theorem en_call {l : Addr} {xs : Array Value} {p : Int} {t : Tok} {Q : Value → Shared → Prop} (hL : s.heap.IsList l xs) (hp : (!Builtin.SmallTypes.fitsIndex p) = false)
    (h : ∀ h', IsEnum h' (s.heap.objs.size + 1) s.heap.objs.size p .none → h'.IsListIter s.heap.objs.size l 0 → h'.objs.size = s.heap.objs.size + 2 → (∀ b o, s.heap.get? b = some o → h'.get? b = some o) → Q (.ref (s.heap.objs.size + 1)) { s with heap := h' }) :
    wpAny (model prog w) A (call (.type "enumerate") [.ref l] (enKw p t)) Q E s := by
  obtain ⟨⟨c, dct, dt, sl⟩, hl, hc, n, hd⟩ := hL
  replace hc : c = .type "list" := hc
  replace hd : dt = .seq xs n := hd
  subst hc hd
  refine en_made (Q1 := fun o s1 => s1.TypeIs o "enumerate" ∧ Q o s1) F.called_enumerate (en_type _ _ _) (en_newc _ _ _) F.entry_enumerate_new F.entry_object_init (en_new l xs n dct sl p t hp) ⟨hl, ?_⟩ fun o s1 hq =>
    ⟨hq.1, en_init _ _ _ _, _, en_obj F.called_enumerate.init.lookup F.called_enumerate.made (by decide), hq.1, rfl, hq.2⟩
  have hz : (s.heap.push { cls := .type "list_iterator", data := .fields #[.ref l, .int 0 0] }).objs.size = s.heap.objs.size + 1 := Heap.size_push ..
  show _ ∧ _; rw [hz]
  have he := Heap.get?_push_size (s.heap.push { cls := .type "list_iterator", data := .fields #[.ref l, .int 0 0] }) (o := { cls := .type "enumerate", data := .fields #[.none, .bool false, .ref s.heap.objs.size, rawInt p, .none, .none] }) rfl
  rw [hz] at he
  exact ⟨⟨_, he, rfl⟩, h _ he ⟨_, Heap.get?_push_of_some _ (Heap.get?_push_size _ rfl), rfl, rfl⟩ (by rw [Heap.size_push, hz]) fun b o x => Heap.get?_push_of_some _ (Heap.get?_push_of_some _ x)⟩
theorem en_shift {it : Addr} {fp : List Addr} {n : Nat} {P : Nat → Value → Prop} {St : Nat → Heap → Prop} (p : Nat) (D : Draws prog w A it fp n P St) :
    Draws prog w A it fp (p + n) (fun j v => ∃ i, j = p + i ∧ P i v) (fun j h => ∃ i, j = p + i ∧ St i h) where
  live := fun j h ⟨i, _, st⟩ => D.live i h st
  frame := fun j h h' ⟨i, e, st⟩ k => ⟨i, e, D.frame i h h' st k⟩
  item := fun j s Q E hj ⟨i, e, st⟩ hQ => D.item i s Q E (by omega) st fun x h' tk hP st' hs => hQ x h' tk ⟨i, e, hP⟩ ⟨i + 1, by omega, st'⟩ hs
  done := fun s Q E ⟨i, e, st⟩ hE => by
    have ei : i = n := by omega
    subst ei
    exact D.done s Q E st hE
end
def Ite (K : PySem.W.Frag) (l : Addr) (p : Nat) : It :=
  ⟨fun i H => ∃ xs x, SqL K H l xs ∧ xs[i]? = some x, fun i H x H' => ∃ t v, H t = none ∧ x = .ref t ∧ (∀ xs, SqL K H l xs → xs[i]? = some v) ∧ H' = upd H t (.tup [.int ((p + i : Nat) : Int), v]), fun i H => ∃ xs, SqL K H l xs ∧ xs.length = i⟩
theorem turn_enum {P : Program} {w : World} {K : PySem.W.Frag} {es : List Expr} {k : Nat} {tp : Pos} (l e it : Addr) (p : Nat) (hei : e ≠ it) (hle : l ≠ e) (hli : l ≠ it) :
    Turn P w K (.Tuple es k tp) (Ite K l p) [e, it] e (fun i h => (∃ old, IsEnum h e it ((p + i : Nat) : Int) old) ∧ h.IsListIter it l i) where
  mem := by simp
  obj := fun i h st b hb => by
    obtain ⟨⟨old, he⟩, o, ho, hc, hd⟩ := st
    rcases List.mem_cons.mp hb with rfl | hb
    · exact ⟨_, he, fun v z => by cases z⟩
    · have eb : b = it := by simpa using hb
      subst eb
      exact ⟨o, ho, fun v z => by rw [hd] at z; cases z⟩
  keep := fun i h h' st kk => by
    obtain ⟨⟨old, he⟩, hit⟩ := st
    exact ⟨⟨old, kk e (by simp) _ he⟩, hit.at fun o z => kk it (by simp) o z⟩
  item := by
    intro X hP hw hK hc i pins s σ H E I hf st hg
    subst hP hw hK
    obtain ⟨xs, x, hq, hx⟩ := hg
    obtain ⟨its, rv, pl, hz⟩ := I.list hq
    obtain ⟨u, hu, ru⟩ := rv.get hx
    obtain ⟨⟨old, he⟩, hit⟩ := st
    have hlen := rv.length
    have hi : i < its.toArray.size := by
      have := (List.getElem?_eq_some_iff.mp hu).1
      simpa using this
    refine wpAny_pyNext_enum_itemD (en_shift p (Draws.list (prog := X.prog) (w := X.w) (A := X.A.in1) (I.ok.hd hc) it l hli its.toArray)) he ⟨i, rfl, hit, pl.isList⟩ (by omega) hei
      (by simp only [List.mem_cons, List.not_mem_nil, or_false]; rintro (z | z); exact hei z; exact hle z.symm) fun y h' tk hy ho hst hT hsz hk => ?_
    obtain ⟨i', ei, hy⟩ := hy
    have ei' : i' = i := by omega
    subst ei'
    have eu : y = u := by
      have h1 : its.toArray[i']? = some y := hy
      rw [List.getElem?_toArray, hu] at h1
      exact (Option.some.inj h1).symm
    subst eu
    refine ⟨_, rfl, wpAny_letOwnedTupleGo_enum (s := { s with heap := h', toks := tk + 1 }) ho fun h2 he2 hs2 => ?_⟩
    have hel : e < s.heap.objs.size := Heap.lt_size he
    have hn : H s.heap.objs.size = none := I.fresh
    have kp : ∀ b o, b ≠ e → b ≠ it → s.heap.get? b = some o → h2.get? b = some o := fun b o h1 h3 z => (hs2.2 b h1).trans (hk b o h1 h3 z)
    have hT2 : h2.get? s.heap.objs.size = some { cls := .type "tuple", data := .seq #[.int ((p + i' : Nat) : Int) tk, y] } := (hs2.2 _ (Nat.ne_of_gt hel)).trans hT
    have fe := hf e (by simp)
    have fi := hf it (by simp)
    have ne : ∀ b o, H b = some o → b ≠ e ∧ b ≠ it := fun b o z => ⟨fun z2 => (by subst z2; rw [fe.1] at z; cases z), fun z2 => (by subst z2; rw [fi.1] at z; cases z)⟩
    have lt : ∀ b o, H b = some o → b ≠ s.heap.objs.size := fun b o z => Nat.ne_of_lt (I.hok.lt z)
    have hok : HOk X.prog X.w (upd H s.heap.objs.size (.tup [.int ((p + i' : Nat) : Int), x])) h2 := fun b o z => by
      by_cases hb : b = s.heap.objs.size
      · subst hb
        rw [upd_same] at z
        cases z
        exact ⟨by show 2 ≤ _; decide, [.int ((p + i' : Nat) : Int) tk, y], .cons ⟨tk, rfl⟩ (.cons ru .nil), ⟨_, hT2, rfl, _, rfl⟩⟩
      · rw [upd_ne hb] at z
        refine (I.hok b o z).stay (fun c v hc q => ?_) (fun c q => by rw [upd_ne (lt c _ q)]; exact q) fun c ys q => by rw [upd_ne (lt c _ q)]; exact q
        rcases hc with rfl | hc
        · exact kp _ v (ne _ o z).1 (ne _ o z).2 q
        · exact kp c v (ne c _ hc).1 (ne c _ hc).2 q
    have old2 : ∀ b o, s.heap.get? b = some o → b ≠ s.heap.objs.size := fun b o z => Nat.ne_of_lt (Heap.lt_size z)
    have U : Un (frs X.stack) [e, it] H (upd H s.heap.objs.size (.tup [.int ((p + i' : Nat) : Int), x])) s.heap h2 := by
      have nch : ∀ b, b ∉ [e, it] → b ≠ e ∧ b ≠ it := fun b hb => ⟨fun z => hb (by simp [z]), fun z => hb (by simp [z])⟩
      refine ⟨fun b o z _ _ hb => kp b o (nch b hb).1 (nch b hb).2 z, fun b o z _ _ hb => ⟨o.slots, kp b o (nch b hb).1 (nch b hb).2 z⟩, fun b o z n hb => by rw [upd_ne (old2 b o z)]; exact n, fun b o z hb => ?_, fun b ys z => by rw [upd_ne (lt b _ z)]; exact z, fun b o u z => by rw [upd_ne (lt b _ z)]; exact z, fun b ps z => ⟨#[], by rw [upd_ne (lt b _ z), z]; simp⟩⟩
      exact ⟨o, kp b o (nch b hb).1 (nch b hb).2 z⟩
    have I2 : Inv X pins σ (upd H s.heap.objs.size (.tup [.int ((p + i' : Nat) : Int), x])) { s with heap := h2, toks := tk + 1 } := I.call (g' := s.gens) (t' := tk + 1) (d' := s.drawn) (ch := [e, it]) U hok I.bare fun b hb => by
      have f := hf b hb
      exact ⟨f.2.2.2.1, f.2.1, f.2.2.2.2.1, f.2.2.2.2.2⟩
    obtain ⟨i2, ei2, hit2, _⟩ := hst
    have ei3 : i2 = i' + 1 := by omega
    subst ei3
    refine ⟨.ref s.heap.objs.size, _, I2, rfl, ⟨s.heap.objs.size, x, hn, rfl, fun ys hy => by rw [I.list_inj hy hq]; exact hx, rfl⟩, ⟨⟨y, ?_⟩, hit2.at fun o z => (hs2.2 it hei.symm).trans z⟩, fun b hb => ?_⟩
    · have ec : (((p + i' : Nat) : Int) + 1) = ((p + (i' + 1) : Nat) : Int) := by omega
      rw [← ec]
      exact he2
    · have f := (hf b hb).1
      obtain ⟨ob, zb, _⟩ : ∃ o, s.heap.get? b = some o ∧ True := by
        rcases List.mem_cons.mp hb with rfl | hb
        · exact ⟨_, he, trivial⟩
        · have eb : b = it := by simpa using hb
          subst eb
          obtain ⟨o, ho2, _⟩ := hit
          exact ⟨o, ho2, trivial⟩
      rw [upd_ne (old2 b ob zb)]
      exact f
  done := by
    intro X hP hw hK hc i pins s σ H E I hf st hg
    subst hP hw hK
    obtain ⟨xs, hq, hx⟩ := hg
    obtain ⟨its, rv, pl, hz⟩ := I.list hq
    obtain ⟨⟨old, he⟩, hit⟩ := st
    have hlen := rv.length
    have fi := hf it (by simp)
    have ei : i = its.toArray.size := by simp; omega
    subst ei
    exact wpAny_pyNext_enum_endD (en_shift p (Draws.list (prog := X.prog) (w := X.w) (A := X.A.in1) (I.ok.hd hc) it l hli its.toArray)) he ⟨its.toArray.size, rfl, hit, pl.isList⟩
      fun h' eb => ⟨rfl, I.turned (t' := s.toks) (fun b o hb z => eb b o hb z) fi.1 fi.2.1 fi.2.2.2.1 fi.2.2.2.2.1 fi.2.2.2.2.2⟩
  self := fun _ _ _ _ _ st h => by
    obtain ⟨⟨old, he⟩, _⟩ := st
    exact wpAny_pyIter_enum he h
theorem bt_enumerate : bootBuiltins "enumerate" = some (.type "enumerate") := by decide +kernel
section
variable {M : Model} {A : Around} {E : Value → Shared → Prop} {s : Shared} {env : Env}
theorem en_with {pos : Pos} {T : String} {e : Expr} {kws : List Keyword} {Q : Value → Shared → Prop}
    (h : wpAny M A (spliced (backTo pos (starEach [e] env))) (fun vs s1 => wpAny M A (evalAll ((backToKw pos (keywordEach kws env)).map (·.2)))
      (fun kvs s2 => wpAny M A (call (.type T) vs (((backToKw pos (keywordEach kws env)).filterMap (·.1)).zip kvs)) Q E s2) E s1) E s)
    (he : starEach [e] env = [(false, eval e env)]) (hall : (backToKw pos (keywordEach kws env)).all (·.1.isSome) = true := by rfl)
    (hkw : (backToKw pos (keywordEach kws env)).any (·.1.isNone) = false := by rfl) :
    wpAny M A (callWith pos (.type T) [] (backTo pos (starEach [e] env)) (backToKw pos (keywordEach kws env))) Q E s := by
  rw [he] at h ⊢
  have hp : (backTo pos [(false, eval e env)]).any (·.1) = false := rfl
  unfold callWith
  have h2 : wpAny M A (evalArgs (.type T) true (backTo pos [(false, eval e env)]) (backToKw pos (keywordEach kws env))) (fun a s1 => wpAny M A (call (.type T) ([] ++ a.pos) a.kw) Q E s1) E s := evalArgs_kwB hall h
  refine wpAny_bind (wpAny_holding (thn h2 fun a s3 h3 => wpAny_bind (wpAny_standAt ?_)))
  simp only [hp, hkw, Bool.or_false]
  refine wpAny_bind (wpAny_pure ?_)
  exact wpAny_bind (thn h3 fun r s4 hr => wpAny_bind (wpAny_holding (wpAny_point (wpAny_pure hr))))
end
section
variable {X : Cx}
def iEnum (K : PySem.W.Frag) (tl tp : TE) : TI := fun σ H R => tl σ H fun x H1 => tp σ H1 fun y H2 => ∃ (a : Addr) (p : Nat), x = .ref a ∧ y = .int p ∧ (∃ xs, SqL K H2 a xs) ∧ p < 2 ^ 62 ∧ R (Ite K a p) H2
theorem fits_en {p : Nat} (h : p < 2 ^ 62) : (!Builtin.SmallTypes.fitsIndex (p : Int)) = false := by
  have h1 : (p : Int) < 2 ^ 62 := by exact_mod_cast h
  unfold Builtin.SmallTypes.fitsIndex
  simp
  omega
theorem pi_enum {l st : Expr} {tl tp : TE} {es : List Expr} {k : Nat} {tpos p kp pos : Pos} (hg : Gl X "enumerate") (hm : X.mg "enumerate" = none) (hl : PE X l tl) (hst : PE X st tp)
    (he : starEach [l] X.env = [(false, eval l X.env)] := by rfl) : PI X (.Tuple es k tpos) (.Call (.Name "enumerate" p) [l] [⟨some "start", st, kp⟩] pos) (iEnum X.K tl tp) := by
  intro pins s σ H R I h
  refine wpAny_Call_Name_kw (ld_blt I hg hm bt_enumerate (en_with ?_ he))
  have hA : PA X [l] (tCons tl tNil) := pa_cons hl pa_nil he
  refine thn (hA pos pins s σ H (fun vs H1 => match vs with
    | [x] => tp σ H1 fun y H2 => ∃ (a : Addr) (p : Nat), x = .ref a ∧ y = .int p ∧ (∃ xs, SqL X.K H2 a xs) ∧ p < 2 ^ 62 ∧ R (Ite X.K a p) H2
    | _ => False) I h) fun us s1 ⟨vs, H1, I1, r1, q1⟩ => ?_
  match vs, r1, q1 with
  | [x], .cons (b := u) ra .nil, q1 =>
    refine kws_cons (thn (hst pins s1 σ H1 _ I1 q1) fun v s2 ⟨y, H2, I2, r2, q2⟩ => kws_nil ?_)
    obtain ⟨a, p, e1, e2, ⟨xs, hq⟩, hp, qq⟩ := q2
    subst e1 e2
    cases ra
    obtain ⟨t, rfl⟩ := r2
    obtain ⟨its, rv, pl, hz⟩ := I2.list hq
    have hlt : a < s2.heap.objs.size := by
      obtain ⟨o, e, _⟩ := pl.isList
      exact Heap.lt_size e
    refine en_call pl.isList (fits_en hp) fun h' hen hit hsz hk => wpAny_pyIter_enum hen ?_
    refine ⟨s2.heap.objs.size + 1, [s2.heap.objs.size + 1, s2.heap.objs.size], _, _, H2, rfl, I2.kept (t' := s2.toks) hk, turn_enum a _ _ p (Nat.succ_ne_self _) (Nat.ne_of_lt (Nat.lt_succ_of_lt hlt)) (Nat.ne_of_lt hlt), ⟨⟨.none, hen⟩, hit⟩, fun b hb => ?_, qq⟩
    rcases List.mem_cons.mp hb with rfl | hb
    · exact I2.fpOk (Nat.le_succ _) (I2.hok.fresh (Nat.le_succ _))
    · have eb : b = s2.heap.objs.size := by simpa using hb
      subst eb
      exact I2.fpOk (Nat.le_refl _) (I2.hok.fresh (Nat.le_refl _))
theorem for_enum {K : PySem.W.Frag} {a : Addr} {p : Nat} {xs : List V} {g : TG} {tb : TS} {D : Ends} {σ : St} {H : Hp} (Pv : Nat → St → Hp → Prop) (h0 : Pv 0 σ H) (hl : ∀ i σ H, i ≤ xs.length → Pv i σ H → SqL K H a xs)
    (hs : ∀ i x t σ H, xs[i]? = some x → Pv i σ H → H t = none → g (.ref t) σ (upd H t (.tup [.int ((p + i : Nat) : Int), x])) fun σ2 H2 => tb { D with nx := Pv (i + 1), ct := Pv (i + 1), bk := D.nx } σ2 H2) (hd : ∀ σ H, Pv xs.length σ H → D.nx σ H) :
    ∃ W : Nat → Nat → St → Hp → Prop, (∃ m, W 0 m σ H) ∧ ∀ i m σ H, W i m σ H →
      ((Ite K a p).stop i H ∧ D.nx σ H) ∨ ((Ite K a p).go i H ∧ ∃ N : St → Hp → Prop, (∀ σ' H', N σ' H' → ∃ m', m' < m ∧ W (i + 1) m' σ' H') ∧ ∀ x H', (Ite K a p).yld i H x H' → g x σ H' fun σ2 H2 => tb { D with nx := N, ct := N, bk := D.nx } σ2 H2) := by
  refine ⟨fun i m σ H => m + i = xs.length ∧ Pv i σ H, ⟨xs.length, rfl, h0⟩, ?_⟩
  rintro i m σ H ⟨hm, pv⟩
  have q := hl i σ H (by omega) pv
  cases m with
  | zero =>
    have ei : i = xs.length := by omega
    subst ei
    exact .inl ⟨⟨xs, q, rfl⟩, hd σ H pv⟩
  | succ m =>
    have hlt : i < xs.length := by omega
    refine .inr ⟨⟨xs, xs[i], q, by simp [hlt]⟩, Pv (i + 1), fun σ' H' p' => ⟨m, by omega, by omega, p'⟩, fun x H' y => ?_⟩
    obtain ⟨t, v, hn, rfl, hv, rfl⟩ := y
    exact hs i v t σ H (hv xs q) pv hn
end
end L2
namespace L2
open PySem PySem.Spec PyProof.Rows
inductive D where
  | non | bl (b : Bool) | int (i : Int) | str (x : Str) | lst (ds : List D) | tup (ds : List D)
mutual
def deq : D → D → Bool
  | .non, .non => true
  | .bl a, .bl b => a == b
  | .bl a, .int b => (if a then 1 else 0) == b
  | .int a, .bl b => a == (if b then 1 else 0)
  | .int a, .int b => a == b
  | .str a, .str b => a == b
  | .lst a, .lst b => deqs a b
  | .tup a, .tup b => deqs a b
  | _, _ => false
def deqs : List D → List D → Bool
  | [], [] => true
  | a :: x, b :: y => deq a b && deqs x y
  | _, _ => false
end
mutual
def D.dep : D → Nat
  | .lst a => deps a + 1
  | .tup a => deps a + 1
  | _ => 0
def deps : List D → Nat
  | [] => 0
  | a :: x => max a.dep (deps x)
end
mutual
theorem deq_refl : ∀ d : D, deq d d = true
  | .non => by simp [deq]
  | .bl b => by simp [deq]
  | .int i => by simp [deq]
  | .str x => by simp [deq]
  | .lst ds => by rw [deq]; exact deqs_refl ds
  | .tup ds => by rw [deq]; exact deqs_refl ds
theorem deqs_refl : ∀ ds : List D, deqs ds ds = true
  | [] => by simp [deqs]
  | d :: ds => by rw [deqs, deq_refl d, deqs_refl ds]; rfl
end
theorem deps_le : ∀ {ds : List D} {i : Nat} {d : D}, ds[i]? = some d → d.dep ≤ deps ds
  | [], _, _, h => by simp at h
  | e :: ds, 0, d, h => by
    simp at h
    subst h
    rw [deps]
    exact Nat.le_max_left _ _
  | e :: ds, i + 1, d, h => by
    rw [deps]
    exact Nat.le_trans (deps_le (i := i) (by simpa using h)) (Nat.le_max_right _ _)
theorem deqs_len : ∀ {ds es : List D}, ds.length ≠ es.length → deqs ds es = false
  | [], [], h => absurd rfl h
  | [], _ :: _, _ => by simp [deqs]
  | _ :: _, [], _ => by simp [deqs]
  | d :: ds, e :: es, h => by rw [deqs, deqs_len (by simpa using h), Bool.and_false]
theorem deqs_all : ∀ {ds es : List D}, ds.length = es.length → deqs ds es = (List.range ds.length).all fun j => deq (ds.getD j .non) (es.getD j .non)
  | [], [], _ => by simp [deqs]
  | [], _ :: _, h => by simp at h
  | _ :: _, [], h => by simp at h
  | d :: ds, e :: es, h => by
    rw [deqs, deqs_all (by simpa using h), List.length_cons, List.range_succ_eq_map, List.all_cons, List.all_map]
    rfl
inductive IsD (K : PySem.W.Frag) (H : Hp) : V → D → Prop where
  | non : IsD K H .non .non
  | bl (b : Bool) : IsD K H (.bl b) (.bl b)
  | int (i : Int) : IsD K H (.int i) (.int i)
  | str (x : Str) : IsD K H (.str x) (.str x)
  | lst {a : Addr} {xs : List V} {ds : List D} (h : SqL K H a xs) (hl : xs.length = ds.length) (hi : ∀ (i : Nat) (x : V) (d : D), xs[i]? = some x → ds[i]? = some d → IsD K H x d) : IsD K H (.ref a) (.lst ds)
  | tup {a : Addr} {xs : List V} {ds : List D} (h : SqT K H a xs) (hl : xs.length = ds.length) (hi : ∀ (i : Nat) (x : V) (d : D), xs[i]? = some x → ds[i]? = some d → IsD K H x d) : IsD K H (.ref a) (.tup ds)
section
variable {X : Cx} {pins : List (Addr × Obj)} {s : Shared} {σ : St} {H : Hp}
theorem Inv.not_both (I : Inv X pins σ H s) {a : Addr} {xs ys : List V} (h : SqL X.K H a xs) (h' : SqT X.K H a ys) : False := by
  obtain ⟨its, _, p, _⟩ := I.list h
  obtain ⟨its2, _, q, _⟩ := I.tuple h'
  obtain ⟨o, e, c, _⟩ := p.isList
  obtain ⟨o2, e2, c2, _⟩ := q
  rw [e] at e2
  cases e2
  rw [c] at c2
  injection c2 with h3
  exact absurd h3 (by decide)
theorem ext_D {xs : List V} {ds es : List D} (hl : xs.length = ds.length) (hl2 : xs.length = es.length) (h : ∀ (i : Nat) x d e, xs[i]? = some x → ds[i]? = some d → es[i]? = some e → d = e) : ds = es := by
  refine List.ext_getElem (by omega) fun i h1 h2 => ?_
  exact h i _ _ _ (List.getElem?_eq_getElem (by omega)) (List.getElem?_eq_getElem h1) (List.getElem?_eq_getElem h2)
theorem IsD.one (I : Inv X pins σ H s) {x : V} {d : D} (h : IsD X.K H x d) : ∀ {e : D}, IsD X.K H x e → d = e := by
  induction h with
  | non => intro e h; cases h; rfl
  | bl b => intro e h; cases h; rfl
  | int b => intro e h; cases h; rfl
  | str b => intro e h; cases h; rfl
  | lst q hl hi ih =>
    intro e h
    cases h with
    | lst q2 hl2 hi2 =>
      cases I.list_inj q q2
      rw [ext_D hl hl2 fun i x d e h1 h2 h3 => ih i x d h1 h2 (hi2 i x e h1 h3)]
    | tup q2 hl2 hi2 => exact (I.not_both q q2).elim
  | tup q hl hi ih =>
    intro e h
    cases h with
    | tup q2 hl2 hi2 =>
      cases I.tuple_inj q q2
      rw [ext_D hl hl2 fun i x d e h1 h2 h3 => ih i x d h1 h2 (hi2 i x e h1 h3)]
    | lst q2 hl2 hi2 => exact (I.not_both q2 q).elim
theorem getD_of {ds : List D} {i : Nat} (h : i < ds.length) : ds[i]? = some (ds.getD i .non) := by simp [List.getD, h]
theorem items_D {xs ys : List V} {ds es : List D} {its its2 : List Value} {A : Around} (r1 : Vals xs its) (r2 : Vals ys its2) (hl : xs.length = ds.length) (hl2 : ys.length = es.length)
    (ih : ∀ (i : Nat) x d, xs[i]? = some x → ds[i]? = some d → ∀ {y : V} {e : D} {u v : Value}, IsD X.K H y e → RelV x u → RelV y v → SeqAt.EqAt A s u v (deq d e)) (hi2 : ∀ (i : Nat) y e, ys[i]? = some y → es[i]? = some e → IsD X.K H y e) :
    ∀ j (h1 : j < its.toArray.size) (h2 : j < its2.toArray.size), SeqAt.EqAt A s its.toArray[j] its2.toArray[j] (deq (ds.getD j .non) (es.getD j .non)) := by
  intro j h1 h2
  have l1 := r1.length
  have l2 := r2.length
  have j1 : j < xs.length := by simp at h1; omega
  have j2 : j < ys.length := by simp at h2; omega
  obtain ⟨u1, e1, q1⟩ := r1.get (List.getElem?_eq_getElem j1)
  obtain ⟨u2, e2, q2⟩ := r2.get (List.getElem?_eq_getElem j2)
  have i1 : its.toArray[j] = u1 := by
    obtain ⟨_, e⟩ := List.getElem?_eq_some_iff.mp e1
    simpa using e
  have i2 : its2.toArray[j] = u2 := by
    obtain ⟨_, e⟩ := List.getElem?_eq_some_iff.mp e2
    simpa using e
  rw [i1, i2]
  exact ih j _ _ (List.getElem?_eq_getElem j1) (getD_of (by omega)) (hi2 j _ _ (List.getElem?_eq_getElem j2) (getD_of (by omega))) q1 q2
theorem tup_D {ds es : List D} : (((List.range (min ds.length es.length)).all fun j => deq (ds.getD j .non) (es.getD j .non)) && (ds.length == es.length)) = deqs ds es := by
  by_cases h : ds.length = es.length
  · rw [deqs_all h, h]
    simp
  · rw [deqs_len h]
    have : (ds.length == es.length) = false := by simpa using h
    rw [this, Bool.and_false]
theorem eqAt_D (I : Inv X pins σ H s) {x : V} {d : D} (h : IsD X.K H x d) : ∀ {A : Around}, A.units + d.dep < cLine → ∀ {y : V} {e : D} {u v : Value}, IsD X.K H y e → RelV x u → RelV y v → SeqAt.EqAt A s u v (deq d e) := by
  induction h with
  | non =>
    intro A hu y e u v h2 r1 r2
    cases r1
    have hu0 : A.units < cLine := Nat.lt_of_le_of_lt (Nat.le_add_right _ _) hu
    cases h2 with
    | non =>
      cases r2
      first | exact SeqAt.EqAt.same _ | (rw [deq] <;> first | exact SeqAt.EqAt.same _ | nofun)
    | bl b2 =>
      cases r2
      first | exact SeqAt.EqAt.none_bool b2 | (rw [deq] <;> first | exact SeqAt.EqAt.none_bool b2 | nofun)
    | int b2 =>
      obtain ⟨t2, rfl⟩ := r2
      first | exact SeqAt.EqAt.none_int b2 t2 | (rw [deq] <;> first | exact SeqAt.EqAt.none_int b2 t2 | nofun)
    | str b2 =>
      obtain ⟨t2, rfl⟩ := r2
      first | exact SeqAt.EqAt.none_str b2 t2 | (rw [deq] <;> first | exact SeqAt.EqAt.none_str b2 t2 | nofun)
    | @lst a2 xs2 ds2 q2 l2 i2 =>
      cases r2
      obtain ⟨its2, v2, p2, z2⟩ := I.list q2
      first | exact SeqAt.EqAt.none_list p2.isList hu0 | (rw [deq] <;> first | exact SeqAt.EqAt.none_list p2.isList hu0 | nofun)
    | @tup a2 xs2 ds2 q2 l2 i2 =>
      cases r2
      obtain ⟨its2, v2, p2, z2⟩ := I.tuple q2
      first | exact SeqAt.EqAt.none_tuple p2 hu0 | (rw [deq] <;> first | exact SeqAt.EqAt.none_tuple p2 hu0 | nofun)
  | bl b1 =>
    intro A hu y e u v h2 r1 r2
    cases r1
    have hu0 : A.units < cLine := Nat.lt_of_le_of_lt (Nat.le_add_right _ _) hu
    cases h2 with
    | non =>
      cases r2
      first | exact SeqAt.EqAt.bool_none b1 | (rw [deq] <;> first | exact SeqAt.EqAt.bool_none b1 | nofun)
    | bl b2 =>
      cases r2
      first | exact SeqAt.EqAt.bool_bool b1 b2 | (rw [deq] <;> first | exact SeqAt.EqAt.bool_bool b1 b2 | nofun)
    | int b2 =>
      obtain ⟨t2, rfl⟩ := r2
      first | exact SeqAt.EqAt.bool_int b1 b2 t2 | (rw [deq] <;> first | exact SeqAt.EqAt.bool_int b1 b2 t2 | nofun)
    | str b2 =>
      obtain ⟨t2, rfl⟩ := r2
      first | exact SeqAt.EqAt.bool_str b1 b2 t2 | (rw [deq] <;> first | exact SeqAt.EqAt.bool_str b1 b2 t2 | nofun)
    | @lst a2 xs2 ds2 q2 l2 i2 =>
      cases r2
      obtain ⟨its2, v2, p2, z2⟩ := I.list q2
      first | exact SeqAt.EqAt.bool_list b1 p2.isList hu0 | (rw [deq] <;> first | exact SeqAt.EqAt.bool_list b1 p2.isList hu0 | nofun)
    | @tup a2 xs2 ds2 q2 l2 i2 =>
      cases r2
      obtain ⟨its2, v2, p2, z2⟩ := I.tuple q2
      first | exact SeqAt.EqAt.bool_tuple b1 p2 hu0 | (rw [deq] <;> first | exact SeqAt.EqAt.bool_tuple b1 p2 hu0 | nofun)
  | int b1 =>
    intro A hu y e u v h2 r1 r2
    obtain ⟨t1, rfl⟩ := r1
    have hu0 : A.units < cLine := Nat.lt_of_le_of_lt (Nat.le_add_right _ _) hu
    cases h2 with
    | non =>
      cases r2
      first | exact SeqAt.EqAt.int_none b1 t1 | (rw [deq] <;> first | exact SeqAt.EqAt.int_none b1 t1 | nofun)
    | bl b2 =>
      cases r2
      first | exact SeqAt.EqAt.int_bool b1 t1 b2 | (rw [deq] <;> first | exact SeqAt.EqAt.int_bool b1 t1 b2 | nofun)
    | int b2 =>
      obtain ⟨t2, rfl⟩ := r2
      first | exact SeqAt.EqAt.int_int b1 t1 b2 t2 | (rw [deq] <;> first | exact SeqAt.EqAt.int_int b1 t1 b2 t2 | nofun)
    | str b2 =>
      obtain ⟨t2, rfl⟩ := r2
      first | exact SeqAt.EqAt.int_str b1 t1 b2 t2 | (rw [deq] <;> first | exact SeqAt.EqAt.int_str b1 t1 b2 t2 | nofun)
    | @lst a2 xs2 ds2 q2 l2 i2 =>
      cases r2
      obtain ⟨its2, v2, p2, z2⟩ := I.list q2
      first | exact SeqAt.EqAt.int_list b1 t1 p2.isList hu0 | (rw [deq] <;> first | exact SeqAt.EqAt.int_list b1 t1 p2.isList hu0 | nofun)
    | @tup a2 xs2 ds2 q2 l2 i2 =>
      cases r2
      obtain ⟨its2, v2, p2, z2⟩ := I.tuple q2
      first | exact SeqAt.EqAt.int_tuple b1 t1 p2 hu0 | (rw [deq] <;> first | exact SeqAt.EqAt.int_tuple b1 t1 p2 hu0 | nofun)
  | str b1 =>
    intro A hu y e u v h2 r1 r2
    obtain ⟨t1, rfl⟩ := r1
    have hu0 : A.units < cLine := Nat.lt_of_le_of_lt (Nat.le_add_right _ _) hu
    cases h2 with
    | non =>
      cases r2
      first | exact SeqAt.EqAt.str_none b1 t1 | (rw [deq] <;> first | exact SeqAt.EqAt.str_none b1 t1 | nofun)
    | bl b2 =>
      cases r2
      first | exact SeqAt.EqAt.str_bool b1 t1 b2 | (rw [deq] <;> first | exact SeqAt.EqAt.str_bool b1 t1 b2 | nofun)
    | int b2 =>
      obtain ⟨t2, rfl⟩ := r2
      first | exact SeqAt.EqAt.str_int b1 t1 b2 t2 | (rw [deq] <;> first | exact SeqAt.EqAt.str_int b1 t1 b2 t2 | nofun)
    | str b2 =>
      obtain ⟨t2, rfl⟩ := r2
      first | exact SeqAt.EqAt.str_str b1 t1 b2 t2 | (rw [deq] <;> first | exact SeqAt.EqAt.str_str b1 t1 b2 t2 | nofun)
    | @lst a2 xs2 ds2 q2 l2 i2 =>
      cases r2
      obtain ⟨its2, v2, p2, z2⟩ := I.list q2
      first | exact SeqAt.EqAt.str_list b1 t1 p2.isList hu0 | (rw [deq] <;> first | exact SeqAt.EqAt.str_list b1 t1 p2.isList hu0 | nofun)
    | @tup a2 xs2 ds2 q2 l2 i2 =>
      cases r2
      obtain ⟨its2, v2, p2, z2⟩ := I.tuple q2
      first | exact SeqAt.EqAt.str_tuple b1 t1 p2 hu0 | (rw [deq] <;> first | exact SeqAt.EqAt.str_tuple b1 t1 p2 hu0 | nofun)
  | @lst a1 xs1 ds1 q1 l1 i1 ih =>
    intro A hu y e u v h2 r1 r2
    cases r1
    have hu0 : A.units < cLine := Nat.lt_of_le_of_lt (Nat.le_add_right _ _) hu
    obtain ⟨its1, v1, p1, z1⟩ := I.list q1
    have n1 : its1.toArray.size = ds1.length := by rw [List.size_toArray, ← v1.length, l1]
    have hu1 : ∀ (i : Nat) (d : D), ds1[i]? = some d → A.in1.units + d.dep < cLine := fun i d h => by
      have e1 := deps_le h
      have e2 : A.units + (deps ds1 + 1) < cLine := by simpa only [D.dep] using hu
      show A.units + 1 + d.dep < cLine
      omega
    cases h2 with
    | non =>
      cases r2
      first | exact SeqAt.EqAt.list_none p1.isList hu0 | (rw [deq] <;> first | exact SeqAt.EqAt.list_none p1.isList hu0 | nofun)
    | bl b2 =>
      cases r2
      first | exact SeqAt.EqAt.list_bool b2 p1.isList hu0 | (rw [deq] <;> first | exact SeqAt.EqAt.list_bool b2 p1.isList hu0 | nofun)
    | int b2 =>
      obtain ⟨t2, rfl⟩ := r2
      first | exact SeqAt.EqAt.list_int b2 t2 p1.isList hu0 | (rw [deq] <;> first | exact SeqAt.EqAt.list_int b2 t2 p1.isList hu0 | nofun)
    | str b2 =>
      obtain ⟨t2, rfl⟩ := r2
      first | exact SeqAt.EqAt.list_str b2 t2 p1.isList hu0 | (rw [deq] <;> first | exact SeqAt.EqAt.list_str b2 t2 p1.isList hu0 | nofun)
    | @lst a2 xs2 ds2 q2 l2 i2 =>
      cases r2
      obtain ⟨its2, v2, p2, z2⟩ := I.list q2
      have n2 : its2.toArray.size = ds2.length := by rw [List.size_toArray, ← v2.length, l2]
      have it := items_D (X := X) (A := A.in1) v1 v2 l1 l2 (fun i x d ha hb => ih i x d ha hb (hu1 i d hb)) i2
      by_cases hne : a1 = a2
      · subst hne
        cases (IsD.lst q1 l1 i1).one I (IsD.lst q2 l2 i2)
        rw [deq_refl]
        exact SeqAt.EqAt.same _
      refine SeqAt.EqAt.of_refs hne ?_
      rw [deq]
      by_cases hlen : its1.toArray.size = its2.toArray.size
      · rw [deqs_all (by omega), ← n1]
        exact SeqAt.RcAt.lists p1.isList p2.isList hlen hu0 it
      · rw [deqs_len (by omega)]
        exact SeqAt.RcAt.lists_lengths p1.isList p2.isList (by simpa using hlen) hu0
    | @tup a2 xs2 ds2 q2 l2 i2 =>
      cases r2
      obtain ⟨its2, v2, p2, z2⟩ := I.tuple q2
      first | exact SeqAt.EqAt.list_tuple p1.isList p2 hu0 | (rw [deq] <;> first | exact SeqAt.EqAt.list_tuple p1.isList p2 hu0 | nofun)
  | @tup a1 xs1 ds1 q1 l1 i1 ih =>
    intro A hu y e u v h2 r1 r2
    cases r1
    have hu0 : A.units < cLine := Nat.lt_of_le_of_lt (Nat.le_add_right _ _) hu
    obtain ⟨its1, v1, p1, z1⟩ := I.tuple q1
    have n1 : its1.toArray.size = ds1.length := by rw [List.size_toArray, ← v1.length, l1]
    have hu1 : ∀ (i : Nat) (d : D), ds1[i]? = some d → A.in1.units + d.dep < cLine := fun i d h => by
      have e1 := deps_le h
      have e2 : A.units + (deps ds1 + 1) < cLine := by simpa only [D.dep] using hu
      show A.units + 1 + d.dep < cLine
      omega
    cases h2 with
    | non =>
      cases r2
      first | exact SeqAt.EqAt.tuple_none p1 hu0 | (rw [deq] <;> first | exact SeqAt.EqAt.tuple_none p1 hu0 | nofun)
    | bl b2 =>
      cases r2
      first | exact SeqAt.EqAt.tuple_bool b2 p1 hu0 | (rw [deq] <;> first | exact SeqAt.EqAt.tuple_bool b2 p1 hu0 | nofun)
    | int b2 =>
      obtain ⟨t2, rfl⟩ := r2
      first | exact SeqAt.EqAt.tuple_int b2 t2 p1 hu0 | (rw [deq] <;> first | exact SeqAt.EqAt.tuple_int b2 t2 p1 hu0 | nofun)
    | str b2 =>
      obtain ⟨t2, rfl⟩ := r2
      first | exact SeqAt.EqAt.tuple_str b2 t2 p1 hu0 | (rw [deq] <;> first | exact SeqAt.EqAt.tuple_str b2 t2 p1 hu0 | nofun)
    | @lst a2 xs2 ds2 q2 l2 i2 =>
      cases r2
      obtain ⟨its2, v2, p2, z2⟩ := I.list q2
      first | exact SeqAt.EqAt.tuple_list p1 p2.isList hu0 | (rw [deq] <;> first | exact SeqAt.EqAt.tuple_list p1 p2.isList hu0 | nofun)
    | @tup a2 xs2 ds2 q2 l2 i2 =>
      cases r2
      obtain ⟨its2, v2, p2, z2⟩ := I.tuple q2
      have n2 : its2.toArray.size = ds2.length := by rw [List.size_toArray, ← v2.length, l2]
      have it := items_D (X := X) (A := A.in1) v1 v2 l1 l2 (fun i x d ha hb => ih i x d ha hb (hu1 i d hb)) i2
      by_cases hne : a1 = a2
      · subst hne
        cases (IsD.tup q1 l1 i1).one I (IsD.tup q2 l2 i2)
        rw [deq_refl]
        exact SeqAt.EqAt.same _
      refine SeqAt.EqAt.of_refs hne ?_
      rw [deq]
      rw [← tup_D, ← n1, ← n2]
      exact SeqAt.RcAt.tuples p1 p2 hu0 it
theorem rcAt_D (I : Inv X pins σ H s) {A : Around} {x y : V} {d e : D} {u v : Value} (h : IsD X.K H x d) (h2 : IsD X.K H y e) (hu : A.units + d.dep < cLine) (r1 : RelV x u) (r2 : RelV y v) : SeqAt.RcAt A s u v (deq d e) := by
  cases h with
  | non =>
    cases r1
    have hu0 : A.units < cLine := Nat.lt_of_le_of_lt (Nat.le_add_right _ _) hu
    cases h2 with
    | non =>
      cases r2
      first | exact SeqAt.RcAt.none_none | (rw [deq] <;> first | exact SeqAt.RcAt.none_none | nofun)
    | bl b2 =>
      cases r2
      first | exact SeqAt.RcAt.none_bool b2 | (rw [deq] <;> first | exact SeqAt.RcAt.none_bool b2 | nofun)
    | int b2 =>
      obtain ⟨t2, rfl⟩ := r2
      first | exact SeqAt.RcAt.none_int b2 t2 | (rw [deq] <;> first | exact SeqAt.RcAt.none_int b2 t2 | nofun)
    | str b2 =>
      obtain ⟨t2, rfl⟩ := r2
      first | exact SeqAt.RcAt.none_str b2 t2 | (rw [deq] <;> first | exact SeqAt.RcAt.none_str b2 t2 | nofun)
    | @lst a2 xs2 ds2 q2 l2 i2 =>
      cases r2
      obtain ⟨its2, v2, p2, z2⟩ := I.list q2
      first | exact SeqAt.RcAt.none_list p2.isList hu0 | (rw [deq] <;> first | exact SeqAt.RcAt.none_list p2.isList hu0 | nofun)
    | @tup a2 xs2 ds2 q2 l2 i2 =>
      cases r2
      obtain ⟨its2, v2, p2, z2⟩ := I.tuple q2
      first | exact SeqAt.RcAt.none_tuple p2 hu0 | (rw [deq] <;> first | exact SeqAt.RcAt.none_tuple p2 hu0 | nofun)
  | bl b1 =>
    cases r1
    have hu0 : A.units < cLine := Nat.lt_of_le_of_lt (Nat.le_add_right _ _) hu
    cases h2 with
    | non =>
      cases r2
      first | exact SeqAt.RcAt.bool_none b1 | (rw [deq] <;> first | exact SeqAt.RcAt.bool_none b1 | nofun)
    | bl b2 =>
      cases r2
      first | exact SeqAt.RcAt.bool_bool b1 b2 | (rw [deq] <;> first | exact SeqAt.RcAt.bool_bool b1 b2 | nofun)
    | int b2 =>
      obtain ⟨t2, rfl⟩ := r2
      first | exact SeqAt.RcAt.bool_int b1 b2 t2 | (rw [deq] <;> first | exact SeqAt.RcAt.bool_int b1 b2 t2 | nofun)
    | str b2 =>
      obtain ⟨t2, rfl⟩ := r2
      first | exact SeqAt.RcAt.bool_str b1 b2 t2 | (rw [deq] <;> first | exact SeqAt.RcAt.bool_str b1 b2 t2 | nofun)
    | @lst a2 xs2 ds2 q2 l2 i2 =>
      cases r2
      obtain ⟨its2, v2, p2, z2⟩ := I.list q2
      first | exact SeqAt.RcAt.bool_list b1 p2.isList hu0 | (rw [deq] <;> first | exact SeqAt.RcAt.bool_list b1 p2.isList hu0 | nofun)
    | @tup a2 xs2 ds2 q2 l2 i2 =>
      cases r2
      obtain ⟨its2, v2, p2, z2⟩ := I.tuple q2
      first | exact SeqAt.RcAt.bool_tuple b1 p2 hu0 | (rw [deq] <;> first | exact SeqAt.RcAt.bool_tuple b1 p2 hu0 | nofun)
  | int b1 =>
    obtain ⟨t1, rfl⟩ := r1
    have hu0 : A.units < cLine := Nat.lt_of_le_of_lt (Nat.le_add_right _ _) hu
    cases h2 with
    | non =>
      cases r2
      first | exact SeqAt.RcAt.int_none b1 t1 | (rw [deq] <;> first | exact SeqAt.RcAt.int_none b1 t1 | nofun)
    | bl b2 =>
      cases r2
      first | exact SeqAt.RcAt.int_bool b1 t1 b2 | (rw [deq] <;> first | exact SeqAt.RcAt.int_bool b1 t1 b2 | nofun)
    | int b2 =>
      obtain ⟨t2, rfl⟩ := r2
      first | exact SeqAt.RcAt.int_int b1 t1 b2 t2 | (rw [deq] <;> first | exact SeqAt.RcAt.int_int b1 t1 b2 t2 | nofun)
    | str b2 =>
      obtain ⟨t2, rfl⟩ := r2
      first | exact SeqAt.RcAt.int_str b1 t1 b2 t2 | (rw [deq] <;> first | exact SeqAt.RcAt.int_str b1 t1 b2 t2 | nofun)
    | @lst a2 xs2 ds2 q2 l2 i2 =>
      cases r2
      obtain ⟨its2, v2, p2, z2⟩ := I.list q2
      first | exact SeqAt.RcAt.int_list b1 t1 p2.isList hu0 | (rw [deq] <;> first | exact SeqAt.RcAt.int_list b1 t1 p2.isList hu0 | nofun)
    | @tup a2 xs2 ds2 q2 l2 i2 =>
      cases r2
      obtain ⟨its2, v2, p2, z2⟩ := I.tuple q2
      first | exact SeqAt.RcAt.int_tuple b1 t1 p2 hu0 | (rw [deq] <;> first | exact SeqAt.RcAt.int_tuple b1 t1 p2 hu0 | nofun)
  | str b1 =>
    obtain ⟨t1, rfl⟩ := r1
    have hu0 : A.units < cLine := Nat.lt_of_le_of_lt (Nat.le_add_right _ _) hu
    cases h2 with
    | non =>
      cases r2
      first | exact SeqAt.RcAt.str_none b1 t1 | (rw [deq] <;> first | exact SeqAt.RcAt.str_none b1 t1 | nofun)
    | bl b2 =>
      cases r2
      first | exact SeqAt.RcAt.str_bool b1 t1 b2 | (rw [deq] <;> first | exact SeqAt.RcAt.str_bool b1 t1 b2 | nofun)
    | int b2 =>
      obtain ⟨t2, rfl⟩ := r2
      first | exact SeqAt.RcAt.str_int b1 t1 b2 t2 | (rw [deq] <;> first | exact SeqAt.RcAt.str_int b1 t1 b2 t2 | nofun)
    | str b2 =>
      obtain ⟨t2, rfl⟩ := r2
      first | exact SeqAt.RcAt.str_str b1 t1 b2 t2 | (rw [deq] <;> first | exact SeqAt.RcAt.str_str b1 t1 b2 t2 | nofun)
    | @lst a2 xs2 ds2 q2 l2 i2 =>
      cases r2
      obtain ⟨its2, v2, p2, z2⟩ := I.list q2
      first | exact SeqAt.RcAt.str_list b1 t1 p2.isList hu0 | (rw [deq] <;> first | exact SeqAt.RcAt.str_list b1 t1 p2.isList hu0 | nofun)
    | @tup a2 xs2 ds2 q2 l2 i2 =>
      cases r2
      obtain ⟨its2, v2, p2, z2⟩ := I.tuple q2
      first | exact SeqAt.RcAt.str_tuple b1 t1 p2 hu0 | (rw [deq] <;> first | exact SeqAt.RcAt.str_tuple b1 t1 p2 hu0 | nofun)
  | @lst a1 xs1 ds1 q1 l1 i1 =>
    cases r1
    have hu0 : A.units < cLine := Nat.lt_of_le_of_lt (Nat.le_add_right _ _) hu
    obtain ⟨its1, v1, p1, z1⟩ := I.list q1
    have n1 : its1.toArray.size = ds1.length := by rw [List.size_toArray, ← v1.length, l1]
    have hu1 : ∀ (i : Nat) (d : D), ds1[i]? = some d → A.in1.units + d.dep < cLine := fun i d h => by
      have e1 := deps_le h
      have e2 : A.units + (deps ds1 + 1) < cLine := by simpa only [D.dep] using hu
      show A.units + 1 + d.dep < cLine
      omega
    cases h2 with
    | non =>
      cases r2
      first | exact SeqAt.RcAt.list_none p1.isList hu0 | (rw [deq] <;> first | exact SeqAt.RcAt.list_none p1.isList hu0 | nofun)
    | bl b2 =>
      cases r2
      first | exact SeqAt.RcAt.list_bool b2 p1.isList hu0 | (rw [deq] <;> first | exact SeqAt.RcAt.list_bool b2 p1.isList hu0 | nofun)
    | int b2 =>
      obtain ⟨t2, rfl⟩ := r2
      first | exact SeqAt.RcAt.list_int b2 t2 p1.isList hu0 | (rw [deq] <;> first | exact SeqAt.RcAt.list_int b2 t2 p1.isList hu0 | nofun)
    | str b2 =>
      obtain ⟨t2, rfl⟩ := r2
      first | exact SeqAt.RcAt.list_str b2 t2 p1.isList hu0 | (rw [deq] <;> first | exact SeqAt.RcAt.list_str b2 t2 p1.isList hu0 | nofun)
    | @lst a2 xs2 ds2 q2 l2 i2 =>
      cases r2
      obtain ⟨its2, v2, p2, z2⟩ := I.list q2
      have n2 : its2.toArray.size = ds2.length := by rw [List.size_toArray, ← v2.length, l2]
      have it := items_D (X := X) (A := A.in1) v1 v2 l1 l2 (fun i x d ha hb => eqAt_D I (i1 i x d ha hb) (hu1 i d hb)) i2
      rw [deq]
      by_cases hlen : its1.toArray.size = its2.toArray.size
      · rw [deqs_all (by omega), ← n1]
        exact SeqAt.RcAt.lists p1.isList p2.isList hlen hu0 it
      · rw [deqs_len (by omega)]
        exact SeqAt.RcAt.lists_lengths p1.isList p2.isList (by simpa using hlen) hu0
    | @tup a2 xs2 ds2 q2 l2 i2 =>
      cases r2
      obtain ⟨its2, v2, p2, z2⟩ := I.tuple q2
      first | exact SeqAt.RcAt.list_tuple p1.isList p2 hu0 | (rw [deq] <;> first | exact SeqAt.RcAt.list_tuple p1.isList p2 hu0 | nofun)
  | @tup a1 xs1 ds1 q1 l1 i1 =>
    cases r1
    have hu0 : A.units < cLine := Nat.lt_of_le_of_lt (Nat.le_add_right _ _) hu
    obtain ⟨its1, v1, p1, z1⟩ := I.tuple q1
    have n1 : its1.toArray.size = ds1.length := by rw [List.size_toArray, ← v1.length, l1]
    have hu1 : ∀ (i : Nat) (d : D), ds1[i]? = some d → A.in1.units + d.dep < cLine := fun i d h => by
      have e1 := deps_le h
      have e2 : A.units + (deps ds1 + 1) < cLine := by simpa only [D.dep] using hu
      show A.units + 1 + d.dep < cLine
      omega
    cases h2 with
    | non =>
      cases r2
      first | exact SeqAt.RcAt.tuple_none p1 hu0 | (rw [deq] <;> first | exact SeqAt.RcAt.tuple_none p1 hu0 | nofun)
    | bl b2 =>
      cases r2
      first | exact SeqAt.RcAt.tuple_bool b2 p1 hu0 | (rw [deq] <;> first | exact SeqAt.RcAt.tuple_bool b2 p1 hu0 | nofun)
    | int b2 =>
      obtain ⟨t2, rfl⟩ := r2
      first | exact SeqAt.RcAt.tuple_int b2 t2 p1 hu0 | (rw [deq] <;> first | exact SeqAt.RcAt.tuple_int b2 t2 p1 hu0 | nofun)
    | str b2 =>
      obtain ⟨t2, rfl⟩ := r2
      first | exact SeqAt.RcAt.tuple_str b2 t2 p1 hu0 | (rw [deq] <;> first | exact SeqAt.RcAt.tuple_str b2 t2 p1 hu0 | nofun)
    | @lst a2 xs2 ds2 q2 l2 i2 =>
      cases r2
      obtain ⟨its2, v2, p2, z2⟩ := I.list q2
      first | exact SeqAt.RcAt.tuple_list p1 p2.isList hu0 | (rw [deq] <;> first | exact SeqAt.RcAt.tuple_list p1 p2.isList hu0 | nofun)
    | @tup a2 xs2 ds2 q2 l2 i2 =>
      cases r2
      obtain ⟨its2, v2, p2, z2⟩ := I.tuple q2
      have n2 : its2.toArray.size = ds2.length := by rw [List.size_toArray, ← v2.length, l2]
      have it := items_D (X := X) (A := A.in1) v1 v2 l1 l2 (fun i x d ha hb => eqAt_D I (i1 i x d ha hb) (hu1 i d hb)) i2
      rw [deq]
      rw [← tup_D, ← n1, ← n2]
      exact SeqAt.RcAt.tuples p1 p2 hu0 it
theorem rcNeAt_D (I : Inv X pins σ H s) {A : Around} {x y : V} {d e : D} {u v : Value} (h : IsD X.K H x d) (h2 : IsD X.K H y e) (hu : A.units + d.dep < cLine) (r1 : RelV x u) (r2 : RelV y v) : SeqAt.RcNeAt A s u v (!deq d e) := by
  cases h with
  | non =>
    cases r1
    have hu0 : A.units < cLine := Nat.lt_of_le_of_lt (Nat.le_add_right _ _) hu
    cases h2 with
    | non =>
      cases r2
      first | exact SeqAt.RcNeAt.none_none | (rw [deq] <;> first | exact SeqAt.RcNeAt.none_none | nofun)
    | bl b2 =>
      cases r2
      first | exact SeqAt.RcNeAt.none_bool b2 | (rw [deq] <;> first | exact SeqAt.RcNeAt.none_bool b2 | nofun)
    | int b2 =>
      obtain ⟨t2, rfl⟩ := r2
      first | exact SeqAt.RcNeAt.none_int b2 t2 | (rw [deq] <;> first | exact SeqAt.RcNeAt.none_int b2 t2 | nofun)
    | str b2 =>
      obtain ⟨t2, rfl⟩ := r2
      first | exact SeqAt.RcNeAt.none_str b2 t2 | (rw [deq] <;> first | exact SeqAt.RcNeAt.none_str b2 t2 | nofun)
    | @lst a2 xs2 ds2 q2 l2 i2 =>
      cases r2
      obtain ⟨its2, v2, p2, z2⟩ := I.list q2
      first | exact SeqAt.RcNeAt.none_list p2.isList hu0 | (rw [deq] <;> first | exact SeqAt.RcNeAt.none_list p2.isList hu0 | nofun)
    | @tup a2 xs2 ds2 q2 l2 i2 =>
      cases r2
      obtain ⟨its2, v2, p2, z2⟩ := I.tuple q2
      first | exact SeqAt.RcNeAt.none_tuple p2 hu0 | (rw [deq] <;> first | exact SeqAt.RcNeAt.none_tuple p2 hu0 | nofun)
  | bl b1 =>
    cases r1
    have hu0 : A.units < cLine := Nat.lt_of_le_of_lt (Nat.le_add_right _ _) hu
    cases h2 with
    | non =>
      cases r2
      first | exact SeqAt.RcNeAt.bool_none b1 | (rw [deq] <;> first | exact SeqAt.RcNeAt.bool_none b1 | nofun)
    | bl b2 =>
      cases r2
      first | exact SeqAt.RcNeAt.bool_bool b1 b2 | (rw [deq] <;> first | exact SeqAt.RcNeAt.bool_bool b1 b2 | nofun)
    | int b2 =>
      obtain ⟨t2, rfl⟩ := r2
      first | exact SeqAt.RcNeAt.bool_int b1 b2 t2 | (rw [deq] <;> first | exact SeqAt.RcNeAt.bool_int b1 b2 t2 | nofun)
    | str b2 =>
      obtain ⟨t2, rfl⟩ := r2
      first | exact SeqAt.RcNeAt.bool_str b1 b2 t2 | (rw [deq] <;> first | exact SeqAt.RcNeAt.bool_str b1 b2 t2 | nofun)
    | @lst a2 xs2 ds2 q2 l2 i2 =>
      cases r2
      obtain ⟨its2, v2, p2, z2⟩ := I.list q2
      first | exact SeqAt.RcNeAt.bool_list b1 p2.isList hu0 | (rw [deq] <;> first | exact SeqAt.RcNeAt.bool_list b1 p2.isList hu0 | nofun)
    | @tup a2 xs2 ds2 q2 l2 i2 =>
      cases r2
      obtain ⟨its2, v2, p2, z2⟩ := I.tuple q2
      first | exact SeqAt.RcNeAt.bool_tuple b1 p2 hu0 | (rw [deq] <;> first | exact SeqAt.RcNeAt.bool_tuple b1 p2 hu0 | nofun)
  | int b1 =>
    obtain ⟨t1, rfl⟩ := r1
    have hu0 : A.units < cLine := Nat.lt_of_le_of_lt (Nat.le_add_right _ _) hu
    cases h2 with
    | non =>
      cases r2
      first | exact SeqAt.RcNeAt.int_none b1 t1 | (rw [deq] <;> first | exact SeqAt.RcNeAt.int_none b1 t1 | nofun)
    | bl b2 =>
      cases r2
      first | exact SeqAt.RcNeAt.int_bool b1 t1 b2 | (rw [deq] <;> first | exact SeqAt.RcNeAt.int_bool b1 t1 b2 | nofun)
    | int b2 =>
      obtain ⟨t2, rfl⟩ := r2
      first | exact SeqAt.RcNeAt.int_int b1 t1 b2 t2 | (rw [deq] <;> first | exact SeqAt.RcNeAt.int_int b1 t1 b2 t2 | nofun)
    | str b2 =>
      obtain ⟨t2, rfl⟩ := r2
      first | exact SeqAt.RcNeAt.int_str b1 t1 b2 t2 | (rw [deq] <;> first | exact SeqAt.RcNeAt.int_str b1 t1 b2 t2 | nofun)
    | @lst a2 xs2 ds2 q2 l2 i2 =>
      cases r2
      obtain ⟨its2, v2, p2, z2⟩ := I.list q2
      first | exact SeqAt.RcNeAt.int_list b1 t1 p2.isList hu0 | (rw [deq] <;> first | exact SeqAt.RcNeAt.int_list b1 t1 p2.isList hu0 | nofun)
    | @tup a2 xs2 ds2 q2 l2 i2 =>
      cases r2
      obtain ⟨its2, v2, p2, z2⟩ := I.tuple q2
      first | exact SeqAt.RcNeAt.int_tuple b1 t1 p2 hu0 | (rw [deq] <;> first | exact SeqAt.RcNeAt.int_tuple b1 t1 p2 hu0 | nofun)
  | str b1 =>
    obtain ⟨t1, rfl⟩ := r1
    have hu0 : A.units < cLine := Nat.lt_of_le_of_lt (Nat.le_add_right _ _) hu
    cases h2 with
    | non =>
      cases r2
      first | exact SeqAt.RcNeAt.str_none b1 t1 | (rw [deq] <;> first | exact SeqAt.RcNeAt.str_none b1 t1 | nofun)
    | bl b2 =>
      cases r2
      first | exact SeqAt.RcNeAt.str_bool b1 t1 b2 | (rw [deq] <;> first | exact SeqAt.RcNeAt.str_bool b1 t1 b2 | nofun)
    | int b2 =>
      obtain ⟨t2, rfl⟩ := r2
      first | exact SeqAt.RcNeAt.str_int b1 t1 b2 t2 | (rw [deq] <;> first | exact SeqAt.RcNeAt.str_int b1 t1 b2 t2 | nofun)
    | str b2 =>
      obtain ⟨t2, rfl⟩ := r2
      first | exact SeqAt.RcNeAt.str_str b1 t1 b2 t2 | (rw [deq] <;> first | exact SeqAt.RcNeAt.str_str b1 t1 b2 t2 | nofun)
    | @lst a2 xs2 ds2 q2 l2 i2 =>
      cases r2
      obtain ⟨its2, v2, p2, z2⟩ := I.list q2
      first | exact SeqAt.RcNeAt.str_list b1 t1 p2.isList hu0 | (rw [deq] <;> first | exact SeqAt.RcNeAt.str_list b1 t1 p2.isList hu0 | nofun)
    | @tup a2 xs2 ds2 q2 l2 i2 =>
      cases r2
      obtain ⟨its2, v2, p2, z2⟩ := I.tuple q2
      first | exact SeqAt.RcNeAt.str_tuple b1 t1 p2 hu0 | (rw [deq] <;> first | exact SeqAt.RcNeAt.str_tuple b1 t1 p2 hu0 | nofun)
  | @lst a1 xs1 ds1 q1 l1 i1 =>
    cases r1
    have hu0 : A.units < cLine := Nat.lt_of_le_of_lt (Nat.le_add_right _ _) hu
    obtain ⟨its1, v1, p1, z1⟩ := I.list q1
    have n1 : its1.toArray.size = ds1.length := by rw [List.size_toArray, ← v1.length, l1]
    have hu1 : ∀ (i : Nat) (d : D), ds1[i]? = some d → A.in1.units + d.dep < cLine := fun i d h => by
      have e1 := deps_le h
      have e2 : A.units + (deps ds1 + 1) < cLine := by simpa only [D.dep] using hu
      show A.units + 1 + d.dep < cLine
      omega
    cases h2 with
    | non =>
      cases r2
      first | exact SeqAt.RcNeAt.list_none p1.isList hu0 | (rw [deq] <;> first | exact SeqAt.RcNeAt.list_none p1.isList hu0 | nofun)
    | bl b2 =>
      cases r2
      first | exact SeqAt.RcNeAt.list_bool b2 p1.isList hu0 | (rw [deq] <;> first | exact SeqAt.RcNeAt.list_bool b2 p1.isList hu0 | nofun)
    | int b2 =>
      obtain ⟨t2, rfl⟩ := r2
      first | exact SeqAt.RcNeAt.list_int b2 t2 p1.isList hu0 | (rw [deq] <;> first | exact SeqAt.RcNeAt.list_int b2 t2 p1.isList hu0 | nofun)
    | str b2 =>
      obtain ⟨t2, rfl⟩ := r2
      first | exact SeqAt.RcNeAt.list_str b2 t2 p1.isList hu0 | (rw [deq] <;> first | exact SeqAt.RcNeAt.list_str b2 t2 p1.isList hu0 | nofun)
    | @lst a2 xs2 ds2 q2 l2 i2 =>
      cases r2
      obtain ⟨its2, v2, p2, z2⟩ := I.list q2
      have n2 : its2.toArray.size = ds2.length := by rw [List.size_toArray, ← v2.length, l2]
      have it := items_D (X := X) (A := A.in1) v1 v2 l1 l2 (fun i x d ha hb => eqAt_D I (i1 i x d ha hb) (hu1 i d hb)) i2
      rw [deq]
      by_cases hlen : its1.toArray.size = its2.toArray.size
      · rw [deqs_all (by omega), ← n1]
        exact SeqAt.RcNeAt.lists p1.isList p2.isList hlen hu0 it
      · rw [deqs_len (by omega)]
        exact SeqAt.RcNeAt.lists_lengths p1.isList p2.isList (by simpa using hlen) hu0
    | @tup a2 xs2 ds2 q2 l2 i2 =>
      cases r2
      obtain ⟨its2, v2, p2, z2⟩ := I.tuple q2
      first | exact SeqAt.RcNeAt.list_tuple p1.isList p2 hu0 | (rw [deq] <;> first | exact SeqAt.RcNeAt.list_tuple p1.isList p2 hu0 | nofun)
  | @tup a1 xs1 ds1 q1 l1 i1 =>
    cases r1
    have hu0 : A.units < cLine := Nat.lt_of_le_of_lt (Nat.le_add_right _ _) hu
    obtain ⟨its1, v1, p1, z1⟩ := I.tuple q1
    have n1 : its1.toArray.size = ds1.length := by rw [List.size_toArray, ← v1.length, l1]
    have hu1 : ∀ (i : Nat) (d : D), ds1[i]? = some d → A.in1.units + d.dep < cLine := fun i d h => by
      have e1 := deps_le h
      have e2 : A.units + (deps ds1 + 1) < cLine := by simpa only [D.dep] using hu
      show A.units + 1 + d.dep < cLine
      omega
    cases h2 with
    | non =>
      cases r2
      first | exact SeqAt.RcNeAt.tuple_none p1 hu0 | (rw [deq] <;> first | exact SeqAt.RcNeAt.tuple_none p1 hu0 | nofun)
    | bl b2 =>
      cases r2
      first | exact SeqAt.RcNeAt.tuple_bool b2 p1 hu0 | (rw [deq] <;> first | exact SeqAt.RcNeAt.tuple_bool b2 p1 hu0 | nofun)
    | int b2 =>
      obtain ⟨t2, rfl⟩ := r2
      first | exact SeqAt.RcNeAt.tuple_int b2 t2 p1 hu0 | (rw [deq] <;> first | exact SeqAt.RcNeAt.tuple_int b2 t2 p1 hu0 | nofun)
    | str b2 =>
      obtain ⟨t2, rfl⟩ := r2
      first | exact SeqAt.RcNeAt.tuple_str b2 t2 p1 hu0 | (rw [deq] <;> first | exact SeqAt.RcNeAt.tuple_str b2 t2 p1 hu0 | nofun)
    | @lst a2 xs2 ds2 q2 l2 i2 =>
      cases r2
      obtain ⟨its2, v2, p2, z2⟩ := I.list q2
      first | exact SeqAt.RcNeAt.tuple_list p1 p2.isList hu0 | (rw [deq] <;> first | exact SeqAt.RcNeAt.tuple_list p1 p2.isList hu0 | nofun)
    | @tup a2 xs2 ds2 q2 l2 i2 =>
      cases r2
      obtain ⟨its2, v2, p2, z2⟩ := I.tuple q2
      have n2 : its2.toArray.size = ds2.length := by rw [List.size_toArray, ← v2.length, l2]
      have it := items_D (X := X) (A := A.in1) v1 v2 l1 l2 (fun i x d ha hb => eqAt_D I (i1 i x d ha hb) (hu1 i d hb)) i2
      rw [deq]
      rw [← tup_D, ← n1, ← n2]
      exact SeqAt.RcNeAt.tuples p1 p2 hu0 it
def rEqD (K : PySem.W.Frag) (neg : Bool) : R2 := fun x y H Q => ∃ d e, IsD K H x d ∧ IsD K H y e ∧ d.dep ≤ 60 ∧ Q (.bl (if neg = true then !deq d e else deq d e)) H
theorem op_eqD (hu : X.A.units + 64 < cLine) : OpR X (compareOp .Eq) (rEqD X.K false) := by
  intro pins s σ H x y v u Q I rx ry h
  obtain ⟨d, e, h1, h2, hd, q⟩ := h
  exact rcAt_D I h1 h2 (by omega) rx ry _ _ _ _ (fin_bl I q rfl)
theorem op_neD (hu : X.A.units + 64 < cLine) : OpR X (compareOp .NotEq) (rEqD X.K true) := by
  intro pins s σ H x y v u Q I rx ry h
  obtain ⟨d, e, h1, h2, hd, q⟩ := h
  exact rcNeAt_D I h1 h2 (by omega) rx ry _ _ _ _ (fin_bl I q rfl)
def fD : V → D
  | .non => .non
  | .bl b => .bl b
  | .int i => .int i
  | .str x => .str x
  | _ => .non
theorem IsD.flat {K : PySem.W.Frag} {x : V} (h : flatV x = true) : IsD K H x (fD x) := by
  cases x with
  | non => exact .non
  | bl b => exact .bl b
  | int i => exact .int i
  | str z => exact .str z
  | _ => exact absurd (show false = true from h) Bool.false_ne_true
theorem IsD.flatL {K : PySem.W.Frag} {a : Addr} {xs : List V} (h : SqL K H a xs) (hf : ∀ x ∈ xs, flatV x = true) : IsD K H (.ref a) (.lst (xs.map fD)) := by
  refine .lst h (by simp) fun i x d h1 h2 => ?_
  rw [List.getElem?_map, h1] at h2
  cases h2
  exact .flat (hf x (List.mem_of_getElem? h1))
theorem IsD.flatT {K : PySem.W.Frag} {a : Addr} {xs : List V} (h : SqT K H a xs) (hf : ∀ x ∈ xs, flatV x = true) : IsD K H (.ref a) (.tup (xs.map fD)) := by
  refine .tup h (by simp) fun i x d h1 h2 => ?_
  rw [List.getElem?_map, h1] at h2
  cases h2
  exact .flat (hf x (List.mem_of_getElem? h1))
theorem dep_flat (x : V) : (fD x).dep = 0 := by cases x <;> rfl
theorem deps_flat (xs : List V) : deps (xs.map fD) = 0 := by
  induction xs with
  | nil => rfl
  | cons x xs ih => rw [List.map_cons, deps, dep_flat, ih]; rfl
end
end L2
namespace L2
open PySem PySem.Spec PyProof.Rows
structure Ends.Le (D D' : Ends) : Prop where
  nx : ∀ σ H, D.nx σ H → D'.nx σ H
  rt : ∀ v H, D.rt v H → D'.rt v H
  bk : ∀ σ H, D.bk σ H → D'.bk σ H
  ct : ∀ σ H, D.ct σ H → D'.ct σ H
theorem Ends.Le.refl (D : Ends) : D.Le D := ⟨fun _ _ h => h, fun _ _ h => h, fun _ _ h => h, fun _ _ h => h⟩
theorem Ends.Le.trans {D E F : Ends} (a : D.Le E) (b : E.Le F) : D.Le F := ⟨fun σ H h => b.nx σ H (a.nx σ H h), fun σ H h => b.rt σ H (a.rt σ H h), fun σ H h => b.bk σ H (a.bk σ H h), fun σ H h => b.ct σ H (a.ct σ H h)⟩
def bodyT (X : Cx) (sts : List Stmt) : TS := fun D σ H => ∃ t D', PSs X sts t ∧ t D' σ H ∧ D'.Le D
theorem pss_bodyT {X : Cx} {sts : List Stmt} : PSs X sts (bodyT X sts) := fun pins s σ H D I h => by
  obtain ⟨t, D', h1, h2, le⟩ := h
  refine thn (h1 pins s σ H D' I h2) fun f s' h => ?_
  cases f with
  | next => obtain ⟨a, b, c, d⟩ := h; exact ⟨a, b, c, le.nx _ _ d⟩
  | brk => obtain ⟨a, b, c, d⟩ := h; exact ⟨a, b, c, le.bk _ _ d⟩
  | cont => obtain ⟨a, b, c, d⟩ := h; exact ⟨a, b, c, le.ct _ _ d⟩
  | ret u => obtain ⟨v, a, b, c, r, d⟩ := h; exact ⟨v, a, b, c, r, le.rt _ _ d⟩
theorem bodyT.of {X : Cx} {sts : List Stmt} {D : Ends} {σ : St} {H : Hp} {t : TS} (h : PSs X sts t) (q : t D σ H) : bodyT X sts D σ H := ⟨t, D, h, q, .refl D⟩
theorem bodyT.mono {X : Cx} {sts : List Stmt} {D D' : Ends} {σ : St} {H : Hp} (h : bodyT X sts D σ H) (le : D.Le D') : bodyT X sts D' σ H := by
  obtain ⟨t, E, h1, h2, l⟩ := h
  exact ⟨t, E, h1, h2, l.trans le⟩
def testT (X : Cx) (e : Expr) : TT := fun σ H Q => ∃ t Q', PT X e t ∧ t σ H Q' ∧ ∀ b H1, Q' b H1 → Q b H1
theorem testT.of {X : Cx} {e : Expr} {σ : St} {H : Hp} {Q : Bool → Hp → Prop} {t : TT} (h : PT X e t) (q : t σ H Q) : testT X e σ H Q := ⟨t, Q, h, q, fun _ _ h => h⟩
def forW (J : It) (g : TG) (tb : TS) (D : Ends) (σ : St) (H : Hp) : Prop := ∃ W : Nat → Nat → St → Hp → Prop, (∃ m, W 0 m σ H) ∧ ∀ i m σ H, W i m σ H →
  (J.stop i H ∧ D.nx σ H) ∨ (J.go i H ∧ ∃ N : St → Hp → Prop, (∀ σ' H', N σ' H' → ∃ m', m' < m ∧ W (i + 1) m' σ' H') ∧ ∀ x H', J.yld i H x H' → g x σ H' fun σ2 H2 => tb { D with nx := N, ct := N, bk := D.nx } σ2 H2)
def tForW (wi : TI) (g : TG) (tb : TS) : TS := fun D σ H => wi σ H fun J H1 => forW J g tb D σ H1
theorem ps_forW {X : Cx} {tg iter : Expr} {body : List Stmt} {wi : TI} {g : TG} {tb : TS} {pos : Pos} (hp : PassesOwn (model X.prog X.w) X.A X.env X.xe) (hc : X.calm = true) (hi : PI X tg iter wi) (hg : PG X tg g) (hb : PSs X body tb)
    (hs : ∀ x, foldedSetIterable iter X.env x = pure x := by intro _; rfl) : PS X (.For tg iter body [] pos) (tForW wi g tb) := ps_for hp hc hi hg hb hs
section
variable {K : PySem.W.Frag} {a : Addr} {p : Nat} {xs : List V} {lo : Int} {n : Nat} {g : TG} {tb : TS} {D : Ends} {σ : St} {H : Hp}
theorem fw_list (xs : List V) (Pv : Nat → St → Hp → Prop) (h0 : Pv 0 σ H) (hl : ∀ i σ H, i ≤ xs.length → Pv i σ H → SqL K H a xs)
    (hs : ∀ i x σ H, xs[i]? = some x → Pv i σ H → g x σ H fun σ2 H2 => tb { D with nx := Pv (i + 1), ct := Pv (i + 1), bk := D.nx } σ2 H2) (hd : ∀ σ H, Pv xs.length σ H → D.nx σ H) : forW (Itl K a) g tb D σ H := for_list Pv h0 hl hs hd
theorem fw_tup (xs : List V) (Pv : Nat → St → Hp → Prop) (h0 : Pv 0 σ H) (hl : ∀ i σ H, i ≤ xs.length → Pv i σ H → SqT K H a xs)
    (hs : ∀ i x σ H, xs[i]? = some x → Pv i σ H → g x σ H fun σ2 H2 => tb { D with nx := Pv (i + 1), ct := Pv (i + 1), bk := D.nx } σ2 H2) (hd : ∀ σ H, Pv xs.length σ H → D.nx σ H) : forW (Itt K a) g tb D σ H := for_tup Pv h0 hl hs hd
theorem fw_range (Pv : Nat → St → Hp → Prop) (h0 : Pv 0 σ H) (hs : ∀ i σ H, i < n → Pv i σ H → g (.int (lo + i)) σ H fun σ2 H2 => tb { D with nx := Pv (i + 1), ct := Pv (i + 1), bk := D.nx } σ2 H2) (hd : ∀ σ H, Pv n σ H → D.nx σ H) : forW (Itr lo n) g tb D σ H := for_range Pv h0 hs hd
theorem fw_enum (xs : List V) (Pv : Nat → St → Hp → Prop) (h0 : Pv 0 σ H) (hl : ∀ i σ H, i ≤ xs.length → Pv i σ H → SqL K H a xs)
    (hs : ∀ i x t σ H, xs[i]? = some x → Pv i σ H → H t = none → g (.ref t) σ (upd H t (.tup [.int ((p + i : Nat) : Int), x])) fun σ2 H2 => tb { D with nx := Pv (i + 1), ct := Pv (i + 1), bk := D.nx } σ2 H2) (hd : ∀ σ H, Pv xs.length σ H → D.nx σ H) : forW (Ite K a p) g tb D σ H := for_enum Pv h0 hl hs hd
end
def whileW (c : TT) (tb : TS) (D : Ends) (σ : St) (H : Hp) : Prop := tWhile c tb D σ H
def tWhileW (c : TT) (tb : TS) : TS := fun D σ H => whileW c tb D σ H
def stT (X : Cx) (st : Stmt) : TS := fun D σ H => ∃ t D', PS X st t ∧ t D' σ H ∧ D'.Le D
theorem ps_stT {X : Cx} {st : Stmt} : PS X st (stT X st) := fun pins s σ H D I h => by
  obtain ⟨t, D', h1, h2, le⟩ := h
  refine thn (h1 pins s σ H D' I h2) fun f s' h => ?_
  cases f with
  | next => obtain ⟨a, b, c, d⟩ := h; exact ⟨a, b, c, le.nx _ _ d⟩
  | brk => obtain ⟨a, b, c, d⟩ := h; exact ⟨a, b, c, le.bk _ _ d⟩
  | cont => obtain ⟨a, b, c, d⟩ := h; exact ⟨a, b, c, le.ct _ _ d⟩
  | ret u => obtain ⟨v, a, b, c, r, d⟩ := h; exact ⟨v, a, b, c, r, le.rt _ _ d⟩
theorem stT.of {X : Cx} {st : Stmt} {D : Ends} {σ : St} {H : Hp} {t : TS} (h : PS X st t) (q : t D σ H) : stT X st D σ H := ⟨t, D, h, q, .refl D⟩
theorem joinW {X : Cx} {st : Stmt} {D : Ends} {σ : St} {H : Hp} (M : St → Hp → Prop) (h : stT X st { D with nx := M } σ H) (q : ∀ σ H, M σ H → D.nx σ H) : stT X st D σ H := by
  obtain ⟨t, D', h1, h2, le⟩ := h
  exact ⟨t, D', h1, h2, fun σ H z => q σ H (le.nx σ H z), le.rt, le.bk, le.ct⟩
end L2
namespace L2
open PySem PySem.Spec PyProof.Rows
structure ClsFn (K : PySem.W.Frag) (C : Addr) (m : Str) (f : Addr) : Prop where
  sp : PySem.W.specialIn K (.ref C) "__getattribute__" = some (some (.builtin "type.__getattribute__"))
  rd : PySem.W.readsIn K C (.type "type") = true
  fd : PySem.W.findCls K (.ref C) (.type "type") m = some (.val (.ref f))
  kp : PySem.W.keepIn K (.ref f) = true
structure Tyc (K : PySem.W.Frag) (C : Addr) : Prop where
  ha : PySem.W.findIn K (.ref C) "__class__" = some (some (.builtin "object.__class__"))
  hn : PySem.W.specialIn K (.builtin "object.__class__") "__get__" = some (some (.builtin "getset_descriptor.__get__"))
  htk : PySem.W.takesIn K (.builtin "object.__class__") = some true
  hm : PySem.W.mroIn K C (.type "object") = some true
theorem Tyc.ty {K : PySem.W.Frag} {C a dx : Addr} {H : Hp} {fs : List (Str × V)} (t : Tyc K C) (c : Cls K C) (e : H a = some (.ins C dx fs)) : TyOf K H (.ref a) (.ref C) := .ins e c t.ha t.hn t.htk t.hm
def tMethV (L : List (Addr × Sp)) (m : Str) (dvs : List V) (E : XK) (ta : TE) (t : TA) : TE := fun σ H Q => ta σ H fun x H1 => ∃ a C dx fs, x = .ref a ∧ H1 a = some (.ins C dx fs) ∧ fs.lookup m = none ∧ ∃ sp, (C, sp) ∈ L ∧
  t σ H1 fun vs H2 => sp (x :: (vs ++ dvs)) H2 Q E
section
variable {X : Cx} {CX : CXT} {k : Nat} {f C : Addr} {fd : FuncData} {ps : List Str} {sp : Sp} {dvs : List V} {ds : List Value} {E : XK} {x m : Str} {p pos apos : Pos} {e o : Expr} {es : List Expr} {ta : TE} {t : TA} {L : List (Addr × Sp)}
end
theorem gN {i : Nat} {v : V} {σ : St} {H : Hp} {Q : St → Hp → Prop} (h : Q (σ.set i (some v)) H) : gName i v σ H Q := h
section
variable {K : PySem.W.Frag} {a D : Addr} {fr : List Nat} {tt : TT} {te : TE} {σ : St} {Q : Hp → Prop} {H : Hp}
def lcS (D : Addr) (Pv : Nat → List V → Hp → Prop) (n m i : Nat) : VK := fun y H4 => ∃ ys, H4 D = some (.lst ys) ∧ ys.length < sizeLine ∧ ∃ m', m' < m ∧ (m' + (i + 1) = n ∧ ∃ zs, Pv (i + 1) zs (upd H4 D (.lst (ys ++ [y]))))
def lcK (Pv : Nat → List V → Hp → Prop) (n m i : Nat) (H3 : Hp) : Prop := ∃ m', m' < m ∧ (m' + (i + 1) = n ∧ ∃ zs, Pv (i + 1) zs H3)
theorem lcS.mk {Pv : Nat → List V → Hp → Prop} {n m i : Nat} {y : V} {H4 : Hp} {ys : List V} (hm : m + 1 + i = n) (h : H4 D = some (.lst ys)) (hz : ys.length ≤ 1000) (p : Pv (i + 1) (ys ++ [y]) (upd H4 D (.lst (ys ++ [y])))) : lcS D Pv n (m + 1) i y H4 :=
  ⟨ys, h, small1000 hz, m, by omega, by omega, _, p⟩
theorem lcK.mk {Pv : Nat → List V → Hp → Prop} {n m i : Nat} {H3 : Hp} {ys : List V} (hm : m + 1 + i = n) (p : Pv (i + 1) ys H3) : lcK Pv n (m + 1) i H3 := ⟨m, by omega, by omega, _, p⟩
theorem lc_listG {β : Type} (xs : List V) (bs : List β) (g : β → Option V) (hz : xs.length ≤ 1000) (hl : bs.length = xs.length) (hS : ∀ ys, SqL K (upd H D (.lst ys)) a xs)
    (ht : ∀ (i : Nat) x b ys (R : Bool → Hp → Prop), xs[i]? = some x → bs[i]? = some b → R (g b).isSome (upd H D (.lst ys)) → tt (lcSlots fr σ (some x)) (upd H D (.lst ys)) R)
    (he : ∀ (i : Nat) x b y ys (R : VK), xs[i]? = some x → bs[i]? = some b → g b = some y → R y (upd H D (.lst ys)) → te (lcSlots fr σ (some x)) (upd H D (.lst ys)) R)
    (hq : Q (upd H D (.lst (bs.filterMap g)))) : lcLoop (Itl K a) fr tt te σ D Q (upd H D (.lst [])) := by
  refine ⟨fun i m H2 => m + i = xs.length ∧ H2 = upd H D (.lst ((bs.take i).filterMap g)), ⟨xs.length, rfl, rfl⟩, ?_⟩
  rintro i m H2 ⟨hm, rfl⟩
  cases m with
  | zero =>
    have e : i = xs.length := by omega
    subst e
    refine .inl ⟨⟨xs, hS _, Nat.le_refl _⟩, ?_⟩
    rw [← hl, List.take_length]
    exact hq
  | succ m =>
    have hi : i < xs.length := by omega
    have hb : i < bs.length := by omega
    refine .inr ⟨⟨xs, xs[i], hS _, List.getElem?_eq_getElem hi⟩, fun v H' y => ?_⟩
    obtain ⟨rfl, hv⟩ := y
    have hx := hv xs (hS _)
    have hbi : bs[i]? = some bs[i] := List.getElem?_eq_getElem hb
    have et : bs.take (i + 1) = bs.take i ++ [bs[i]] := by rw [List.take_add_one, hbi]; rfl
    have ll : ((bs.take i).filterMap g).length ≤ 1000 := by
      have h1 := List.length_filterMap_le g (bs.take i)
      have h2 := List.length_take_le i bs
      omega
    have l2 : ((bs.take i).filterMap g).length < 1000 := by
      have h1 := List.length_filterMap_le g (bs.take i)
      have h2 := List.length_take_le i bs
      omega
    refine ht i v _ _ _ hx hbi ?_
    cases eg : g bs[i] with
    | none =>
      rw [Option.isSome_none, if_neg Bool.false_ne_true]
      refine ⟨m, by omega, by omega, ?_⟩
      rw [et, List.filterMap_append]
      simp [eg]
    | some y =>
      rw [Option.isSome_some, if_pos rfl]
      refine he i v _ y _ _ hx hbi eg ⟨_, upd_same, small1000 (by omega), m, by omega, by omega, ?_⟩
      rw [upd_upd, et, List.filterMap_append]
      simp [eg]
end
end L2
namespace L2
open PySem PySem.Spec PyProof.Rows
inductive TyS (K : PySem.W.Frag) (H : Hp) : V → Value → Prop where
  | ty {x : V} {t : Value} (h : TyOf K H x t) : TyS K H x t
  | lst {a : Addr} {xs : List V} (h : SqL K H a xs) : TyS K H (.ref a) (.type "list")
  | tup {a : Addr} {xs : List V} (h : SqT K H a xs) : TyS K H (.ref a) (.type "tuple")
theorem call_isinstS {X : Cx} : CallR X (.builtin "isinstance") (fun xs H Q => ∃ x n t b, xs = [x, .ty n] ∧ TyS X.K H x t ∧ PySem.W.kitOne X.K t (.type n) = some b ∧ Q (.bl b) H) := by
  intro pins s σ H xs us Q I r h
  obtain ⟨x, n, t, b, rfl, ty, e, q⟩ := h
  obtain ⟨u, w', rfl, r1, r2⟩ := vals2 r
  cases (show w' = Value.type n from r2)
  cases ty with
  | ty h => exact isinst_ok I r1 h e fun tk => ⟨.bl b, H, I.tok _, rfl, q⟩
  | @lst a ys h =>
    cases (show u = Value.ref a from r1)
    obtain ⟨its, _, ⟨o, n, h1, h2, _⟩, _⟩ := I.list h
    exact PySem.W.kia_one PySem.W.kitx_list I.kIn ⟨o, h1, h2⟩ e (fun z => nomatch z) fun tk => ⟨.bl b, H, I.tok _, rfl, q⟩
  | @tup a ys h =>
    cases (show u = Value.ref a from r1)
    obtain ⟨its, _, ⟨o, h1, h2, _⟩, _⟩ := I.tuple h
    exact PySem.W.kia_one PySem.W.kitx_tuple I.kIn ⟨o, h1, h2⟩ e (fun z => nomatch z) fun tk => ⟨.bl b, H, I.tok _, rfl, q⟩
end L2
namespace L2
open PySem PySem.Spec PyProof.Rows
section
variable {κ : Type} [DecidableEq κ]
def valV (kvs : List (κ × V)) (k : κ) : Option V := (kvs.find? fun kv => decide (kv.1 = k)).map (·.2)
def putK (kvs : List (κ × V)) (k : κ) (v : V) : List (κ × V) :=
  if (kvs.any fun kv => decide (kv.1 = k)) = true then kvs.map (fun kv => if kv.1 = k then (kv.1, v) else kv) else kvs ++ [(k, v)]
def dropK (kvs : List (κ × V)) (k : κ) : List (κ × V) := kvs.filter fun kv => decide (kv.1 ≠ k)
theorem valV_pos {p : κ × V} {r : List (κ × V)} {k : κ} (e : p.1 = k) : valV (p :: r) k = some p.2 := by simp [valV, List.find?_cons, e]
theorem valV_neg {p : κ × V} {r : List (κ × V)} {k : κ} (e : ¬ p.1 = k) : valV (p :: r) k = valV r k := by simp [valV, List.find?_cons, e]
theorem valV_any (k : κ) : ∀ kvs : List (κ × V), (kvs.any fun kv => decide (kv.1 = k)) = (valV kvs k).isSome
  | [] => rfl
  | p :: r => by
    rw [List.any_cons]
    by_cases e : p.1 = k
    · simp only [valV_pos e, decide_eq_true e, Bool.true_or, Option.isSome_some]
    · rw [valV_neg e, decide_eq_false e, Bool.false_or]; exact valV_any k r
theorem RelO.isSome_eq {o : Option V} {u : Option Value} (r : RelO o u) : o.isSome = u.isSome := by
  cases o with
  | none => cases u with
    | none => rfl
    | some _ => exact (show False from r).elim
  | some _ => cases u with
    | none => exact (show False from r).elim
    | some _ => rfl
theorem RelO.getD {o : Option V} {u : Option Value} {d : V} {d' : Value} (r : RelO o u) (rd : RelV d d') : RelV (o.getD d) (u.getD d') := by
  cases o with
  | none => cases u with
    | none => exact rd
    | some _ => exact (show False from r).elim
  | some _ => cases u with
    | none => exact (show False from r).elim
    | some _ => exact r
theorem KV.val {kvs : List (κ × V)} {vs : List (κ × Value)} (r : KV kvs vs) (k : κ) : RelO (valV kvs k) (valueAt vs k) := by
  unfold KV at r
  induction r with
  | nil => exact True.intro
  | @cons p q ps qs h t ih =>
    obtain ⟨h1, h2⟩ := h
    by_cases e : p.1 = k
    · have e' : q.1 = k := h1.symm.trans e
      have b : valueAt (q :: qs) k = some q.2 := by simp [valueAt, List.find?_cons, e']
      rw [valV_pos e, b]; exact h2
    · have e' : ¬ q.1 = k := fun z => e (h1.trans z)
      have b : valueAt (q :: qs) k = valueAt qs k := by simp [valueAt, List.find?_cons, e']
      rw [valV_neg e, b]; exact ih
theorem KV.any {kvs : List (κ × V)} {vs : List (κ × Value)} (r : KV kvs vs) (k : κ) : (kvs.any fun kv => decide (kv.1 = k)) = vs.any fun kv => decide (kv.1 = k) := by
  unfold KV at r
  induction r with
  | nil => rfl
  | cons h t ih => rw [List.any_cons, List.any_cons, ih, h.1]
theorem KV.repl {kvs : List (κ × V)} {vs : List (κ × Value)} (r : KV kvs vs) (k : κ) {y : V} {u : Value} (ry : RelV y u) :
    KV (kvs.map fun kv => if kv.1 = k then (kv.1, y) else kv) (vs.map fun kv => if kv.1 = k then (kv.1, u) else kv) := by
  unfold KV at r ⊢
  induction r with
  | nil => exact .nil
  | @cons p q ps qs h t ih =>
    rw [List.map_cons, List.map_cons]
    refine .cons ?_ ih
    obtain ⟨h1, h2⟩ := h
    by_cases e : p.1 = k
    · rw [if_pos e, if_pos (h1.symm.trans e)]; exact ⟨h1, ry⟩
    · rw [if_neg e, if_neg (fun z => e (h1.trans z))]; exact ⟨h1, h2⟩
theorem KV.put {kvs : List (κ × V)} {vs : List (κ × Value)} (r : KV kvs vs) (k : κ) {y : V} {u : Value} (ry : RelV y u) : KV (putK kvs k y) (stored vs k u) := by
  unfold putK stored
  rw [r.any k]
  by_cases e : (vs.any fun kv => decide (kv.1 = k)) = true
  · rw [if_pos e, if_pos e]; exact r.repl k ry
  · rw [if_neg e, if_neg e]; exact Paired.snoc r ⟨rfl, ry⟩
theorem KV.drop {kvs : List (κ × V)} {vs : List (κ × Value)} (r : KV kvs vs) (k : κ) : KV (dropK kvs k) (without vs k) := by
  unfold KV at r ⊢
  unfold dropK without
  induction r with
  | nil => exact .nil
  | @cons p q ps qs h t ih =>
    obtain ⟨h1, h2⟩ := h
    rw [List.filter_cons, List.filter_cons]
    by_cases e : p.1 = k
    · have a : ¬ decide (p.1 ≠ k) = true := by simp [e]
      have b : ¬ decide (q.1 ≠ k) = true := by simp [h1.symm.trans e]
      rw [if_neg a, if_neg b]; exact ih
    · have e' : ¬ q.1 = k := fun z => e (h1.trans z)
      have a : decide (p.1 ≠ k) = true := by simp [e]
      have b : decide (q.1 ≠ k) = true := by simp [e']
      rw [if_pos a, if_pos b]; exact .cons ⟨h1, h2⟩ ih
theorem KV.length {kvs : List (κ × V)} {vs : List (κ × Value)} (r : KV kvs vs) : kvs.length = vs.length := Paired.length r
end
abbrev KT (H : Hp) : List (List Key × V) → List (List Key × Addr × Value) → Prop := Paired fun p q => p.1 = q.1 ∧ H q.2.1 = some (.tup (p.1.map kV)) ∧ RelV p.2 q.2.2
theorem KT.val {H : Hp} {kvs : List (List Key × V)} {xs : List (List Key × Addr × Value)} (r : KT H kvs xs) (k : List Key) : RelO (valV kvs k) ((atKey xs k).map (·.2)) := by
  induction r with
  | nil => exact True.intro
  | @cons p q ps qs h t ih =>
    obtain ⟨h1, _, h2⟩ := h
    by_cases e : p.1 = k
    · have e' : q.1 = k := h1.symm.trans e
      have b : atKey (q :: qs) k = some q.2 := by simp [atKey, List.find?_cons, e']
      rw [valV_pos e, b]; exact h2
    · have e' : ¬ q.1 = k := fun z => e (h1.trans z)
      have b : atKey (q :: qs) k = atKey qs k := by simp [atKey, List.find?_cons, e']
      rw [valV_neg e, b]; exact ih
theorem KT.repl {H : Hp} {kvs : List (List Key × V)} {xs : List (List Key × Addr × Value)} (r : KT H kvs xs) (k : List Key) {y : V} {u : Value} (ry : RelV y u) :
    KT H (kvs.map fun kv => if kv.1 = k then (kv.1, y) else kv) (xs.map (putAt k u)) := by
  induction r with
  | nil => exact .nil
  | @cons p q ps qs h t ih =>
    rw [List.map_cons, List.map_cons]
    refine .cons ?_ ih
    obtain ⟨h1, h2, h3⟩ := h
    unfold putAt
    by_cases e : p.1 = k
    · rw [if_pos e, if_pos (h1.symm.trans e)]; exact ⟨h1, h2, ry⟩
    · rw [if_neg e, if_neg (fun z => e (h1.trans z))]; exact ⟨h1, h2, h3⟩
theorem KT.put {H : Hp} {kvs : List (List Key × V)} {xs : List (List Key × Addr × Value)} (r : KT H kvs xs) (k : List Key) {b : Addr} {y : V} {u : Value} (hb : H b = some (.tup (k.map kV))) (ry : RelV y u) :
    KT H (putK kvs k y) (storedH xs k b u) := by
  have e : (kvs.any fun kv => decide (kv.1 = k)) = (atKey xs k).isSome := by
    rw [valV_any, (r.val k).isSome_eq, Option.isSome_map]
  unfold putK storedH
  rw [e]
  by_cases q : (atKey xs k).isSome = true
  · rw [if_pos q, if_pos q]; exact r.repl k ry
  · rw [if_neg q, if_neg q]; exact Paired.snoc r ⟨rfl, hb, ry⟩
theorem KT.keeps {H H' : Hp} {kvs : List (List Key × V)} {xs : List (List Key × Addr × Value)} (r : KT H kvs xs) (ht : ∀ b ys, H b = some (.tup ys) → H' b = some (.tup ys)) : KT H' kvs xs :=
  Paired.mapP r fun _ _ z => ⟨z.1, ht _ _ z.2.1, z.2.2⟩
section
variable {P : Program} {w : World} {H : Hp} {h : Heap} {a : Addr}
end
def DGet (H : Hp) (a : Addr) (y : V) (r : Option V) : Prop :=
  (∃ kvs k, Rd H a (.dK kvs) ∧ y = kV k ∧ r = valV kvs k) ∨ ∃ kvs k b, Rd H a (.dT kvs) ∧ y = .ref b ∧ H b = some (.tup (k.map kV)) ∧ r = valV kvs k
def DPut (H : Hp) (a : Addr) (y v : V) (H' : Hp) : Prop :=
  (∃ kvs k, H a = some (.dK kvs) ∧ y = kV k ∧ kvs.length < sizeLine ∧ H' = upd H a (.dK (putK kvs k v))) ∨
  ∃ kvs k b, H a = some (.dT kvs) ∧ y = .ref b ∧ H b = some (.tup (k.map kV)) ∧ kvs.length < sizeLine ∧ H' = upd H a (.dT (putK kvs k v))
theorem DGet.k {H : Hp} {a : Addr} {kvs : List (Key × V)} {k : Key} (e : H a = some (.dK kvs)) : DGet H a (kV k) (valV kvs k) := .inl ⟨kvs, k, .inl e, rfl, rfl⟩
theorem DGet.t {H : Hp} {a b : Addr} {kvs : List (List Key × V)} {k : List Key} (e : H a = some (.dT kvs)) (eb : H b = some (.tup (k.map kV))) : DGet H a (.ref b) (valV kvs k) := .inr ⟨kvs, k, b, .inl e, rfl, eb, rfl⟩
theorem DPut.k {H : Hp} {a : Addr} {kvs : List (Key × V)} {k : Key} {v : V} (e : H a = some (.dK kvs)) (hl : kvs.length < sizeLine) : DPut H a (kV k) v (upd H a (.dK (putK kvs k v))) := .inl ⟨kvs, k, e, rfl, hl, rfl⟩
theorem DPut.t {H : Hp} {a b : Addr} {kvs : List (List Key × V)} {k : List Key} {v : V} (e : H a = some (.dT kvs)) (eb : H b = some (.tup (k.map kV))) (hl : kvs.length < sizeLine) :
    DPut H a (.ref b) v (upd H a (.dT (putK kvs k v))) := .inr ⟨kvs, k, b, e, rfl, eb, hl, rfl⟩
section
variable {X : Cx} {pins : List (Addr × Obj)} {σ : St} {H : Hp} {s : Shared} {a : Addr} {y v : V} {u r : Value} {o : Option V} {A : Around} {E : Value → Shared → Prop}
end
section
variable {X : Cx} {pins : List (Addr × Obj)} {σ : St} {H : Hp} {s : Shared} {a : Addr} {kvs : List (Key × V)} {k : Key} {u : Value} {A : Around} {E : Value → Shared → Prop}
end
def tDGet (td ty : TE) : TE := fun σ H Q => td σ H fun x H1 => ty σ H1 fun y H2 => ∃ a v, x = .ref a ∧ DGet H2 a y (some v) ∧ Q v H2
def tDIn (ty td : TE) : TE := fun σ H Q => ty σ H fun y H1 => td σ H1 fun x H2 => ∃ a o, x = .ref a ∧ DGet H2 a y o ∧ Q (.bl o.isSome) H2
def tDNotIn (ty td : TE) : TE := fun σ H Q => ty σ H fun y H1 => td σ H1 fun x H2 => ∃ a o, x = .ref a ∧ DGet H2 a y o ∧ Q (.bl (!o.isSome)) H2
def sDPut (td ty tv : TE) : TS := fun D σ H => tv σ H fun v H1 => td σ H1 fun x H2 => ty σ H2 fun y H3 => ∃ a H4, x = .ref a ∧ DPut H3 a y v H4 ∧ D.nx σ H4
section
variable {X : Cx} {o i e value : Expr} {pos pos' tpos : Pos} {td ty tv : TE}
end
def tDNewK : TE := fun _ H Q => ∀ p, H p = none → Q (.ref p) (upd H p (.dK []))
section
variable {X : Cx} {pos : Pos}
end
structure M1 (X : Cx) (o : Expr) (m : Str) (apos : Pos) (e : Expr) (cpos : Pos) : Prop where
  base : attributeBase o m X.env (eval o X.env) = eval o X.env
  few : ((backTo cpos (starEach [e] X.env)).all (fun x => !x.1) && (backToKw cpos (keywordEach [] X.env)).all (fun x => x.1.isSome)
    && decide (([e] : List Expr).length + ([] : List Keyword).length + (if ([] : List Keyword).isEmpty then 0 else 1) < 30)) = true
  line : (apos.endLine == cpos.line) = true
  trees : backTo cpos (starEach [e] X.env) = [(false, eval e X.env)]
structure M2 (X : Cx) (o : Expr) (m : Str) (apos : Pos) (e f : Expr) (cpos : Pos) : Prop where
  base : attributeBase o m X.env (eval o X.env) = eval o X.env
  few : ((backTo cpos (starEach [e, f] X.env)).all (fun x => !x.1) && (backToKw cpos (keywordEach [] X.env)).all (fun x => x.1.isSome)
    && decide (([e, f] : List Expr).length + ([] : List Keyword).length + (if ([] : List Keyword).isEmpty then 0 else 1) < 30)) = true
  line : (apos.endLine == cpos.line) = true
  trees : backTo cpos (starEach [e, f] X.env) = [(false, eval e X.env), (false, eval f X.env)]
def IsDic (H : Hp) (a : Addr) : Prop := (∃ kvs, Rd H a (.dK kvs)) ∨ ∃ kvs, Rd H a (.dT kvs)
section
variable {X : Cx} {pins : List (Addr × Obj)} {σ : St} {H : Hp} {s : Shared} {a : Addr} {y d : V} {u r : Value} {o : Option V} {A : Around} {E : Value → Shared → Prop}
end
def tDGet1 (td ty : TE) : TE := fun σ H Q => td σ H fun x H1 => ∃ a, x = .ref a ∧ IsDic H1 a ∧ ty σ H1 fun y H2 => ∃ o, DGet H2 a y o ∧ Q (o.getD .non) H2
def tDGet2 (td ty tx : TE) : TE := fun σ H Q => td σ H fun x H1 => ∃ a, x = .ref a ∧ IsDic H1 a ∧ ty σ H1 fun y H2 => tx σ H2 fun z H3 => ∃ o, DGet H3 a y o ∧ Q (o.getD z) H3
def tDPop1 (td ty : TE) : TE := fun σ H Q => td σ H fun x H1 => ∃ a, x = .ref a ∧ IsDic H1 a ∧ ty σ H1 fun y H2 => ∃ kvs k v, H2 a = some (.dK kvs) ∧ y = kV k ∧ valV kvs k = some v ∧ Q v (upd H2 a (.dK (dropK kvs k)))
def tDPop2 (td ty tx : TE) : TE := fun σ H Q => td σ H fun x H1 => ∃ a, x = .ref a ∧ IsDic H1 a ∧ ty σ H1 fun y H2 => tx σ H2 fun z H3 => ∃ kvs k, H3 a = some (.dK kvs) ∧ y = kV k ∧
  (∀ v, valV kvs k = some v → Q v (upd H3 a (.dK (dropK kvs k)))) ∧ (valV kvs k = none → Q z H3)
section
variable {X : Cx} {o e f : Expr} {apos cpos : Pos} {td ty tx : TE}
end
section
variable {X : Cx} {pins : List (Addr × Obj)} {σ : St} {H : Hp} {s : Shared} {a : Addr} {kvs : List (Key × V)} {A : Around} {E : Value → Shared → Prop}
end
section
variable {X : Cx} {pins : List (Addr × Obj)} {σ : St} {H : Hp} {s : Shared} {a : Addr} {y : V} {u : Value} {A : Around} {E : Value → Shared → Prop}
end
end L2
namespace L2
open PySem PySem.Spec PyProof.Rows
section
variable {X : Cx}
end
section
variable {κ : Type} [DecidableEq κ]
end
end L2
namespace L2
open PySem PySem.Spec PyProof.Rows
theorem bt_any : bootBuiltins "any" = some (.builtin "any") := by decide +kernel
theorem bt_all : bootBuiltins "all" = some (.builtin "all") := by decide +kernel
theorem KV.get : ∀ {kvs : List (Key × V)} {vs : List (Key × Value)} {i : Nat} {p : Key × V} {q : Key × Value}, KV kvs vs → kvs[i]? = some p → vs[i]? = some q → p.1 = q.1
  | _, _, _, _, _, .nil, h, _ => by simp at h
  | _, _, 0, _, _, .cons r _, h, h' => by
    simp at h h'
    subst h h'
    exact r.1
  | _, _, i + 1, _, _, .cons _ t, h, h' => KV.get (i := i) t (by simpa using h) (by simpa using h')
section
variable {X : Cx}
end
section
variable {X : Cx} {pins : List (Addr × Obj)} {σ : St} {H : Hp} {s : Shared} {a : Addr} {kvs : List (Key × V)} {o : Obj}
def Thaw (H₀ : Hp) (a : Addr) (kvs : List (Key × V)) (H H' : Hp) : Prop := (∀ o u, H₀ a ≠ some (.frz o u)) ∧ (∃ o, H a = some (.frz o (.dK kvs))) ∧ H' = upd H a (.dK kvs)
end
def Itd (a : Addr) (o : Obj) (kvs : List (Key × V)) : It :=
  ⟨fun i H => i < kvs.length ∧ H a = some (.frz o (.dK kvs)), fun i H x H' => H' = H ∧ ∃ kv, kvs[i]? = some kv ∧ x = kV kv.1, fun i H => kvs.length ≤ i ∧ H a = some (.frz o (.dK kvs))⟩
def iDict (tl : TE) : TI := fun σ H R => tl σ H fun x H1 => ∃ a kvs, x = .ref a ∧ H1 a = some (.dK kvs) ∧ ∀ o, R (Itd a o kvs) (upd H1 a (.frz o (.dK kvs)))
def thawE (H₀ : Hp) (D : Ends) : Ends := { nx := fun σ H => D.nx σ H ∨ ∃ a kvs H', Thaw H₀ a kvs H H' ∧ D.nx σ H', rt := fun v H => D.rt v H ∨ ∃ a kvs H', Thaw H₀ a kvs H H' ∧ D.rt v H', bk := D.bk, ct := D.ct }
def tThaw (H₀ : Hp) (t : TS) : TS := fun D σ H => t (thawE H₀ D) σ H
end L2
namespace L2
open PySem PySem.Spec PyProof.Rows
section
variable {prog : Program} {w : World} {A : Around} {E : Value → Shared → Prop} {s : Shared}
end
section
variable {X : Cx}
end
section
variable {X : Cx}
end
end L2
namespace L2
open PySem PySem.Spec PyProof.Rows
section
variable {X : Cx}
end
end L2
namespace L2
open PySem PySem.Spec PyProof.Rows
def thawV (H₀ : Hp) (Q : VK) : VK := fun v H => Q v H ∨ ∃ a kvs H', Thaw H₀ a kvs H H' ∧ Q v H'
def tThawV (H₀ : Hp) (t : TE) : TE := fun σ H Q => t σ H (thawV H₀ Q)
section
variable {a D : Addr} {o : Obj} {kvs : List (Key × V)} {fr : List Nat} {tt : TT} {te : TE} {σ : St} {H : Hp} {Q : Hp → Prop}
end
end L2
namespace L2
open PySem PySem.Spec PyProof.Rows
section
variable {X : Cx}
end
end L2
namespace L2
open PySem PySem.Spec PyProof.Rows
section
variable {X : Cx}
end
end L2
namespace L2
open PySem PySem.Spec PyProof.Rows
theorem FnOk.no {P : Program} {w : World} {K : PySem.W.Frag} {mg : Str → Option Value} {base : Heap} {CX : CXT} {k : Nat} {f : Addr} {fd : FuncData} {ps : List Str} : FnOk P w K mg base CX k f fd ps (fun _ _ _ _ => False) :=
  ⟨fun _ _ _ _ h => h.elim, fun _ _ _ _ _ _ _ _ _ _ => by
    intros
    exact False.elim (by assumption)⟩
def tyD : D → String
  | .non => "NoneType"
  | .bl _ => "bool"
  | .int _ => "int"
  | .str _ => "str"
  | .lst _ => "list"
  | .tup _ => "tuple"
theorem IsD.ty {K : PySem.W.Frag} {H : Hp} {x : V} {d : D} (h : IsD K H x d) : TyS K H x (.type (tyD d)) := by
  cases h with
  | non => exact .ty .non
  | bl b => exact .ty (.bl b)
  | int i => exact .ty (.int i)
  | str x => exact .ty (.str x)
  | lst h _ _ => exact .lst h
  | tup h _ _ => exact .tup h
end L2
namespace L2
open PySem PySem.Spec PyProof.Rows
open AutoSeq1 (wpAny_loadPart')
section
variable {X : Cx}
end
section
variable {prog : Program} {w : World} {A : Around} {E : Value → Shared → Prop} {s : Shared}
end
section
variable {X : Cx}
end
section
variable {prog : Program} {w : World} {A : Around} {E : Value → Shared → Prop} {s : Shared}
end
section
variable {X : Cx}
def iEnum0 (K : PySem.W.Frag) (tl : TE) : TI := fun σ H R => tl σ H fun x H1 => ∃ a : Addr, x = .ref a ∧ (∃ xs, SqL K H1 a xs) ∧ R (Ite K a 0) H1
end
end L2
namespace L2
open PySem PySem.Spec PyProof.Rows
def lcSlots2 (fr : List Nat) (σ : St) (v v2 : Option V) : St := v :: v2 :: fr.map fun j => (σ[j]?).join
structure LcOk2 (X : Cx) (x x2 : Str) (ns : List Str) (fr : List Nat) (scope : Scope) (cl : List (Str × Addr)) : Prop where
  clos : closureFor scope X.env = pure cl
  nocell : ∀ y ∈ scope.names, y.2 ≠ .cell
  kind : scope.kind = .function
  own : ∀ y ∈ scope.names, y.2 = .local → scope.names.lookup y.1 = some .local
  var : scope.names.lookup x = some .local
  var2 : scope.names.lookup x2 = some .local
  sub : ∀ z c, cl.lookup z = some c → X.env.cells.lookup z = some c
  has : ∀ z, ((relabel scope X.env).names.lookup z = some .cell ∨ (relabel scope X.env).names.lookup z = some .free) → ∃ c, cl.lookup z = some c
  len : ns.length = fr.length
  from_ : ∀ (k : Nat) z j, ns[k]? = some z → fr[k]? = some j → X.N[j]? = some z ∧ X.env.scope.names.lookup z = some .cell ∧ ((relabel scope X.env).names.lookup z = some .cell ∨ (relabel scope X.env).names.lookup z = some .free)
  nd : (x :: x2 :: ns).Nodup
def lcLoop2 (K : PySem.W.Frag) (J : It) (fr : List Nat) (tt : TT) (te : TE) (σ : St) (D : Addr) (Q : Hp → Prop) (H : Hp) : Prop :=
  ∃ W : Nat → Nat → Hp → Prop, (∃ m, W 0 m H) ∧ ∀ i m H2, W i m H2 → (J.stop i H2 ∧ Q H2) ∨ (J.go i H2 ∧ ∀ v H', J.yld i H2 v H' → ∃ t va vb, v = .ref t ∧ SqT K H' t [va, vb] ∧ tt (lcSlots2 fr σ (some va) (some vb)) H' fun b H3 =>
    if b = true then te (lcSlots2 fr σ (some va) (some vb)) H3 fun y H4 => ∃ ys, H4 D = some (.lst ys) ∧ ys.length < sizeLine ∧ ∃ m', m' < m ∧ W (i + 1) m' (upd H4 D (.lst (ys ++ [y]))) else ∃ m', m' < m ∧ W (i + 1) m' H3)
section
variable {X : Cx} {pins : List (Addr × Obj)} {σ : St} {H : Hp} {s : Shared} {x x2 : Str} {ns : List Str} {fr : List Nat} {scope : Scope} {cl : List (Str × Addr)} {fp : List Addr}
theorem lc_ok2 (I : Inv X pins σ H s) (L : LcOk2 X x x2 ns fr scope cl) (hf : ∀ b ∈ fp, FpOk X pins H b) (ho : ∀ b ∈ fp, b < s.heap.objs.size) : (cxLc X (x :: x2 :: ns) scope cl s.heap.objs.size s H fp).Ok where
  mod := I.ok.mod
  kind := L.kind
  glob := I.ok.glob
  blt := I.ok.blt
  above := Nat.le_refl _
  inj := fun a b c h1 h2 => I.ok.inj a b c (L.sub a c h1) (L.sub b c h2)
  has := fun z h => L.has z h
  cab := fun _ _ h => nomatch h
  hd := I.ok.hd
  frames := I.ok.frames
  stk := .inl rfl
  exf := fun b hb => ⟨Nat.ne_of_lt (ho b hb), fun z c h => (hf b hb).2.2.2.2.1 z c (L.sub z c h)⟩
  bs := I.bs
  bsz := Nat.le_trans I.ok.bsz I.sz
  noex := fun b o e hb => by
    rcases (hf b hb).2.2.2.1 with h | h
    · exact I.ok.noex b o e h
    · exact absurd (Nat.lt_of_lt_of_le (Heap.lt_size e) (Nat.le_trans I.ok.bsz h)) (Nat.lt_irrefl _)
  exfs := fun b hb hs => by
    rcases List.mem_cons.mp (I.stkSub b hs) with h | h
    · exact (hf b hb).2.1 h
    · exact (hf b hb).2.2.1 h
  funs := I.stack
  frf := I.stkFree
theorem lc_slot2 {fr : List Nat} {σ : St} {v v2 : Option V} {k : Nat} {u : V} (h : (lcSlots2 fr σ v v2)[k + 2]? = some (some u)) : ∃ j, fr[k]? = some j ∧ σ[j]? = some (some u) := by
  unfold lcSlots2 at h
  rw [List.getElem?_cons_succ, List.getElem?_cons_succ, List.getElem?_map] at h
  cases e : fr[k]? with
  | none => rw [e] at h; cases h
  | some j =>
    rw [e] at h
    refine ⟨j, rfl, ?_⟩
    cases e2 : σ[j]? with
    | none => simp [e2] at h
    | some o => simp [e2] at h; rw [h]
theorem lc_start2 {h' : Heap} {t' : Nat} (I : Inv X pins σ H s) (L : LcOk2 X x x2 ns fr scope cl) (hf : ∀ b ∈ fp, FpOk X pins H b) (ho : ∀ b ∈ fp, b < s.heap.objs.size)
    (hn : h'.Ns s.heap.objs.size fun _ => none) (hk : ∀ b o, s.heap.get? b = some o → h'.get? b = some o) :
    Inv (cxLc X (x :: x2 :: ns) scope cl s.heap.objs.size s H fp) [] (lcSlots2 fr σ none none) H { s with heap := h', toks := t' } where
  ok := lc_ok2 I L hf ho
  os := rfl
  bare := I.bare
  base := Un.kept hk
  loc := by
    refine ⟨_, hn, fun i z v e1 e2 e3 => ?_⟩
    match i, e1, e2 with
    | 0, _, e2 => cases e2
    | 1, _, e2 => cases e2
    | k + 2, e1, e2 =>
      have e1' : ns[k]? = some z := e1
      obtain ⟨j, ej, ev⟩ := lc_slot2 e2
      obtain ⟨hN, hc, hy⟩ := L.from_ k z j e1' ej
      obtain ⟨m, hm, hl⟩ := I.loc
      obtain ⟨u, r, l⟩ := hl j z v hN ev (.inr (.inl hc))
      refine ⟨u, r, .inr ⟨hy, ?_⟩⟩
      rcases l with ⟨l, _⟩ | ⟨_, c, hcl, ⟨o, ho2, hd⟩⟩
      · have : X.env.scope.names.lookup z = some .local := l
        rw [hc] at this
        cases this
      · obtain ⟨c', hc'⟩ := L.has z hy
        have e := L.sub z c' hc'
        rw [hcl] at e
        cases e
        exact ⟨c, hc', o, hk c o ho2, hd⟩
  cell := fun z c e => by
    obtain ⟨v, o, ho2, hd⟩ := I.cell z c (L.sub z c e)
    exact ⟨v, o, hk c o ho2, hd⟩
  free := I.fresh
  freeC := fun z c e => I.freeC z c (L.sub z c e)
  pin := fun p hp => nomatch hp
  hok := I.hok.kept hk
  len := by
    show (lcSlots2 fr σ none none).length = (x :: x2 :: ns).length
    unfold lcSlots2
    rw [List.length_cons, List.length_cons, List.length_map, List.length_cons, List.length_cons, L.len]
theorem lc_block2 {elt iter : Expr} {px px2 tp : Pos} {kt : Nat} {ifs : List Expr} {pos : Pos} {J : It} {it D : Addr} {tn : Nat → Heap → Prop} {tt : TT} {te : TE} {Qe : Hp → Prop} {R : Result → Shared → Prop} {s4 : Shared}
    (hc : X.calm = true) (L : LcOk2 X x x2 ns fr scope cl) (T : Turn X.prog X.w X.K (.Tuple [.Name x px, .Name x2 px2] kt tp) J fp it tn) (hf : ∀ b ∈ fp, FpOk X pins H b) (ho : ∀ b ∈ fp, b < s.heap.objs.size) (I : Inv X pins σ H s)
    (hE : PE (cxLc X (x :: x2 :: ns) scope cl s.heap.objs.size s H fp) elt te) (hT : LcIf (PT (cxLc X (x :: x2 :: ns) scope cl s.heap.objs.size s H fp)) ifs tt) (hw : lcLoop2 X.K J fr tt te σ D Qe H)
    (I4 : Inv (cxLc X (x :: x2 :: ns) scope cl s.heap.objs.size s H fp) [] (lcSlots2 fr σ none none) H s4) (st4 : tn 0 s4.heap)
    (hR : ∀ (s' : Shared) (H' : Hp) (v v2 : Option V), Inv (cxLc X (x :: x2 :: ns) scope cl s.heap.objs.size s H fp) [] (lcSlots2 fr σ v v2) H' s' → Qe H' → R (.ok .next) s') :
    codeAny (model X.prog X.w) X.A (.compStart (.ListComp elt [⟨.Tuple [.Name x px, .Name x2 px2] kt tp, iter, ifs, 0⟩] scope pos) 0 (.ref it) (.ref D) (compEnvC scope cl s.heap.objs.size X.env)) R s4 := by
  obtain ⟨W, ⟨m0, w0⟩, turn⟩ := hw
  have okY := lc_ok2 I L hf ho
  have hxl : Loc (cxLc X (x :: x2 :: ns) scope cl s.heap.objs.size s H fp).env.scope x := .inl (lookup_relabel_local L.var)
  have stat : ∀ {H' : Hp}, (∀ b ∈ fp, H' b = none) → ∀ b ∈ fp, FpOk (cxLc X (x :: x2 :: ns) scope cl s.heap.objs.size s H fp) [] H' b := fun hn b hb =>
    ⟨hn b hb, (okY.exf b hb).1, okY.exfs b hb, .inl hb, (okY.exf b hb).2, fun p hp => nomatch hp⟩
  have fr0 : ∀ b ∈ fp, H b = none := fun b hb => (hf b hb).1
  have loop : codeAny (model X.prog X.w) X.A (.compLoop (.ListComp elt [⟨.Tuple [.Name x px, .Name x2 px2] kt tp, iter, ifs, 0⟩] scope pos) 0 (.ref it) (.ref D) (compEnvC scope cl s.heap.objs.size X.env)) R s4 := by
    refine codeAny_loop rfl (fun n s' => ∃ i v v2 H', Inv (cxLc X (x :: x2 :: ns) scope cl s.heap.objs.size s H fp) [] (lcSlots2 fr σ v v2) H' s' ∧ tn i s'.heap ∧ (∀ b ∈ fp, H' b = none) ∧ W i n H') (fun n s3 hI => ?_) m0 ⟨0, none, none, H, I4, st4, fr0, w0⟩
    obtain ⟨i, v0, v02, H3, I3, st3, fr3, w3⟩ := hI
    show wpAny _ X.A ((compTurn (.ListComp elt [⟨.Tuple [.Name x px, .Name x2 px2] kt tp, iter, ifs, 0⟩] scope pos) 0 (.ref it) (.ref D) (compEnvC scope cl s.heap.objs.size X.env)).onRaise (fun y => do noteFrame y (compEnvC scope cl s.heap.objs.size X.env); theTreesLotGoes y)) _ _ s3
    refine wpAny_noted ?_
    rw [compTurn_list]
    have low : ∀ {α : Type} {t : Sem α} {Q Q' : α → Shared → Prop} {E : Value → Shared → Prop} {s5 : Shared}, wpAny (model X.prog X.w) X.A t Q (fun _ _ => False) s5 → (∀ a s6, Q a s6 → Q' a s6) → wpAny (model X.prog X.w) X.A t Q' E s5 :=
      fun h hq => wpAny_mono h hq fun _ _ z => z.elim
    rcases turn i n H3 w3 with ⟨stop, q⟩ | ⟨go, step⟩
    · refine wpAny_bind (wpAny_standAt (wpAny_bind (low (T.done (cxLc X (x :: x2 :: ns) scope cl s.heap.objs.size s H fp) rfl rfl rfl hc i [] s3 _ H3 (fun _ _ => False) I3 (stat fr3) st3 stop) fun r s5 hr => ?_)))
      obtain ⟨hr, I5⟩ := hr
      subst hr
      exact wpAny_pure (hR s5 H3 v0 v02 I5 q)
    · refine wpAny_bind (wpAny_standAt (wpAny_bind (low (T.item (cxLc X (x :: x2 :: ns) scope cl s.heap.objs.size s H fp) rfl rfl rfl hc i [] s3 _ H3 (fun _ _ => False) I3 (stat fr3) st3 go) fun r s5 hr => ?_)))
      obtain ⟨u, hr, h5⟩ := hr
      subst hr
      refine wpAny_bind (low h5 fun _ s6 h6 => ?_)
      obtain ⟨y, H6, I6, r6, y6, st6, fr6⟩ := h6
      have I6' := I6.pinned (stat fr6) (T.obj _ _ st6)
      obtain ⟨t, va, vb, ey, hsq, hstep⟩ := step y _ y6
      subst ey
      have hxl2 : Loc (cxLc X (x :: x2 :: ns) scope cl s.heap.objs.size s H fp).env.scope x2 := .inl (lookup_relabel_local L.var2)
      have hg : PG (cxLc X (x :: x2 :: ns) scope cl s.heap.objs.size s H fp) (.Tuple [.Name x px, .Name x2 px2] kt tp) (gTup X.K 2 (gCons (gName 0) (gCons (gName 1) gNil))) :=
        pg_tup (X := cxLc X (x :: x2 :: ns) scope cl s.heap.objs.size s H fp) hc (pgs_cons (pg_name (i := 0) L.nd rfl hxl (.inr (lookup_relabel_local L.var))) (pgs_cons (pg_name (i := 1) L.nd rfl hxl2 (.inr (lookup_relabel_local L.var2))) pgs_nil))
      refine wpAny_bind (low (hg _ s6 _ H6 (.ref t) u (fun σ' H' => σ' = lcSlots2 fr σ (some va) (some vb) ∧ H' = H6) I6' r6 ⟨t, [va, vb], rfl, hsq, rfl, va, [vb], rfl, vb, [], rfl, rfl, rfl, rfl⟩) fun _ s7 h7 => ?_)
      obtain ⟨σ7, H7, I7, e7, e7'⟩ := h7
      subst e7 e7'
      have back : ∀ {H8 : Hp} {s8 : Shared}, Inv (cxLc X (x :: x2 :: ns) scope cl s.heap.objs.size s H fp) ([] ++ pinsAt fp s6.heap) (lcSlots2 fr σ (some va) (some vb)) H8 s8 → (∃ m', m' < n ∧ W (i + 1) m' H8) →
          ∃ m, m < n ∧ ∃ i v v2 H', Inv (cxLc X (x :: x2 :: ns) scope cl s.heap.objs.size s H fp) [] (lcSlots2 fr σ v v2) H' s8 ∧ tn i s8.heap ∧ (∀ b ∈ fp, H' b = none) ∧ W i m H' := fun {H8 s8} I8 hm => by
        obtain ⟨m', hm, w8⟩ := hm
        refine ⟨m', hm, i + 1, some va, some vb, H8, I8.unpinned, T.keep _ _ _ st6 fun b hb o e => (I8.pin (b, o) (List.mem_append_right _ (List.mem_append_right _ (mem_pinsAt hb e)))).1, fun b hb => ?_, w8⟩
        obtain ⟨o, e, d⟩ := T.obj _ _ st6 b hb
        exact (I8.pin (b, o) (List.mem_append_right _ (List.mem_append_right _ (mem_pinsAt hb e)))).2.1
      have emit : ∀ {H8 : Hp} {s8 : Shared}, Inv (cxLc X (x :: x2 :: ns) scope cl s.heap.objs.size s H fp) ([] ++ pinsAt fp s6.heap) (lcSlots2 fr σ (some va) (some vb)) H8 s8 →
          te (lcSlots2 fr σ (some va) (some vb)) H8 (fun y H4 => ∃ ys, H4 D = some (.lst ys) ∧ ys.length < sizeLine ∧ ∃ m', m' < n ∧ W (i + 1) m' (upd H4 D (.lst (ys ++ [y])))) →
          wpAny (model X.prog X.w) X.A (do let _ ← call (.builtin "list.append") [.ref D, ← eval elt (compEnvC scope cl s.heap.objs.size X.env)]) (fun _ s9 => ∃ m, m < n ∧ ∃ i v v2 H', Inv (cxLc X (x :: x2 :: ns) scope cl s.heap.objs.size s H fp) [] (lcSlots2 fr σ v v2) H' s9 ∧ tn i s9.heap ∧ (∀ b ∈ fp, H' b = none) ∧ W i m H') (fun _ _ => False) s8 := fun {H8 s8} I8 h8 => by
        refine wpAny_bind (thn (hE _ s8 _ H8 _ I8 h8) fun v9 s9 h9 => ?_)
        obtain ⟨z, H9, I9, r9, ys, hD, hlen, hm⟩ := h9
        refine wpAny_bind (thn (mt_append (X := cxLc X (x :: x2 :: ns) scope cl s.heap.objs.size s H fp) _ s9 _ H9 (.ref D) [z] (.ref D) [v9] (fun _ H' => ∃ m', m' < n ∧ W (i + 1) m' H') I9 rfl (.cons r9 .nil) ⟨D, ys, z, rfl, rfl, hD, hlen, hm⟩) fun v10 s10 h10 => ?_)
        obtain ⟨_, H10, I10, _, hm10⟩ := h10
        exact wpAny_pure (back I10 hm10)
      cases hT with
      | nil =>
        refine wpAny_bind (wpAny_tests_nil ?_)
        refine wpAny_bind (low (emit I7 (iteT_inv hstep)) fun _ s9 h9 => wpAny_pure ⟨rfl, h9⟩)
      | one hP =>
        refine wpAny_bind (wpAny_tests_one (low (hP _ s7 _ _ _ I7 hstep) fun b s8 h8 => ?_))
        obtain ⟨H8, I8, q8⟩ := h8
        cases b with
        | false =>
          have q9 : ∃ m', m' < n ∧ W (i + 1) m' H8 := q8
          exact wpAny_pure ⟨rfl, back I8 q9⟩
        | true =>
          exact wpAny_bind (low (emit I8 q8) fun _ s9 h9 => wpAny_pure ⟨rfl, h9⟩)
  exact codeAny_compStart_list loop (T.self X.A 0 _ _ _ st4 loop)
theorem lc_after2 {s' : Shared} {H' : Hp} {σ' : St} (I : Inv X pins σ H s) (hf : ∀ b ∈ fp, FpOk X pins H b) (I' : Inv (cxLc X (x :: x2 :: ns) scope cl s.heap.objs.size s H fp) [] σ' H' s') : Inv X pins σ H' s' :=
  I.call' (ch := fp) I'.os I'.base I'.hok I'.bare fun b hb => ⟨(hf b hb).2.2.2.1, (hf b hb).2.1, (hf b hb).2.2.2.2.1, (hf b hb).2.2.2.2.2⟩
theorem lc_run2 {elt iter : Expr} {px px2 tp : Pos} {kt : Nat} {ifs : List Expr} {pos : Pos} {J : It} {it : Addr} {tn : Nat → Heap → Prop} {tt : TT} {te : TE} {Qe : Addr → Hp → Prop} {R : Value → Addr → Result → Shared → Prop} {E : Value → Shared → Prop}
    (hc : X.calm = true) (L : LcOk2 X x x2 ns fr scope cl) (T : Turn X.prog X.w X.K (.Tuple [.Name x px, .Name x2 px2] kt tp) J fp it tn) (hf : ∀ b ∈ fp, FpOk X pins H b) (I : Inv X pins σ H s) (st : tn 0 s.heap)
    (hE : ∀ C s H, PE (cxLc X (x :: x2 :: ns) scope cl C s H fp) elt te) (hT : ∀ C s H, LcIf (PT (cxLc X (x :: x2 :: ns) scope cl C s H fp)) ifs tt) (hw : ∀ D, H D = none → lcLoop2 X.K J fr tt te σ D (Qe D) (upd H D (.lst [])))
    (hR : ∀ (D C : Addr) (s' : Shared) (H' : Hp), Inv X pins σ H' s' → Qe D H' → (∃ m o, s'.heap.get? C = some o ∧ (∀ v, o.data ≠ .cell v) ∧ ∀ h' : Heap, h'.get? C = some o → h'.Ns C m) → H' C = none → C ≠ X.env.locals → C ∉ X.fs → X.s₀.heap.objs.size ≤ C →
      (∀ z c, X.env.cells.lookup z = some c → c ≠ C) → (∀ p ∈ X.pn ++ pins, p.1 ≠ C) → R (.ref D) C (.ok .next) s') :
    wpAny (model X.prog X.w) X.A (newList []) (fun acc s₃ => wpAny (model X.prog X.w) X.A (newFunctionEnv scope X.env.globals cl [] X.env.qual none .none (some X.env)) (fun cenv s₄ =>
      codeAny (model X.prog X.w) X.A (.compStart (.ListComp elt [⟨.Tuple [.Name x px, .Name x2 px2] kt tp, iter, ifs, 0⟩] scope pos) 0 (.ref it) acc { cenv with scope := relabel scope X.env }) (R acc cenv.locals) s₄) E s₃) E s := by
  have ho : ∀ b ∈ fp, b < s.heap.objs.size := fun b hb => by
    obtain ⟨o, e, _⟩ := T.obj _ _ st b hb
    exact Heap.lt_size e
  have I3 : Inv X pins σ (upd H s.heap.objs.size (.lst [])) { s with heap := s.heap.push { cls := .type "list", dict := none, data := .seq ([] : List Value).toArray } } := I.lnew (t' := s.toks) (.nil) (Nat.zero_le _)
  refine wpAny_newObj_type (wpAny_newFunctionEnv L.nocell (by intro y hy; simp at hy) (fun h1 hns hsb => ?_) L.kind)
  dsimp only at hns hsb ⊢
  generalize hs3 : ({ s with heap := s.heap.push { cls := .type "list", dict := none, data := .seq ([] : List Value).toArray } } : Shared) = s3 at I3
  have eh : s.heap.push { cls := .type "list", dict := none, data := .seq ([] : List Value).toArray } = s3.heap := by rw [← hs3]
  rw [eh] at hns hsb ⊢
  have hz : s3.heap.objs.size = s.heap.objs.size + 1 := by rw [← eh, Heap.size_push]
  have hk : ∀ b o, s3.heap.get? b = some o → h1.get? b = some o := fun b o e => hsb.extBut b o (Nat.ne_of_lt (Heap.lt_size e)) (Heap.get?_push_of_some _ e)
  have hf3 : ∀ b ∈ fp, FpOk X pins (upd H s.heap.objs.size (.lst [])) b := fun b hb => ⟨by rw [upd_ne (Nat.ne_of_lt (ho b hb))]; exact (hf b hb).1, (hf b hb).2⟩
  have ho3 : ∀ b ∈ fp, b < s3.heap.objs.size := fun b hb => by rw [hz]; exact Nat.lt_succ_of_lt (ho b hb)
  have es : ∀ tk, ({ s with heap := h1, toks := tk } : Shared) = { s3 with heap := h1, toks := tk } := fun tk => by rw [← hs3]
  rw [es]
  have I4 := lc_start2 (t' := s.toks + ([] : List (Str × Value)).length) I3 L hf3 ho3 hns hk
  refine lc_block2 hc L T hf3 ho3 I3 (hE _ _ _) (hT _ _ _) (hw _ I.fresh) I4 ?_ fun s' H' v v2 I' q => ?_
  · refine T.keep _ _ _ st fun b hb o e => hk b o ?_
    rw [← eh]
    exact Heap.get?_push_of_some _ e
  · have IX := lc_after2 I3 hf3 I'
    obtain ⟨m, ⟨o, es', ep, ho', hd', hr'⟩, _⟩ := I'.loc
    refine hR _ _ s' H' IX q ⟨m, o, ho', fun v z => ?_, fun h' e => ⟨o, es', ep, e, hd', hr'⟩⟩ I'.free (Nat.ne_of_gt I3.lt) (I3.nofs (Nat.le_refl _)) I3.sz (fun z c e => ?_) fun p hp => ?_
    · rw [hd'] at z
      cases z
    · obtain ⟨v, o2, e2, _⟩ := I3.cell z c e
      exact Nat.ne_of_lt (Heap.lt_size e2)
    · exact Nat.ne_of_lt (Heap.lt_size (I3.pin p hp).1)
def tLc2 (K : PySem.W.Frag) (wi : TI) (fr : List Nat) (tt : TT) (te : TE) : TE := fun σ H Q => wi σ H fun J H1 => ∀ D, H1 D = none → lcLoop2 K J fr tt te σ D (fun H2 => Q (.ref D) H2) (upd H1 D (.lst []))
theorem ps_lc2 {elt iter : Expr} {y : Str} {j : Nat} {px px2 tp py pos spos : Pos} {kt : Nat} {ifs : List Expr} {wi : TI} {tt : TT} {te : TE} (hc : X.calm = true) (hN : X.N.Nodup) (hj : X.N[j]? = some y) (hy : X.env.scope.names.lookup y = some .local) (L : LcOk2 X x x2 ns fr scope cl) (hi : PI X (.Tuple [.Name x px, .Name x2 px2] kt tp) iter wi)
    (hE : ∀ C s H fp, PE (cxLc X (x :: x2 :: ns) scope cl C s H fp) elt te) (hT : ∀ C s H fp, LcIf (PT (cxLc X (x :: x2 :: ns) scope cl C s H fp)) ifs tt)
    (hsw : swapsWith (.ListComp elt [⟨.Tuple [.Name x px, .Name x2 px2] kt tp, iter, ifs, 0⟩] scope pos) (some (.Name y py)) spos.line X.env = pure true := by rfl)
    (hs : ∀ v, foldedSetIterable iter X.env v = pure v := by intro _; rfl) : PS X (.Assign [.Name y py] (.ListComp elt [⟨.Tuple [.Name x px, .Name x2 px2] kt tp, iter, ifs, 0⟩] scope pos) spos) (tAsg (tLc2 X.K wi fr tt te) (gName j)) := by
  intro pins s σ H Dn I h
  rw [exec_Assign_Name_used _ _ _ _ hsw]
  refine wpAny_bind (wpAny_standAt (wpAny_bind ?_))
  show wpAny _ X.A (do let _ ← comprehension (.ListComp elt [⟨.Tuple [.Name x px, .Name x2 px2] kt tp, iter, ifs, 0⟩] scope pos) scope X.env _ (newList []) false (eval iter X.env) (some (assign (.Name y py) X.env))) _ _ s
  refine wpAny_bind (thn (wpAny_comprehension_free (use := some (assign (.Name y py) X.env)) (Q := fun _ s' => SP X pins Dn .next s') rfl hs L.clos L.kind L.own (thn (hi pins s σ H _ I h) fun v s1 h1 => thn h1 fun itv s2 h2 => ?_)) fun _ s' q => wpAny_pure (wpAny_pure q))
  obtain ⟨it, fp, tn, J, H2, e, I2, T, st2, f2, q⟩ := h2
  subst e
  refine lc_run2 (R := fun acc C => compPost (model X.prog X.w) X.A X.xe (some (assign (.Name y py) X.env)) (fun _ s' => SP X pins Dn .next s') acc C) hc L T f2 I2 st2 (fun C s H => hE C s H fp) (fun C s H => hT C s H fp) q ?_
  intro D C s' H' I' q' hns hn hl hfs hz hcell hpin
  obtain ⟨m, o, e, hd, hk⟩ := hns
  have I'' : Inv X (pins ++ [(C, o)]) σ H' s' := I'.pins_of fun p hp => by
    rcases List.mem_append.mp hp with h | h
    · exact I'.pin p (List.mem_append_right _ h)
    · have ep : p = (C, o) := by simpa using h
      subst ep
      exact ⟨e, hn, hl, hfs, hd⟩
  refine wpAny_assign_Name (store_ok I'' hN hj (.inl hy) (show RelV (.ref D) (.ref D) from rfl) (fun s2 I2 => ?_) (.inr hy))
  obtain ⟨e2, n2, _⟩ := I2.pin (C, o) (List.mem_append_right _ (List.mem_append_right _ (List.mem_singleton.mpr rfl)))
  refine ⟨m, hk _ e2, fun h' hsb => ?_⟩
  exact ⟨σ.set j (some (.ref D)), H', I2.unpinned.turned (t' := s2.toks) (fun b o hb e => hsb.extBut b o hb e) hn hl (.inr hz) hcell hpin, q'⟩
end
section
variable {X : Cx} {x x2 : Str} {ns : List Str} {fr : List Nat} {scope : Scope} {cl : List (Str × Addr)}
theorem lcok2 (clos : closureFor scope X.env = pure cl) (nocell : scope.names.all (fun y => y.2 != .cell) = true) (kind : scope.kind = .function)
    (own : scope.names.all (fun y => y.2 != .local || scope.names.lookup y.1 == some .local) = true) (var : scope.names.lookup x = some .local) (var2 : scope.names.lookup x2 = some .local) (sub : ∀ p ∈ cl, X.env.cells.lookup p.1 = some p.2)
    (has : (relabel scope X.env).names.all (fun y => !(y.2 == .cell || y.2 == .free) || (cl.lookup y.1).isSome) = true) (len : ns.length = fr.length)
    (fr_ : ∀ p ∈ ns.zip fr, X.N[p.2]? = some p.1 ∧ X.env.scope.names.lookup p.1 = some .cell ∧ ((relabel scope X.env).names.lookup p.1 = some .cell ∨ (relabel scope X.env).names.lookup p.1 = some .free)) (nd : (x :: x2 :: ns).Nodup) : LcOk2 X x x2 ns fr scope cl where
  clos := clos
  nocell := fun y hy => by simpa using List.all_eq_true.mp nocell y hy
  kind := kind
  own := fun y hy h => by
    have := List.all_eq_true.mp own y hy
    rw [h] at this
    simpa using this
  var := var
  var2 := var2
  sub := fun z c h => sub _ (lk_mem h)
  has := fun z h => by
    have k : ∀ t, (relabel scope X.env).names.lookup z = some t → (t = .cell ∨ t = .free) → ∃ c, cl.lookup z = some c := fun t ht hk => by
      have := List.all_eq_true.mp has _ (lk_mem ht)
      rcases hk with rfl | rfl <;> simpa [Option.isSome_iff_exists] using this
    rcases h with h | h
    · exact k _ h (.inl rfl)
    · exact k _ h (.inr rfl)
  len := len
  from_ := fun k z j h1 h2 => fr_ (z, j) (List.mem_of_getElem? (i := k) (by rw [List.getElem?_zip_eq_some]; exact ⟨h1, h2⟩))
  nd := nd
end
end L2
namespace L2
open PySem PySem.Spec PyProof.Rows
open AutoSeq1 (wpAny_loadPart')
section
variable {prog : Program} {w : World} {A : Around} {E : Value → Shared → Prop} {s : Shared}
theorem no_tup_item {it l : Addr} {i : Nat} {items : Array Value} {x : Value} {Q : Value → Shared → Prop} (hi : s.heap.IsTupleIter it l i) (hl : s.heap.IsTuple l items) (hx : items[i]? = some x)
    (h : ∀ h' : Heap, h'.IsTupleIter it l (i + 1) → Heap.SameBut it s.heap h' → Q x { s with heap := h' }) : wpAny (model prog w) A (Builtin.SmallTypes.nextOf (.ref it)) Q E s := by
  obtain ⟨⟨c, d, dt, sl⟩, ho, hc, hd⟩ := id hi
  replace hc : c = .type "tuple_iterator" := hc
  replace hd : dt = _ := hd
  subst hc hd
  have sl := F.slot_tuple_iterator_next
  have lk := sl.lookup
  have bd := sl.bind (.ref it)
  unfold Builtin.SmallTypes.nextOf callSpecial? specialOf
  wp_walk using wpAny_loadPart' ho
  refine codeAny_call_builtin sl.plain F.entry_tuple_iterator_next (sl.check _ _ _ _ _ _ _ _ ⟨_, ho, rfl⟩ (F.args_tuple_iterator_next_1 _) ?_)
  obtain ⟨⟨c2, d2, dt2, sl2⟩, ho2, hc2, n2, hd2⟩ := id hl
  replace hc2 : c2 = .type "tuple" := hc2
  replace hd2 : dt2 = _ := hd2
  subst hc2 hd2
  unfold Builtin.«tuple_iterator.__next__»
  wp_walk using wpAny_loadPart' ho, wpAny_loadPart' ho2
  rw [Int.toNat_natCast, hx]
  wp_walk using wpAny_loadPart' ho, wpAny_loadPart' ho2
  exact h _ ⟨_, Heap.get?_update_self _ ho rfl, rfl, rfl⟩ (Heap.SameBut.update _ _ _)
theorem zn_item {z TI TO i1 i2 l1 l2 : Addr} {a b x y : Value} {k1 k2 : Nat} {xs ys : Array Value} {Q : Value → Shared → Prop} (ap : ZipApart z TI TO i1 i2 l1 l2) (hz : IsZip s.heap z TI TO .none) (h1 : IsPair s.heap TI (.ref i1) (.ref i2)) (h2 : IsPair s.heap TO a b)
    (hi1 : s.heap.IsListIter i1 l1 k1) (hi2 : s.heap.IsTupleIter i2 l2 k2) (hl1 : s.heap.IsList l1 xs) (hl2 : s.heap.IsTuple l2 ys) (hx : xs[k1]? = some x) (hy : ys[k2]? = some y)
    (h : ∀ h' : Heap, IsZip h' z TI TO (rawInt s.heap.objs.size) → IsPair h' TO x y → h'.IsListIter i1 l1 (k1 + 1) → h'.IsTupleIter i2 l2 (k2 + 1) → IsPair h' s.heap.objs.size x y → h'.objs.size = s.heap.objs.size + 1 →
      (∀ c o, c ≠ z → c ≠ TO → c ≠ i1 → c ≠ i2 → s.heap.get? c = some o → h'.get? c = some o) → Q (.ref s.heap.objs.size) { s with heap := h' }) :
    wpAny (model prog w) A (Builtin.«zip.__next__» ⟨[.ref z], []⟩) (fun fin s' => ∃ v, fin = .done (.ret v) ∧ Q v s') E s := by
  unfold Builtin.«zip.__next__»
  iterate 69 (first | wp_step | (refine wpAny_loadPart' hz ?_) | (refine wpAny_loadPart' h1 ?_) | (refine wpAny_loadPart' h2 ?_))
  refine wpAny_onRaise ?_
  show wpAny _ _ (do let v ← Builtin.SmallTypes.nextOf (.ref i1); pure (some v)) _ _ _
  have hs0 : Heap.SameBut z s.heap (s.heap.update z (Obj.mapFields fun x => x.setIfInBounds 0 Value.ellipsis)) := Heap.SameBut.update _ _ _
  have hz0 : (s.heap.update z (Obj.mapFields fun x => x.setIfInBounds 0 Value.ellipsis)).get? z = _ := Heap.get?_update_self _ hz rfl
  generalize s.heap.update z (Obj.mapFields fun x => x.setIfInBounds 0 Value.ellipsis) = h0 at hs0 hz0
  have e0 : ∀ b o, b ≠ z → s.heap.get? b = some o → h0.get? b = some o := fun b o hb e => (hs0.2 b hb).trans e
  have i10 : h0.IsListIter i1 l1 k1 := hi1.at fun o e => e0 _ o ap.i1z e
  have l10 : h0.IsList l1 xs := by
    obtain ⟨o, e, q⟩ := hl1
    exact ⟨o, e0 _ o ap.l1z e, q⟩
  refine wpAny_bind (wpAny_nextOf_list_item (s := { s with heap := h0 }) i10 l10 hx fun h3 i13 s3 => wpAny_pure ?_)
  have e3 : ∀ b o, b ≠ z → b ≠ i1 → s.heap.get? b = some o → h3.get? b = some o := fun b o hb hb2 e => (s3.2 b hb2).trans (e0 b o hb e)
  have hz3 : h3.get? z = _ := (s3.2 z ap.i1z.symm).trans hz0
  have hT3 : h3.get? TO = _ := e3 TO _ ap.TOz ap.TOi1 h2
  iterate 23 (first | wp_step | (refine wpAny_loadPart' hT3 ?_))
  refine wpAny_onRaise ?_
  show wpAny _ _ (do let v ← Builtin.SmallTypes.nextOf (.ref i2); pure (some v)) _ _ _
  have hT4 : IsPair (h3.update TO (Obj.mapSeq fun x_1 => x_1.setIfInBounds 0 x)) TO x b := Heap.get?_update_self _ hT3 rfl
  have s4 : Heap.SameBut TO h3 (h3.update TO (Obj.mapSeq fun x_1 => x_1.setIfInBounds 0 x)) := Heap.SameBut.update _ _ _
  generalize h3.update TO (Obj.mapSeq fun x_1 => x_1.setIfInBounds 0 x) = h4 at hT4 s4
  have e4 : ∀ b o, b ≠ z → b ≠ i1 → b ≠ TO → s.heap.get? b = some o → h4.get? b = some o := fun b o hb hb2 hb3 e => (s4.2 b hb3).trans (e3 b o hb hb2 e)
  have i24 : h4.IsTupleIter i2 l2 k2 := hi2.at fun o e => e4 _ o ap.i2z ap.i12.symm ap.TOi2.symm e
  have l24 : h4.IsTuple l2 ys := by
    obtain ⟨o, e, q⟩ := hl2
    exact ⟨o, e4 _ o ap.l2z ap.l2i1 ap.l2TO e, q⟩
  refine wpAny_bind (no_tup_item (s := { s with heap := h4 }) i24 l24 hy fun h5 i25 s5 => wpAny_pure ?_)
  have hz5 : h5.get? z = _ := (s5.2 z ap.i2z.symm).trans ((s4.2 z ap.TOz.symm).trans hz3)
  have hT5 : IsPair h5 TO x b := (s5.2 TO ap.TOi2).trans hT4
  have hT6 : IsPair (h5.update TO (Obj.mapSeq fun x_1 => x_1.setIfInBounds 1 y)) TO x y := Heap.get?_update_self _ hT5 rfl
  have s6 : Heap.SameBut TO h5 (h5.update TO (Obj.mapSeq fun x_1 => x_1.setIfInBounds 1 y)) := Heap.SameBut.update _ _ _
  have hz6 : (h5.update TO (Obj.mapSeq fun x_1 => x_1.setIfInBounds 1 y)).get? z = _ := (s6.2 z ap.TOz.symm).trans hz5
  have hz7 : ((h5.update TO (Obj.mapSeq fun x_1 => x_1.setIfInBounds 1 y)).push { cls := .type "tuple", data := .seq #[x, y] }).get? z = _ := Heap.get?_push_of_some _ hz6
  have z6 : (h5.update TO (Obj.mapSeq fun x => x.setIfInBounds (0 + 1) y)).objs.size = s.heap.objs.size := s6.1.trans (s5.1.trans (s4.1.trans (s3.1.trans hs0.1)))
  repeat (first | wp_step | (refine wpAny_loadPart' hT5 ?_) | (refine wpAny_loadPart' hT6 ?_) | (refine wpAny_loadPart' hz7 ?_))
  refine ⟨_, rfl, ?_⟩
  rw [z6]
  have hp7 : IsPair ((h5.update TO (Obj.mapSeq fun x => x.setIfInBounds (0 + 1) y)).push { cls := .type "tuple", data := .seq #[x, y].toList.toArray }) s.heap.objs.size x y := by
    rw [← z6]
    exact Heap.get?_push_size _ rfl
  have q7 : ∀ c o, (h5.update TO (Obj.mapSeq fun x => x.setIfInBounds (0 + 1) y)).get? c = some o → ((h5.update TO (Obj.mapSeq fun x => x.setIfInBounds (0 + 1) y)).push { cls := .type "tuple", data := .seq #[x, y].toList.toArray }).get? c = some o := fun c o e => Heap.get?_push_of_some _ e
  have z7 : ((h5.update TO (Obj.mapSeq fun x => x.setIfInBounds (0 + 1) y)).push { cls := .type "tuple", data := .seq #[x, y].toList.toArray }).objs.size = s.heap.objs.size + 1 := by rw [Heap.size_push, z6]
  have hzl : z < s.heap.objs.size := Heap.lt_size hz
  have hTl : TO < s.heap.objs.size := Heap.lt_size h2
  have hz7' : ((h5.update TO (Obj.mapSeq fun x => x.setIfInBounds (0 + 1) y)).push { cls := .type "tuple", data := .seq #[x, y].toList.toArray }).get? z = _ := hz7
  have hT7 : IsPair ((h5.update TO (Obj.mapSeq fun x => x.setIfInBounds (0 + 1) y)).push { cls := .type "tuple", data := .seq #[x, y].toList.toArray }) TO x y := q7 _ _ hT6
  have e7 : ∀ c o, c ≠ z → c ≠ TO → c ≠ i1 → c ≠ i2 → s.heap.get? c = some o → ((h5.update TO (Obj.mapSeq fun x => x.setIfInBounds (0 + 1) y)).push { cls := .type "tuple", data := .seq #[x, y].toList.toArray }).get? c = some o := fun c o c1 c2 c3 c4 e => q7 _ _ ((s6.2 c c2).trans ((s5.2 c c4).trans (e4 c o c1 c3 c2 e)))
  have i17 : ((h5.update TO (Obj.mapSeq fun x => x.setIfInBounds (0 + 1) y)).push { cls := .type "tuple", data := .seq #[x, y].toList.toArray }).IsListIter i1 l1 (k1 + 1) := i13.at fun o e => q7 _ _ ((s6.2 i1 ap.TOi1.symm).trans ((s5.2 i1 ap.i12).trans ((s4.2 i1 ap.TOi1.symm).trans e)))
  have i27 : ((h5.update TO (Obj.mapSeq fun x => x.setIfInBounds (0 + 1) y)).push { cls := .type "tuple", data := .seq #[x, y].toList.toArray }).IsTupleIter i2 l2 (k2 + 1) := i25.at fun o e => q7 _ _ ((s6.2 i2 ap.TOi2.symm).trans e)
  generalize (h5.update TO (Obj.mapSeq fun x => x.setIfInBounds (0 + 1) y)).push { cls := .type "tuple", data := .seq #[x, y].toList.toArray } = h7 at hp7 z7 hz7' hT7 e7 i17 i27 ⊢
  have hz8 : (h7.update z (Obj.mapFields fun x => x.setIfInBounds 0 (rawInt s.heap.objs.size))).get? z = _ := Heap.get?_update_self _ hz7' rfl
  have hz9 : IsZip ((h7.update z (Obj.mapFields fun x => x.setIfInBounds 0 (rawInt s.heap.objs.size))).update z (Obj.mapFields fun x => x.setIfInBounds 1 (Value.bool false))) z TI TO (rawInt s.heap.objs.size) := Heap.get?_update_self _ hz8 rfl
  have s9 : ∀ c, c ≠ z → ((h7.update z (Obj.mapFields fun x => x.setIfInBounds 0 (rawInt s.heap.objs.size))).update z (Obj.mapFields fun x => x.setIfInBounds 1 (Value.bool false))).get? c = h7.get? c := fun c hc => ((Heap.SameBut.update _ z _).2 c hc).trans ((Heap.SameBut.update h7 z _).2 c hc)
  exact h _ hz9 ((s9 _ ap.TOz).trans hT7) (i17.at fun o e => (s9 _ ap.i1z).trans e) (i27.at fun o e => (s9 _ ap.i2z).trans e) ((s9 _ (Nat.ne_of_gt hzl)).trans hp7) (by rw [Heap.size_update, Heap.size_update, z7]) fun c o c1 c2 c3 c4 e => (s9 c c1).trans (e7 c o c1 c2 c3 c4 e)
end
end L2
namespace L2
open PySem PySem.Spec PyProof.Rows
open AutoSeq1 (wpAny_loadPart')
section
variable {prog : Program} {w : World} {A : Around} {E : Value → Shared → Prop} {s : Shared}
theorem zp_item {z TI TO i1 i2 l1 l2 : Addr} {a b x y : Value} {k1 k2 : Nat} {xs ys : Array Value} {Q : Option Value → Shared → Prop} (ap : ZipApart z TI TO i1 i2 l1 l2) (hz : IsZip s.heap z TI TO .none) (h1 : IsPair s.heap TI (.ref i1) (.ref i2)) (h2 : IsPair s.heap TO a b)
    (hi1 : s.heap.IsListIter i1 l1 k1) (hi2 : s.heap.IsTupleIter i2 l2 k2) (hl1 : s.heap.IsList l1 xs) (hl2 : s.heap.IsTuple l2 ys) (hx : xs[k1]? = some x) (hy : ys[k2]? = some y)
    (h : ∀ h' : Heap, IsZip h' z TI TO (rawInt s.heap.objs.size) → IsPair h' TO x y → h'.IsListIter i1 l1 (k1 + 1) → h'.IsTupleIter i2 l2 (k2 + 1) → IsPair h' s.heap.objs.size x y → h'.objs.size = s.heap.objs.size + 1 →
      (∀ c o, c ≠ z → c ≠ TO → c ≠ i1 → c ≠ i2 → s.heap.get? c = some o → h'.get? c = some o) → Q (some (.ref s.heap.objs.size)) { s with heap := h' }) : wpAny (model prog w) A (pyNext (.ref z)) Q E s := by
  have sl := F.slot_zip_next
  have lk := sl.lookup
  have bd := sl.bind (.ref z)
  unfold pyNext callSpecial? specialOf
  wp_walk using wpAny_loadPart' hz
  refine codeAny_call_builtin sl.plain F.entry_zip_next (sl.check _ _ _ _ _ _ _ _ ⟨_, hz, rfl⟩ (F.args_zip_next_1 _) ?_)
  refine thn (zn_item (Q := fun v s' => Q (some v) s') ap hz h1 h2 hi1 hi2 hl1 hl2 hx hy h) fun fin s' hq => ?_
  obtain ⟨v, rfl, q⟩ := hq
  exact wpAny_pure (wpAny_pure q)
theorem zn_end {z TI TO i1 i2 l1 l2 : Addr} {a b : Value} {k1 : Nat} {xs : Array Value} {Q : PySem.Fin → Shared → Prop} (hh : A.handled = none) (ap : ZipApart z TI TO i1 i2 l1 l2) (hz : IsZip s.heap z TI TO .none) (h1 : IsPair s.heap TI (.ref i1) (.ref i2)) (h2 : IsPair s.heap TO a b)
    (hi1 : s.heap.IsListIter i1 l1 k1) (hl1 : s.heap.IsList l1 xs) (hx : xs[k1]? = none)
    (h : ∀ (h' : Heap) (e : Addr), (∀ c o, c ≠ z → c ≠ TO → c ≠ i1 → c ≠ i2 → s.heap.get? c = some o → h'.get? c = some o) → (∃ o, h'.get? e = some o ∧ o.cls = .type "StopIteration") → E (.ref e) { s with heap := h' }) :
    wpAny (model prog w) A (Builtin.«zip.__next__» ⟨[.ref z], []⟩) Q E s := by
  unfold Builtin.«zip.__next__»
  iterate 69 (first | wp_step | (refine wpAny_loadPart' hz ?_) | (refine wpAny_loadPart' h1 ?_) | (refine wpAny_loadPart' h2 ?_))
  refine wpAny_onRaise ?_
  show wpAny _ _ (do let v ← Builtin.SmallTypes.nextOf (.ref i1); pure (some v)) _ _ _
  have hs0 : Heap.SameBut z s.heap (s.heap.update z (Obj.mapFields fun x => x.setIfInBounds 0 Value.ellipsis)) := Heap.SameBut.update _ _ _
  have hz0 : (s.heap.update z (Obj.mapFields fun x => x.setIfInBounds 0 Value.ellipsis)).get? z = _ := Heap.get?_update_self _ hz rfl
  generalize s.heap.update z (Obj.mapFields fun x => x.setIfInBounds 0 Value.ellipsis) = h0 at hs0 hz0
  have e0 : ∀ b o, b ≠ z → s.heap.get? b = some o → h0.get? b = some o := fun b o hb e => (hs0.2 b hb).trans e
  have i10 : h0.IsListIter i1 l1 k1 := hi1.at fun o e => e0 _ o ap.i1z e
  have l10 : h0.IsList l1 xs := by
    obtain ⟨o, e, q⟩ := hl1
    exact ⟨o, e0 _ o ap.l1z e, q⟩
  refine wpAny_bind (wpAny_nextOf_list_end (s := { s with heap := h0 }) hh i10 l10 hx fun h3 e hs3 he => ?_)
  have hz3 : h3.get? z = _ := hs3 z _ ap.i1z.symm hz0
  obtain ⟨oe, he1, he2⟩ := he
  wp_walk using wpAny_loadPart' hz3
  have nez : z ≠ e := fun y => by
    rw [← y, hz3] at he1
    cases he1
    have he3 : Value.type "zip" = Value.type "StopIteration" := he2
    exact absurd he3 (by decide)
  exact h _ e (fun c o c1 c2 c3 c4 q => (Heap.get?_update_other _ _ (Ne.symm c1)).trans (hs3 c o c3 (e0 c o c1 q))) ⟨oe, (Heap.get?_update_other _ _ nez).trans he1, he2⟩
theorem zp_end {z TI TO i1 i2 l1 l2 : Addr} {a b : Value} {k1 : Nat} {xs : Array Value} {Q : Option Value → Shared → Prop} (hh : A.handled = none) (ap : ZipApart z TI TO i1 i2 l1 l2) (hz : IsZip s.heap z TI TO .none) (h1 : IsPair s.heap TI (.ref i1) (.ref i2)) (h2 : IsPair s.heap TO a b)
    (hi1 : s.heap.IsListIter i1 l1 k1) (hl1 : s.heap.IsList l1 xs) (hx : xs[k1]? = none)
    (h : ∀ h' : Heap, (∀ c o, c ≠ z → c ≠ TO → c ≠ i1 → c ≠ i2 → s.heap.get? c = some o → h'.get? c = some o) → Q none { s with heap := h' }) : wpAny (model prog w) A (pyNext (.ref z)) Q E s := by
  have sl := F.slot_zip_next
  have lk := sl.lookup
  have bd := sl.bind (.ref z)
  unfold pyNext callSpecial? specialOf
  wp_walk using wpAny_loadPart' hz
  refine codeAny_call_builtin sl.plain F.entry_zip_next (sl.check _ _ _ _ _ _ _ _ ⟨_, hz, rfl⟩ (F.args_zip_next_1 _) ?_)
  refine zn_end (A := A.in1) hh ap hz h1 h2 hi1 hl1 hx fun h' e hk he => ?_
  obtain ⟨⟨c, d, dt, sll⟩, he1, he2⟩ := he
  replace he2 : c = .type "StopIteration" := he2
  subst he2
  have ss := isSubtype_stop
  show wpAny _ _ (do
      let __do_lift ← isInstance (.ref e) (Value.type "StopIteration")
      if __do_lift = true then pure none else throw (.ref e)) _ _ _
  wp_walk using wpAny_loadPart' he1
  exact h h' hk
end
end L2
namespace L2
open PySem PySem.Spec PyProof.Rows
open AutoSeq1 (wpAny_loadPart')
section
variable {prog : Program} {w : World} {A : Around} {E : Value → Shared → Prop} {s : Shared}
abbrev zi1 (l1 : Addr) : Obj := { cls := .type "list_iterator", data := .fields #[.ref l1, .int 0 0] }
abbrev zi2 (l2 : Addr) : Obj := { cls := .type "tuple_iterator", data := .fields #[.ref l2, .int 0 0] }
abbrev zTI (n m : Nat) : Obj := { cls := .type "tuple", data := .seq #[.ref n, .ref m] }
abbrev zTO : Obj := { cls := .type "tuple", data := .seq #[.none, .none] }
abbrev zZ (n m : Nat) : Obj := { cls := .type "zip", data := .fields #[.none, .bool false, .bool false, .ref n, .ref m] }
abbrev zh2 (h : Heap) (l1 l2 : Addr) : Heap := (h.push (zi1 l1)).push (zi2 l2)
abbrev zh3 (h : Heap) (l1 l2 : Addr) : Heap := (zh2 h l1 l2).push (zTI h.objs.size (h.push (zi1 l1)).objs.size)
abbrev zh4 (h : Heap) (l1 l2 : Addr) : Heap := (zh3 h l1 l2).push zTO
abbrev zh5 (h : Heap) (l1 l2 : Addr) : Heap := (zh4 h l1 l2).push (zZ (zh2 h l1 l2).objs.size (zh3 h l1 l2).objs.size)
theorem zip_type (a b : Value) : checkTypeCall "zip" ⟨[a, b], []⟩ = pure () := by kernel_rfl
theorem zip_newc (a b : Value) : checkBuiltinCall "zip.__new__" ⟨[.type "zip", a, b], []⟩ = pure () := by kernel_rfl
theorem zip_init (o a b : Value) : argsOk "object.__init__" ⟨[o, a, b], []⟩ := by
  first | exact ⟨rfl⟩ | decide | (unfold argsOk; kernel_rfl) | trivial
theorem zip_new (l1 l2 : Addr) (xs ys : Array Value) :
    Meets (Builtin.«zip.__new__» ⟨[.type "zip", .ref l1, .ref l2], []⟩) (fun _ R s => s.heap.IsList l1 xs ∧ s.heap.IsTuple l2 ys ∧
      R (.ok (.ret (.ref (zh4 s.heap l1 l2).objs.size))) { s with heap := zh5 s.heap l1 l2 }) :=
  .of_wp fun prog w A R s h => by
    obtain ⟨hp0, g, d, tk, os⟩ := s
    obtain ⟨isl, ist, h⟩ := h
    have ist2 : Heap.IsTuple (Shared.heap ⟨(Shared.heap ⟨hp0, g, d, tk, os⟩).push { cls := .type "list_iterator", data := .fields #[.ref l1, .int 0 0] }, g, d, tk, os⟩) l2 ys := by
      obtain ⟨o, e, q⟩ := ist
      exact ⟨o, Heap.get?_push_of_some _ e, q⟩
    have sub := PySem.sub_zip
    wp_walk using wpAny_pyIter_list isl, wpAny_pyIter_tuple ist2
    exact ⟨_, rfl, h⟩
theorem zip_call {l1 l2 : Addr} {xs ys : Array Value} {Q : Value → Shared → Prop} (h1 : s.heap.IsList l1 xs) (h2 : s.heap.IsTuple l2 ys) (h : Q (.ref (zh4 s.heap l1 l2).objs.size) { s with heap := zh5 s.heap l1 l2 }) :
    wpAny (model prog w) A (call (.type "zip") [.ref l1, .ref l2]) Q E s := by
  refine en_made (Q1 := fun o s1 => s1.TypeIs o "zip" ∧ Q o s1) F.called_zip (zip_type _ _) (zip_newc _ _) F.entry_zip_new F.entry_object_init (zip_new l1 l2 xs ys) ⟨h1, h2, ?_⟩ fun o s1 hq =>
    ⟨hq.1, zip_init _ _ _, _, en_obj F.called_zip.init.lookup F.called_zip.made (by decide), hq.1, rfl, hq.2⟩
  exact ⟨⟨_, Heap.get?_push_size _ rfl, rfl⟩, h⟩
end
end L2
namespace L2
open PySem PySem.Spec PyProof.Rows
def Itz (K : PySem.W.Frag) (l1 l2 : Addr) : It :=
  ⟨fun i H => ∃ xs ys x y, SqL K H l1 xs ∧ SqT K H l2 ys ∧ xs[i]? = some x ∧ ys[i]? = some y,
   fun i H v H' => ∃ t x y, H t = none ∧ v = .ref t ∧ (∀ xs, SqL K H l1 xs → xs[i]? = some x) ∧ (∀ ys, SqT K H l2 ys → ys[i]? = some y) ∧ H' = upd H t (.tup [x, y]),
   fun i H => ∃ xs, SqL K H l1 xs ∧ xs.length = i⟩
theorem turn_zip {P : Program} {w : World} {K : PySem.W.Frag} {es : List Expr} {k : Nat} {tp : Pos} {z TI TO i1 i2 l1 l2 : Addr} (ap : ZipApart z TI TO i1 i2 l1 l2) :
    Turn P w K (.Tuple es k tp) (Itz K l1 l2) [z, TI, TO, i1, i2] z (fun i h => IsZip h z TI TO .none ∧ IsPair h TI (.ref i1) (.ref i2) ∧ (∃ a b, IsPair h TO a b) ∧ h.IsListIter i1 l1 i ∧ h.IsTupleIter i2 l2 i) where
  mem := by simp
  obj := fun i h st b hb => by
    obtain ⟨hz, h1, ⟨a, b', h2⟩, ⟨o1, e1, c1, d1⟩, ⟨o2, e2, c2, d2⟩⟩ := st
    simp only [List.mem_cons, List.not_mem_nil, or_false] at hb
    rcases hb with rfl | rfl | rfl | rfl | rfl
    · exact ⟨_, hz, fun v q => by cases q⟩
    · exact ⟨_, h1, fun v q => by cases q⟩
    · exact ⟨_, h2, fun v q => by cases q⟩
    · exact ⟨_, e1, fun v q => by rw [d1] at q; cases q⟩
    · exact ⟨_, e2, fun v q => by rw [d2] at q; cases q⟩
  keep := fun i h h' st kk => by
    obtain ⟨hz, h1, ⟨a, b', h2⟩, hi1, hi2⟩ := st
    exact ⟨kk z (by simp) _ hz, kk TI (by simp) _ h1, ⟨a, b', kk TO (by simp) _ h2⟩, hi1.at fun o q => kk i1 (by simp) o q, hi2.at fun o q => kk i2 (by simp) o q⟩
  item := by
    intro X hP hw hK hc i pins s σ H E I hf st hg
    subst hP hw hK
    obtain ⟨xs, ys, x, y, hq1, hq2, hx, hy⟩ := hg
    obtain ⟨its, rv, pl, hz0⟩ := I.list hq1
    obtain ⟨jts, rw', pt, hz1⟩ := I.tuple hq2
    obtain ⟨u, hu, ru⟩ := rv.get hx
    obtain ⟨v, hv, rv'⟩ := rw'.get hy
    obtain ⟨hz, h1, ⟨a, b', h2⟩, hi1, hi2⟩ := st
    refine zp_item ap hz h1 h2 hi1 hi2 pl.isList (show s.heap.IsTuple l2 jts.toArray from pt) (x := u) (y := v) (by simpa using hu) (by simpa using hv) fun h' kz kTO k1 k2 kp ksz kk => ?_
    refine ⟨_, rfl, wpAny_letOwnedTupleGo_zip (s := { s with heap := h' }) kz fun h3 kz3 hs3 => ?_⟩
    have hn : H s.heap.objs.size = none := I.fresh
    have hzl : z < s.heap.objs.size := Heap.lt_size hz
    have kp3 : ∀ b o, b ≠ z → b ≠ TO → b ≠ i1 → b ≠ i2 → s.heap.get? b = some o → h3.get? b = some o := fun b o q1 q2 q3 q4 e => (hs3.2 b q1).trans (kk b o q1 q2 q3 q4 e)
    have hT3 : h3.get? s.heap.objs.size = some { cls := .type "tuple", data := .seq #[u, v] } := (hs3.2 _ (Nat.ne_of_gt hzl)).trans kp
    have nf : ∀ b o, H b = some o → b ≠ z ∧ b ≠ TO ∧ b ≠ i1 ∧ b ≠ i2 := fun b o q => by
      refine ⟨fun e => ?_, fun e => ?_, fun e => ?_, fun e => ?_⟩ <;> (subst e; rw [(hf _ (by simp)).1] at q; cases q)
    have lt : ∀ b o, H b = some o → b ≠ s.heap.objs.size := fun b o q => Nat.ne_of_lt (I.hok.lt q)
    have hok : HOk X.prog X.w (upd H s.heap.objs.size (.tup [x, y])) h3 := fun b o q => by
      by_cases hb : b = s.heap.objs.size
      · subst hb
        rw [upd_same] at q
        cases q
        exact ⟨by show 2 ≤ _; decide, [u, v], .cons ru (.cons rv' .nil), ⟨_, hT3, rfl, _, rfl⟩⟩
      · rw [upd_ne hb] at q
        have kq : ∀ c w2, (∃ o2, H c = some o2) → s.heap.get? c = some w2 → h3.get? c = some w2 := fun c w2 ⟨o2, e2⟩ e => kp3 c w2 (nf c o2 e2).1 (nf c o2 e2).2.1 (nf c o2 e2).2.2.1 (nf c o2 e2).2.2.2 e
        refine (I.hok b o q).stay (fun c w2 hc2 e => ?_) (fun c e => by rw [upd_ne (lt c _ e)]; exact e) fun c zs e => by rw [upd_ne (lt c _ e)]; exact e
        rcases hc2 with rfl | hc2
        · exact kq _ _ ⟨_, q⟩ e
        · exact kq _ _ ⟨_, hc2⟩ e
    have old2 : ∀ b o, s.heap.get? b = some o → b ≠ s.heap.objs.size := fun b o q => Nat.ne_of_lt (Heap.lt_size q)
    have U : Un (frs X.stack) [z, TI, TO, i1, i2] H (upd H s.heap.objs.size (.tup [x, y])) s.heap h3 := by
      have kn : ∀ b o, b ∉ [z, TI, TO, i1, i2] → s.heap.get? b = some o → h3.get? b = some o := fun b o hb e => kp3 b o (fun q => hb (by simp [q])) (fun q => hb (by simp [q])) (fun q => hb (by simp [q])) (fun q => hb (by simp [q])) e
      exact ⟨fun b o q _ _ hb => kn b o hb q, fun b o q _ _ hb => ⟨o.slots, kn b o hb q⟩, fun b o q n hb => by rw [upd_ne (old2 b o q)]; exact n, fun b o q hb => ⟨o, kn b o hb q⟩, fun b zs q => by rw [upd_ne (lt b _ q)]; exact q, fun b o u2 q => by rw [upd_ne (lt b _ q)]; exact q, fun b ps q => ⟨#[], by rw [upd_ne (lt b _ q), q]; simp⟩⟩
    have I2 : Inv X pins σ (upd H s.heap.objs.size (.tup [x, y])) { s with heap := h3 } := I.call (g' := s.gens) (t' := s.toks) (d' := s.drawn) (ch := [z, TI, TO, i1, i2]) U hok I.bare fun b hb => by
      have f := hf b hb
      exact ⟨f.2.2.2.1, f.2.1, f.2.2.2.2.1, f.2.2.2.2.2⟩
    refine ⟨.ref s.heap.objs.size, _, I2, rfl, ⟨s.heap.objs.size, x, y, hn, rfl, fun zs hz5 => by rw [I.list_inj hz5 hq1]; exact hx, fun zs hz5 => by rw [I.tuple_inj hz5 hq2]; exact hy, rfl⟩, ⟨kz3, ?_, ⟨u, v, (hs3.2 _ ap.TOz).trans kTO⟩, k1.at fun o q => (hs3.2 _ ap.i1z).trans q, k2.at fun o q => (hs3.2 _ ap.i2z).trans q⟩, fun b hb => ?_⟩
    · exact kp3 _ _ ap.TIz ap.TITO ap.TIi1 ap.TIi2 h1
    · have f := (hf b hb).1
      have : ∃ o, s.heap.get? b = some o := by
        obtain ⟨o1, e1, _⟩ := hi1
        obtain ⟨o2, e2, _⟩ := hi2
        simp only [List.mem_cons, List.not_mem_nil, or_false] at hb
        rcases hb with rfl | rfl | rfl | rfl | rfl
        · exact ⟨_, hz⟩
        · exact ⟨_, h1⟩
        · exact ⟨_, h2⟩
        · exact ⟨_, e1⟩
        · exact ⟨_, e2⟩
      obtain ⟨o, q⟩ := this
      rw [upd_ne (old2 b o q)]
      exact f
  done := by
    intro X hP hw hK hc i pins s σ H E I hf st hg
    subst hP hw hK
    obtain ⟨xs, hq, hx⟩ := hg
    obtain ⟨its, rv, pl, hz0⟩ := I.list hq
    obtain ⟨hz, h1, ⟨a, b', h2⟩, hi1, hi2⟩ := st
    have hlen := rv.length
    refine zp_end (I.ok.hd hc) ap hz h1 h2 hi1 pl.isList (by simp; omega) fun h' kk => ⟨rfl, ?_⟩
    have nf : ∀ b o, H b = some o → b ≠ z ∧ b ≠ TO ∧ b ≠ i1 ∧ b ≠ i2 := fun b o q => by
      refine ⟨fun e => ?_, fun e => ?_, fun e => ?_, fun e => ?_⟩ <;> (subst e; rw [(hf _ (by simp)).1] at q; cases q)
    have kn : ∀ b o, b ∉ [z, TI, TO, i1, i2] → s.heap.get? b = some o → h'.get? b = some o := fun b o hb e => kk b o (fun q => hb (by simp [q])) (fun q => hb (by simp [q])) (fun q => hb (by simp [q])) (fun q => hb (by simp [q])) e
    have hok : HOk X.prog X.w H h' := fun b o q => by
      refine (I.hok b o q).stay (fun c w2 hc2 e => ?_) (fun _ e => e) fun _ _ e => e
      have kq : ∀ c w2, (∃ o2, H c = some o2) → s.heap.get? c = some w2 → h'.get? c = some w2 := fun c w2 ⟨o2, e2⟩ e => kk c w2 (nf c o2 e2).1 (nf c o2 e2).2.1 (nf c o2 e2).2.2.1 (nf c o2 e2).2.2.2 e
      rcases hc2 with rfl | hc2
      · exact kq _ _ ⟨_, q⟩ e
      · exact kq _ _ ⟨_, hc2⟩ e
    have U : Un (frs X.stack) [z, TI, TO, i1, i2] H H s.heap h' := ⟨fun b o q _ _ hb => kn b o hb q, fun b o q _ _ hb => ⟨o.slots, kn b o hb q⟩, fun b o q n hb => n, fun b o q hb => ⟨o, kn b o hb q⟩, fun _ _ q => q, fun _ _ _ q => q, fun b ps q => ⟨#[], by rw [q]; simp⟩⟩
    exact I.call (g' := s.gens) (t' := s.toks) (d' := s.drawn) (ch := [z, TI, TO, i1, i2]) U hok I.bare fun b hb => by
      have f := hf b hb
      exact ⟨f.2.2.2.1, f.2.1, f.2.2.2.2.1, f.2.2.2.2.2⟩
  self := fun _ _ _ _ _ st h => wpAny_pyIter_zip st.1 h
section
variable {X : Cx}
theorem bt_zip : bootBuiltins "zip" = some (.type "zip") := by decide +kernel
def iZip (K : PySem.W.Frag) (tl tp : TE) : TI := fun σ H R => tl σ H fun x H1 => tp σ H1 fun y H2 => ∃ a b : Addr, x = .ref a ∧ y = .ref b ∧ (∃ xs, SqL K H2 a xs) ∧ (∃ ys, SqT K H2 b ys) ∧ R (Itz K a b) H2
theorem pi_zip {l m : Expr} {tl tm : TE} {es : List Expr} {k : Nat} {tpos p pos : Pos} (hg : Gl X "zip") (hm : X.mg "zip" = none) (hl : PE X l tl) (hl2 : PE X m tm)
    (he : starEach [l, m] X.env = (false, eval l X.env) :: starEach [m] X.env := by rfl) (he2 : starEach [m] X.env = [(false, eval m X.env)] := by rfl) : PI X (.Tuple es k tpos) (.Call (.Name "zip" p) [l, m] [] pos) (iZip X.K tl tm) := by
  intro pins s σ H R I h
  refine wpAny_Call_Name_kw (ld_blt I hg hm bt_zip ?_)
  have hA : PA X [l, m] (tCons tl (tCons tm tNil)) := pa_cons hl (pa_cons hl2 pa_nil he2) he
  refine PyProof.Rows.callWith_type1 (thn (hA pos pins s σ H (fun vs H1 => match vs with
    | [x, y] => ∃ a b : Addr, x = .ref a ∧ y = .ref b ∧ (∃ xs, SqL X.K H1 a xs) ∧ (∃ ys, SqT X.K H1 b ys) ∧ R (Itz X.K a b) H1
    | _ => False) I h) fun us s1 ⟨vs, H1, I1, r1, q1⟩ => ?_) he (by rw [he2]; rfl)
  rcases vs with _ | ⟨x, _ | ⟨y, _ | ⟨x3, r3⟩⟩⟩
  · exact q1.elim
  · exact q1.elim
  · obtain ⟨u, u2, rfl, ra, rb⟩ := r1.two
    obtain ⟨a, b, e1, e2, ⟨xs, hq⟩, ⟨ys, hq2⟩, qq⟩ := q1
    subst e1 e2
    cases ra
    cases rb
    obtain ⟨its, rv, pl, hz⟩ := I1.list hq
    obtain ⟨jts, rv2, pt, hz2⟩ := I1.tuple hq2
    have la : a < s1.heap.objs.size := by
      obtain ⟨o, e, _⟩ := pl.isList
      exact Heap.lt_size e
    have lb : b < s1.heap.objs.size := by
      obtain ⟨o, e, _⟩ := (show s1.heap.IsTuple b jts.toArray from pt)
      exact Heap.lt_size e
    refine zip_call pl.isList (show s1.heap.IsTuple b jts.toArray from pt) ?_
    obtain ⟨n, hn⟩ : ∃ n, n = s1.heap.objs.size := ⟨_, rfl⟩
    have z1 : (s1.heap.push (zi1 a)).objs.size = n + 1 := by rw [Heap.size_push, hn]
    have z2 : (zh2 s1.heap a b).objs.size = n + 2 := by rw [Heap.size_push, z1]
    have z3 : (zh3 s1.heap a b).objs.size = n + 3 := by rw [Heap.size_push, z2]
    have z4 : (zh4 s1.heap a b).objs.size = n + 4 := by rw [Heap.size_push, z3]
    have k5 : ∀ c o, s1.heap.get? c = some o → (zh5 s1.heap a b).get? c = some o := fun c o e => Heap.get?_push_of_some _ (Heap.get?_push_of_some _ (Heap.get?_push_of_some _ (Heap.get?_push_of_some _ (Heap.get?_push_of_some _ e))))
    have g1 : (zh5 s1.heap a b).get? n = some (zi1 a) := by
      rw [hn]
      exact Heap.get?_push_of_some _ (Heap.get?_push_of_some _ (Heap.get?_push_of_some _ (Heap.get?_push_of_some _ (Heap.get?_push_size _ rfl))))
    have g2 : (zh5 s1.heap a b).get? (n + 1) = some (zi2 b) := by
      rw [← z1]
      exact Heap.get?_push_of_some _ (Heap.get?_push_of_some _ (Heap.get?_push_of_some _ (Heap.get?_push_size _ rfl)))
    have g3 : (zh5 s1.heap a b).get? (n + 2) = some (zTI n (n + 1)) := by
      rw [← z2, ← z1, hn]
      exact Heap.get?_push_of_some _ (Heap.get?_push_of_some _ (Heap.get?_push_size _ rfl))
    have g4 : (zh5 s1.heap a b).get? (n + 3) = some zTO := by
      rw [← z3]
      exact Heap.get?_push_of_some _ (Heap.get?_push_size _ rfl)
    have g5 : (zh5 s1.heap a b).get? (n + 4) = some (zZ (n + 2) (n + 3)) := by
      rw [← z4, ← z3, ← z2]
      exact Heap.get?_push_size _ rfl
    rw [z4]
    generalize zh5 s1.heap a b = h5 at k5 g1 g2 g3 g4 g5
    have na : ∀ k, a ≠ n + k := fun k => Nat.ne_of_lt (Nat.lt_of_lt_of_le la (by rw [hn]; exact Nat.le_add_right _ _))
    have nb : ∀ k, b ≠ n + k := fun k => Nat.ne_of_lt (Nat.lt_of_lt_of_le lb (by rw [hn]; exact Nat.le_add_right _ _))
    have nn : ∀ i j : Nat, i ≠ j → n + i ≠ n + j := fun i j h e => h (Nat.add_left_cancel e)
    have ap : ZipApart (n + 4) (n + 2) (n + 3) n (n + 1) a b := ⟨nn 2 4 (by decide), nn 3 4 (by decide), nn 0 4 (by decide), nn 1 4 (by decide), nn 2 3 (by decide), nn 2 0 (by decide), nn 2 1 (by decide), nn 3 0 (by decide), nn 3 1 (by decide), nn 0 1 (by decide), na 4, na 3, na 0, na 1, nb 4, nb 3, nb 0, nb 1⟩
    refine wpAny_pyIter_zip g5 ?_
    have fp : ∀ c, n ≤ c → FpOk X pins H1 c := fun c hc => I1.fpOk (by rw [← hn]; exact hc) (I1.hok.fresh (by rw [← hn]; exact hc))
    refine ⟨n + 4, [n + 4, n + 2, n + 3, n, n + 1], _, _, H1, rfl, I1.kept (t' := s1.toks) k5, turn_zip ap, ⟨g5, g3, ⟨.none, .none, g4⟩, ⟨_, g1, rfl, rfl⟩, ⟨_, g2, rfl, rfl⟩⟩, fun c hc => ?_, qq⟩
    simp only [List.mem_cons, List.not_mem_nil, or_false] at hc
    rcases hc with e | e | e | e | e
    · exact e ▸ fp _ (Nat.le_add_right n 4)
    · exact e ▸ fp _ (Nat.le_add_right n 2)
    · exact e ▸ fp _ (Nat.le_add_right n 3)
    · exact e ▸ fp _ (Nat.le_refl n)
    · exact e ▸ fp _ (Nat.le_add_right n 1)
  · exact q1.elim
end
end L2
namespace L2
open PySem PySem.Spec PyProof.Rows
section
variable {X : Cx}
theorem op_leS : OpR X (compareOp .LtE) (fun x y H Q => ∃ i j, x = .str i ∧ y = .str j ∧ Q (.bl (!decide (j.cps.toList < i.cps.toList))) H) := by
  intro pins s σ H x y v u Q I rx ry h
  obtain ⟨i, j, rfl, rfl, q⟩ := h
  obtain ⟨t, rfl⟩ := rx
  obtain ⟨t', rfl⟩ := ry
  exact PySem.P.le_str (fin_bl I q rfl)
theorem call_strA : CallR X (.type "str") (fun xs H Q => (∃ i, xs = [.int i] ∧ i.natAbs.log2 < 1920 ∧ Q (.str (toString i)) H) ∨ ∃ z, xs = [.str z] ∧ Q (.str z) H) := by
  intro pins s σ H xs us Q I r h
  rcases h with ⟨i, rfl, hz, q⟩ | ⟨z, rfl, q⟩
  · obtain ⟨u, rfl, t, rfl⟩ := vals1 r
    exact PySem.P.str_of_int hz ⟨.str _, H, I.tok _, ⟨_, rfl⟩, q⟩
  · obtain ⟨u, rfl, t, rfl⟩ := vals1 r
    exact PySem.P.str_of_str ⟨.str z, H, I, ⟨_, rfl⟩, q⟩
theorem call_intT : CallR X (.type "int") (fun xs H Q => ∃ z n, xs = [.str z] ∧ intText? z = some n ∧ z.length ≤ 640 ∧ Q (.int n) H) := by
  intro pins s σ H xs us Q I r h
  obtain ⟨z, n, rfl, hz, hl, q⟩ := h
  obtain ⟨u, rfl, t, rfl⟩ := vals1 r
  exact PySem.W.KIN.call_text hz hl ⟨.int n, H, I.tok _, ⟨_, rfl⟩, q⟩
theorem strs_of : ∀ {ws : List Str} {us : List Value}, Vals (ws.map V.str) us → StrsAre us ws
  | [], _, .nil => .nil
  | w :: ws, _, .cons r t => by
    obtain ⟨tk, rfl⟩ := r
    exact .cons w tk (strs_of t)
theorem mt_join : MtR X "str.join" (fun x vs H Q => ∃ sep l ws, x = .str sep ∧ vs = [.ref l] ∧ SqL X.K H l (ws.map V.str) ∧ (ws.map (·.length)).sum + ws.length * sep.length ≤ 16777216 ∧ Q (.str (Txt.join sep ws)) H) := by
  intro pins s σ H x vs v us Q I rx rv h
  obtain ⟨sep, l, ws, rfl, rfl, hq, hz, q⟩ := h
  obtain ⟨t, rfl⟩ := rx
  obtain ⟨u, rfl, ru⟩ := rv.one
  cases ru
  obtain ⟨its, r, pl, _⟩ := I.list hq
  exact PyProof.Rows.join_list pl.isList (strs_of (by simpa using r)) hz fun t' k => ⟨.str _, H, I.tok _, ⟨_, rfl⟩, q⟩
theorem vals_strsFrom : ∀ (ws : List Str) (n : Nat), Vals (ws.map V.str) (strsFrom n ws)
  | [], n => by
    rw [strsFrom.eq_1]
    exact .nil
  | w :: ws, n => by
    rw [strsFrom.eq_2]
    exact .cons ⟨_, rfl⟩ (vals_strsFrom ws (n + 1))
theorem mt_split : MtR X "str.split" (fun x vs H Q => ∃ z sep, x = .str z ∧ vs = [.str sep] ∧ sep.length ≠ 0 ∧ z.length + 2 ≤ sizeLine ∧ ∀ l, H l = none → Q (.ref l) (upd H l (.lst ((Txt.split z sep).map V.str)))) := by
  intro pins s σ H x vs v us Q I rx rv h
  obtain ⟨z, sep, rfl, rfl, hs, hz, q⟩ := h
  obtain ⟨t, rfl⟩ := rx
  obtain ⟨u, rfl, t2, rfl⟩ := rv.one
  have hs0 : (sep.length == 0) = false := by simpa using hs
  have itself : Txt.split z sep = [z] → EP X pins σ Q (.ref s.heap.objs.size) { s with heap := s.heap.push { cls := .type "list", data := .seq #[.str z t] } } := fun e => by
    have h1 : Vals [V.str z] [Value.str z t] := .cons ⟨t, rfl⟩ .nil
    have := q _ I.fresh
    rw [e] at this
    exact ⟨.ref _, _, I.lnew (t' := s.toks) h1 (by rw [sizeLine_eq]; show 1 ≤ _; decide), rfl, this⟩
  by_cases c1 : (decide (z.length < sep.length) || decide (Builtin.Str.strKind z < Builtin.Str.strKind sep)) = true
  · refine call_meets PySem.F.slot_str_split (typeIs_str s z t) PySem.F.entry_str_split (PySem.F.args_str_split_2 _ _) (meets_str_split_cannot_occur z sep t t2 c1) (itself ?_)
    unfold Txt.split
    rw [if_pos c1]
  · have c1' := Bool.eq_false_iff.mpr c1
    by_cases c2 : (Builtin.Str.occurrences z sep 0 z.length (z.length + 1)).isEmpty = true
    · refine call_meets PySem.F.slot_str_split (typeIs_str s z t) PySem.F.entry_str_split (PySem.F.args_str_split_2 _ _) (meets_str_split_not_found z sep t t2 c1' hs0 c2) (itself ?_)
      unfold Txt.split
      rw [if_neg c1, if_pos c2]
    · have c2' := Bool.eq_false_iff.mpr c2
      have e : Txt.split z sep = Builtin.Str.partsBetween z (Builtin.Str.occurrences z sep 0 z.length (z.length + 1)) sep.length := by
        unfold Txt.split
        rw [if_neg c1, if_neg c2]
      have hl : (Builtin.Str.partsBetween z (Builtin.Str.occurrences z sep 0 z.length (z.length + 1)) sep.length).length ≤ z.length + 2 := by
        have := len_le_of_split (l := (Txt.split z sep).map fun w => (w, 0)) (x := z) (y := sep) (by rw [List.map_map]; exact List.map_id _)
        rw [List.length_map, e] at this
        exact this
      refine call_meets PySem.F.slot_str_split (typeIs_str s z t) PySem.F.entry_str_split (PySem.F.args_str_split_2 _ _) (meets_str_split_sep z sep t t2 c1' hs0 c2' (by omega) (by omega)) ?_
      have := q _ I.fresh
      rw [e] at this
      exact ⟨.ref _, _, I.lnew (vals_strsFrom _ _) (by rw [List.length_map]; omega), rfl, this⟩
end
section
variable {X : Cx}
theorem bools_get {bs : List Bool} {us : List Value} (h : Vals (bs.map V.bl) us) {i : Nat} {v : Value} (hv : us[i]? = some v) : v = .bool (bs.getD i false) := by
  have hl := h.length
  rw [List.length_map] at hl
  have hi := (List.getElem?_eq_some_iff.mp hv).1
  obtain ⟨u, hu, ru⟩ := h.get (i := i) (x := V.bl (bs[i]'(by omega))) (by rw [List.getElem?_map, List.getElem?_eq_getElem (by omega)]; rfl)
  rw [hv] at hu
  cases hu
  have e : bs.getD i false = bs[i]'(by omega) := by simp [List.getD, show i < bs.length by omega]
  rw [e]
  cases ru
  rfl
theorem range_all (bs : List Bool) : ((List.range bs.length).all fun i => bs.getD i false) = bs.all id := by
  rw [Bool.eq_iff_iff, List.all_eq_true, List.all_eq_true]
  constructor
  · intro h x hx
    obtain ⟨i, hi, rfl⟩ := List.mem_iff_getElem.mp hx
    have := h i (List.mem_range.mpr hi)
    simpa [List.getD, hi] using this
  · intro h i hi
    have hi := List.mem_range.mp hi
    have := h _ (List.getElem_mem hi)
    simpa [List.getD, hi] using this
theorem range_any (bs : List Bool) : ((List.range bs.length).any fun i => bs.getD i false) = bs.any id := by
  rw [Bool.eq_iff_iff, List.any_eq_true, List.any_eq_true]
  constructor
  · rintro ⟨i, hi, h⟩
    have hi := List.mem_range.mp hi
    exact ⟨_, List.getElem_mem hi, by simpa [List.getD, hi] using h⟩
  · rintro ⟨x, hx, h⟩
    obtain ⟨i, hi, rfl⟩ := List.mem_iff_getElem.mp hx
    exact ⟨i, List.mem_range.mpr hi, by simpa [List.getD, hi] using h⟩
theorem call_allL (hc : X.calm = true) : CallR X (.builtin "all") (fun xs H Q => ∃ (p : Addr) (bs : List Bool), xs = [.ref p] ∧ SqL X.K H p (bs.map V.bl) ∧ Q (.bl (bs.all id)) H) := by
  intro pins s σ H xs us Q I r h
  obtain ⟨p, bs, rfl, hq, q⟩ := h
  obtain ⟨u, rfl, rx⟩ := vals1 r
  cases rx
  obtain ⟨its, rv, pl, hz⟩ := I.list hq
  have hlt : p < s.heap.objs.size := by
    obtain ⟨o, e, _⟩ := pl.isList
    exact Heap.lt_size e
  have hl := rv.length
  rw [List.length_map] at hl
  refine call_all_walk (wpAny_pyIter_list pl.isList ⟨s.heap.objs.size, _, _, _, _, _, fun i => bs.getD i false, rfl, Walks.list (A := X.A.in1) (I.ok.hd hc) s.heap.objs.size p (Nat.ne_of_lt hlt) its.toArray, ⟨⟨_, Heap.get?_push_size _ rfl, rfl, rfl⟩, ?_⟩, fun i v s' Q' E' hP hQ => ?_, fun h' tk hk => ?_⟩)
  · obtain ⟨o, e, q2⟩ := pl.isList
    exact ⟨o, Heap.get?_push_of_some _ e, q2⟩
  · have hP : its.toArray[i]? = some v := hP
    have hP2 : its[i]? = some v := by simpa using hP
    have ev := bools_get rv hP2
    subst ev
    exact wpAny_pure hQ
  · have e : its.toArray.size = bs.length := by simp [hl]
    rw [e, range_all]
    refine ⟨.bl _, H, I.kept (t' := tk) (fun b o hb => hk b o ?_ (Heap.get?_push_of_some _ hb)), rfl, q⟩
    intro z
    have z : b = s.heap.objs.size := by simpa using z
    exact absurd (Heap.lt_size hb) (by rw [z]; exact Nat.lt_irrefl _)
theorem call_anyL (hc : X.calm = true) : CallR X (.builtin "any") (fun xs H Q => ∃ (p : Addr) (bs : List Bool), xs = [.ref p] ∧ SqL X.K H p (bs.map V.bl) ∧ Q (.bl (bs.any id)) H) := by
  intro pins s σ H xs us Q I r h
  obtain ⟨p, bs, rfl, hq, q⟩ := h
  obtain ⟨u, rfl, rx⟩ := vals1 r
  cases rx
  obtain ⟨its, rv, pl, hz⟩ := I.list hq
  have hlt : p < s.heap.objs.size := by
    obtain ⟨o, e, _⟩ := pl.isList
    exact Heap.lt_size e
  have hl := rv.length
  rw [List.length_map] at hl
  refine call_any_walk (wpAny_pyIter_list pl.isList ⟨s.heap.objs.size, _, _, _, _, _, fun i => bs.getD i false, rfl, Walks.list (A := X.A.in1) (I.ok.hd hc) s.heap.objs.size p (Nat.ne_of_lt hlt) its.toArray, ⟨⟨_, Heap.get?_push_size _ rfl, rfl, rfl⟩, ?_⟩, fun i v s' Q' E' hP hQ => ?_, fun h' tk hk => ?_⟩)
  · obtain ⟨o, e, q2⟩ := pl.isList
    exact ⟨o, Heap.get?_push_of_some _ e, q2⟩
  · have hP : its.toArray[i]? = some v := hP
    have hP2 : its[i]? = some v := by simpa using hP
    have ev := bools_get rv hP2
    subst ev
    exact wpAny_pure hQ
  · have e : its.toArray.size = bs.length := by simp [hl]
    rw [e, range_any]
    refine ⟨.bl _, H, I.kept (t' := tk) (fun b o hb => hk b o ?_ (Heap.get?_push_of_some _ hb)), rfl, q⟩
    intro z
    have z : b = s.heap.objs.size := by simpa using z
    exact absurd (Heap.lt_size hb) (by rw [z]; exact Nat.lt_irrefl _)
end
end L2
namespace L2
open PySem PySem.Spec PyProof.Rows
open AutoSeq1 (wpAny_loadPart')
section
variable {prog : Program} {w : World} {A : Around} {E : Value → Shared → Prop} {s : Shared}
theorem find_at {es : Array DictEntry} {p : DictEntry → Bool} {v : Value} (h : (es.toList.find? p).map (·.val) = some v) : ∃ i, es.findIdx? p = some i ∧ (es[i]?).map (·.val) = some v := by
  obtain ⟨l⟩ := es
  cases e : l.find? p with
  | none => rw [show (Array.mk l).toList = l from rfl, e] at h; cases h
  | some x =>
    rw [show (Array.mk l).toList = l from rfl, e] at h
    cases h
    have h1 : p x = true := List.find?_some e
    have hm := List.mem_of_find?_eq_some e
    have hi : (l.findIdx? p).isSome = true := by
      rw [List.findIdx?_isSome, List.any_eq_true]
      exact ⟨x, hm, h1⟩
    obtain ⟨i, hi⟩ := Option.isSome_iff_exists.mp hi
    refine ⟨i, by simpa using hi, ?_⟩
    have h2 : l[i]? = some x := by
      have := List.find?_eq_getElem?_findIdx (p := p) (xs := l)
      have e3 := (List.findIdx?_eq_some_iff_findIdx_eq.mp hi).2
      rw [e3] at this
      rw [← this, e]
    show ((Array.mk l)[i]?).map (·.val) = _
    rw [List.getElem?_toArray, h2]
    rfl
theorem kd_get {δ : Type} {R : δ → Value → Prop} {a : Addr} {D : List (Str × δ)} {k : Str} {tk : Tok} {d : δ} {Q : Value → Shared → Prop} (ht : KTD.TabOf R s.heap a D) (hd : KTD.datumAt k D = some d)
    (h : ∀ v, R d v → Q v { s with toks := s.toks + 1 }) : wpAny (model prog w) A (call (.builtin "dict.get") [.ref a, .str k tk]) Q E s := by
  obtain ⟨hm, o, es, ep, ho, ex, hdt, hrows⟩ := ht
  obtain ⟨v, hv, hR⟩ := hrows.find_some hd
  obtain ⟨i, hi, hiv⟩ := find_at hv
  refine wpAny_call_entry PySem.F.slot_dict_get ⟨o, ho, ex.1⟩ PySem.F.entry_dict_get ?_ (PySem.F.args_dict_get_2 _ _)
  have hget : ∀ (Q' : Option Value → Shared → Prop) (E' : Value → Shared → Prop), Q' (some v) { s with toks := s.toks + 1 } → wpAny (model prog w) A.in1 (dictGet a (.str k tk)) Q' E' s := fun Q' E' hq => by
    unfold dictGet
    refine wpAny_holding (wpAny_bind (wpAny_pyHash_str (wpAny_bind (KTD.kt_dictFind_strs (s := { s with toks := s.toks + 1 }) ho hdt (by rw [← Array.all_toList]; exact hrows.exact) ?_))))
    rw [hi]
    refine wpAny_bind (wpAny_dictEntries (s := { s with toks := s.toks + 1 }) ho hdt (wpAny_pure ?_))
    rw [hiv]
    exact hq
  unfold Builtin.«dict.get»
  repeat (first | (refine hget _ _ ?_) | wp_step | (refine wpAny_loadPart' ho ?_))
  exact ⟨v, rfl, h v hR⟩
end
def TabK (K : PySem.W.Frag) (a : Addr) (D : List (Str × Addr)) : Prop := KTD.tabLook (fun (b : Addr) (v : Value) => v == .ref b) (fun b => K.lookup b) a D = true
theorem TabK.of {K : PySem.W.Frag} {a : Addr} {D : List (Str × Addr)} {h : Heap} (t : TabK K a D) (X : K.In h) : KTD.TabOf (fun (b : Addr) v => v = .ref b) h a D :=
  KTD.tab_of_look (L := fun (b : Addr) (v : Value) => v == .ref b) (fun d v e => by simpa using e) (fun b o e => X b o e) t
section
variable {X : Cx}
theorem mt_getK {a : Addr} {D : List (Str × Addr)} (t : TabK X.K a D) : MtR X "dict.get" (fun x vs H Q => ∃ k b, x = .ref a ∧ vs = [.str k] ∧ KTD.datumAt k D = some b ∧ Q (.ref b) H) := by
  intro pins s σ H x vs v us Q I rx rv h
  obtain ⟨k, b, rfl, rfl, hd, q⟩ := h
  cases rx
  obtain ⟨u, rfl, tk, rfl⟩ := rv.one
  refine kd_get (t.of fun c o e => I.kIn c o e) hd fun v e => ?_
  subst e
  exact ⟨.ref b, H, I.tok _, rfl, q⟩
def tGetK (a : Addr) (D : List (Str × Addr)) (td ty : TE) : TE := fun σ H Q => td σ H fun x H1 => x = .ref a ∧ ty σ H1 fun y H2 => ∃ k b, y = .str k ∧ KTD.datumAt k D = some b ∧ Q (.ref b) H2
theorem pe_getK {o e : Expr} {apos cpos : Pos} {td ty : TE} {a : Addr} {D : List (Str × Addr)} (t : TabK X.K a D) (ho : PE X o td) (he : PE X e ty) (m : M1 X o "get" apos e cpos) : PE X (.Call (.Attribute o "get" apos) [e] [] cpos) (tGetK a D td ty) := by
  intro pins s σ H Q I h
  refine wpAny_Call_method m.base m.few m.line PySem.F.plainAttrs_dict PySem.F.slot_dict_get PySem.F.type_dict_get (thn (ho pins s σ H _ I h) fun u s1 ⟨x, H1, I1, rx, ex, q1⟩ => ?_)
  subst ex
  obtain rfl : u = Value.ref a := rx
  obtain ⟨_, o1, es, ep, ho1, ex1, hdt, _⟩ := t.of (h := s1.heap) fun c o e => I1.kIn c o e
  refine ⟨⟨o1, ho1, ex1.1⟩, fun c ec => ?_, ?_⟩
  · cases ec
    exact ⟨o1, ho1, ex1.2.1⟩
  rw [m.trees]
  refine Calls.callWith_builtin rfl (Calls.evalArgs_plain (Calls.spliced_cons (thn (he pins s1 σ H1 _ I1 q1) fun iv s2 ⟨y, H2, I2, ry, k, b, ey, hd, q2⟩ => Calls.spliced_nil ?_)))
  subst ey
  exact mt_getK t pins s2 σ H2 (.ref a) [.str k] (.ref a) [iv] Q I2 rfl (.cons ry .nil) ⟨k, b, rfl, rfl, hd, q2⟩
end
def Its (z : Str) : It := ⟨fun i _ => i < z.cps.size, fun i H v H' => (∃ c, z.cps[i]? = some c ∧ v = .str ⟨#[c]⟩) ∧ H' = H, fun i _ => z.cps.size ≤ i⟩
theorem turn_str {P : Program} {w : World} {K : PySem.W.Frag} {tg : Expr} (z : Str) (t : Tok) (it : Addr) : Turn P w K tg (Its z) [it] it (fun i h => h.IsStrIter it "str_ascii_iterator" z t i) where
  mem := by simp
  obj := fun i h st b hb => by
    have e : b = it := by simpa using hb
    subst e
    obtain ⟨o, e, c, d⟩ := st
    exact ⟨o, e, fun v q => by rw [d] at q; cases q⟩
  keep := fun i h h' st k => by
    obtain ⟨o, e, c, d⟩ := st
    exact ⟨o, k it (by simp) o e, c, d⟩
  item := by
    intro X hP hw hK hc i pins s σ H E I hf st hg
    subst hP hw hK
    obtain ⟨f0, f1, f2, f3, f4, f5⟩ := hf it (by simp)
    have hg : i < z.cps.size := hg
    have hc' : z.cps[i]? = some z.cps[i] := by simp [hg]
    refine wpAny_pyNext_ascii_item st hc' fun h' st' sb => ?_
    have I1 : Inv X pins σ H { s with heap := h', toks := s.toks + 1 } := I.turned (fun b o hb e => (sb.2 b hb).trans e) f0 f1 f3 f4 f5
    obtain ⟨o, e, c, d⟩ := id st'
    exact ⟨_, rfl, go_of (s := { s with heap := h', toks := s.toks + 1 }) e c d (by decide) ⟨.str ⟨#[z.cps[i]]⟩, H, I1, ⟨_, rfl⟩, ⟨⟨_, hc', rfl⟩, rfl⟩, st', fun b hb => (hf b hb).1⟩⟩
  done := by
    intro X hP hw hK hc i pins s σ H E I hf st hg
    subst hP hw hK
    obtain ⟨f0, f1, f2, f3, f4, f5⟩ := hf it (by simp)
    have hg : z.cps.size ≤ i := hg
    exact wpAny_pyNext_ascii_end (I.ok.hd hc) st (by simp [hg]) fun h' eb => ⟨rfl, I.turned (t' := s.toks) (fun b o hb e => eb b o hb e) f0 f1 f3 f4 f5⟩
  self := fun _ _ _ _ _ st h => wpAny_pyIter_striter_ascii st h
section
variable {X : Cx}
def iStr (tl : TE) : TI := fun σ H R => tl σ H fun x H1 => ∃ z, x = .str z ∧ (z.cps.all fun x => decide (x < 128)) = true ∧ R (Its z) H1
theorem pi_str {tg l : Expr} {tl : TE} (hl : PE X l tl) : PI X tg l (iStr tl) := by
  intro pins s σ H R I h
  refine thn (hl pins s σ H _ I h) fun v s1 ⟨x, H1, I1, rx, z, ex, hz, q⟩ => ?_
  subst ex
  obtain ⟨t, rfl⟩ := rx
  refine wpAny_pyIter_ascii hz ⟨s1.heap.objs.size, [s1.heap.objs.size], _, _, H1, rfl, I1.kept (t' := s1.toks) (fun b o e => Heap.get?_push_of_some _ e), turn_str z t _, ⟨_, Heap.get?_push_size _ rfl, rfl, rfl⟩, fun b hb => ?_, q⟩
  have eb : b = s1.heap.objs.size := by simpa using hb
  subst eb
  exact I1.fpOk (Nat.le_refl _) (I1.hok.fresh (Nat.le_refl _))
end
theorem lc_str {z : Str} {fr : List Nat} {te : TE} {σ : St} {D : PySem.Addr} {Q : Hp → Prop} {H : Hp} (f : Nat → V) (hn : z.cps.size ≤ 1000)
    (he : ∀ (i c : Nat) (ys : List V) (R : VK), z.cps[i]? = some c → R (f c) (upd H D (.lst ys)) → te (lcSlots fr σ (some (.str ⟨#[c]⟩))) (upd H D (.lst ys)) R) (hq : Q (upd H D (.lst (z.cps.toList.map f)))) :
    lcLoop (Its z) fr (fun _ H Q => Q true H) te σ D Q (upd H D (.lst [])) := by
  refine ⟨fun i m H2 => m + i = z.cps.size ∧ H2 = upd H D (.lst ((z.cps.toList.take i).map f)), ⟨z.cps.size, rfl, rfl⟩, ?_⟩
  rintro i m H2 ⟨hm, rfl⟩
  cases m with
  | zero =>
    have e : i = z.cps.size := by omega
    subst e
    refine .inl ⟨Nat.le_refl _, ?_⟩
    rw [← Array.length_toList, List.take_length]
    exact hq
  | succ m =>
    have hi : i < z.cps.size := by omega
    refine .inr ⟨hi, fun v H' y => ?_⟩
    obtain ⟨⟨c, hc, rfl⟩, rfl⟩ := y
    refine iteT (he i c _ _ hc ⟨_, upd_same, small1000 (by simp; omega), m, by omega, by omega, ?_⟩)
    have h2 : z.cps.toList[i]? = some c := by simpa using hc
    rw [upd_upd, List.take_add_one, h2, List.map_append]
    rfl
theorem TabK.mk {K : PySem.W.Frag} {a : Addr} {D : List (Str × Addr)} {es : Array DictEntry} {ep : Nat} (h0 : (a == sysModules) = false) (h : K.lookup a = some ⟨.type "dict", none, .dict es ep, #[]⟩)
    (hr : KTD.rowsLook (fun (b : Addr) (v : Value) => v == .ref b) es.toList D = true) : TabK K a D := by
  unfold TabK KTD.tabLook
  show (!(a == sysModules) && (match K.lookup a with | some o => o.cls == .type "dict" && o.dict.isNone && o.slots.isEmpty && (match o.data with | .dict es _ => KTD.rowsLook (fun (b : Addr) (v : Value) => v == .ref b) es.toList D | _ => false) | none => false)) = true
  rw [h, h0]
  show (true && (((Value.type "dict" == Value.type "dict") && true && true) && KTD.rowsLook (fun (b : Addr) (v : Value) => v == .ref b) es.toList D)) = true
  rw [hr, beq_self_eq_true]
  rfl
theorem rows_cons {hash : Int} {x : Str} {t : Tok} {u : Addr} {es : List DictEntry} {D : List (Str × Addr)} (h : KTD.rowsLook (fun (b : Addr) (v : Value) => v == .ref b) es D = true) :
    KTD.rowsLook (fun (b : Addr) (v : Value) => v == .ref b) (⟨hash, .str x t, .ref u⟩ :: es) ((x, u) :: D) = true := by
  unfold KTD.rowsLook
  show (x == x && (Value.ref u == Value.ref u) && _) = true
  rw [h, beq_self_eq_true, beq_self_eq_true]
  rfl
end L2
namespace L2
open PySem PySem.Spec PyProof.Rows
def jn (c : Nat) : List (List Nat) → List Nat
  | [] => []
  | [a] => a
  | a :: b :: r => a ++ c :: jn c (b :: r)
theorem cut_one {c : Nat} : ∀ {a b s t : List Nat}, c ∉ a → c ∉ b → a ++ c :: s = b ++ c :: t → a = b ∧ s = t
  | [], [], _, _, _, _, h => by
    injection h with _ h2
    exact ⟨rfl, h2⟩
  | [], y :: b, _, _, _, hb, h => by
    injection h with h1 _
    exact absurd (h1 ▸ List.mem_cons_self ..) hb
  | x :: a, [], _, _, ha, _, h => by
    injection h with h1 _
    exact absurd (h1.symm ▸ List.mem_cons_self ..) ha
  | x :: a, y :: b, _, _, ha, hb, h => by
    injection h with h1 h2
    obtain ⟨e1, e2⟩ := cut_one (fun z => ha (List.mem_cons_of_mem _ z)) (fun z => hb (List.mem_cons_of_mem _ z)) h2
    exact ⟨by rw [h1, e1], e2⟩
theorem jn_inj {c : Nat} : ∀ {l m : List (List Nat)}, (∀ a ∈ l, c ∉ a) → (∀ a ∈ m, c ∉ a) → l ≠ [] → m ≠ [] → jn c l = jn c m → l = m
  | [], _, _, _, h, _, _ => absurd rfl h
  | _, [], _, _, _, h, _ => absurd rfl h
  | [a], [b], _, _, _, _, h => by
    have h : a = b := h
    rw [h]
  | [a], b :: b2 :: r, ha, _, _, _, h => by
    have h : a = b ++ c :: jn c (b2 :: r) := h
    exact absurd (by rw [h]; exact List.mem_append_right _ (List.mem_cons_self ..)) (ha a (List.mem_cons_self ..))
  | a :: a2 :: r, [b], _, hb, _, _, h => by
    have h : a ++ c :: jn c (a2 :: r) = b := h
    exact absurd (by rw [← h]; exact List.mem_append_right _ (List.mem_cons_self ..)) (hb b (List.mem_cons_self ..))
  | a :: a2 :: r, b :: b2 :: q, ha, hb, _, _, h => by
    have h : a ++ c :: jn c (a2 :: r) = b ++ c :: jn c (b2 :: q) := h
    obtain ⟨e1, e2⟩ := cut_one (ha a (List.mem_cons_self ..)) (hb b (List.mem_cons_self ..)) h
    have := jn_inj (fun x hx => ha x (List.mem_cons_of_mem _ hx)) (fun x hx => hb x (List.mem_cons_of_mem _ hx)) (by simp) (by simp) e2
    rw [e1, this]
theorem join_jn (c : Nat) : ∀ ws : List Str, ((⟨#[c]⟩ : Str).join ws).cps.toList = jn c (ws.map fun w => w.cps.toList)
  | [] => by
    rw [Str.join.eq_1]
    rfl
  | [x] => by
    rw [Str.join.eq_2]
    rfl
  | x :: y :: r => by
    rw [Str.join.eq_3 _ _ _ (by simp), Str.cps_append, Str.cps_append, Array.toList_append, Array.toList_append, join_jn c (y :: r)]
    show (x.cps.toList ++ [c]) ++ jn c (List.map (fun w => w.cps.toList) (y :: r)) = _
    rw [List.append_assoc]
    rfl
theorem str_toList {a b : Str} (h : a.cps.toList = b.cps.toList) : a = b := Str.ext' (Array.toList_inj.mp h)
theorem split_join {c : Nat} {ws : List Str} (hw : ∀ w ∈ ws, c ∉ w.cps.toList) (h0 : ws ≠ []) : Txt.split ((⟨#[c]⟩ : Str).join ws) ⟨#[c]⟩ = ws := by
  have h1 := StrLaws.join_split ((⟨#[c]⟩ : Str).join ws) ⟨#[c]⟩
  have h2 := StrLaws.split_free ((⟨#[c]⟩ : Str).join ws) c
  have h3 : Txt.split ((⟨#[c]⟩ : Str).join ws) ⟨#[c]⟩ ≠ [] := fun e => by
    have := len_of_split (l := (Txt.split ((⟨#[c]⟩ : Str).join ws) ⟨#[c]⟩).map fun w => (w, 0)) (x := (⟨#[c]⟩ : Str).join ws) (y := ⟨#[c]⟩) (by rw [List.map_map]; exact List.map_id _)
    rw [List.length_map, e] at this
    exact absurd this (by decide)
  generalize Txt.split ((⟨#[c]⟩ : Str).join ws) ⟨#[c]⟩ = L at h1 h2 h3
  have e : jn c (L.map fun w => w.cps.toList) = jn c (ws.map fun w => w.cps.toList) := by rw [← join_jn, ← join_jn, h1]
  have e2 := jn_inj (c := c) (l := L.map fun w => w.cps.toList) (m := ws.map fun w => w.cps.toList) (fun a ha => by
    obtain ⟨w, hw2, rfl⟩ := List.mem_map.mp ha
    exact h2 w hw2) (fun a ha => by
    obtain ⟨w, hw2, rfl⟩ := List.mem_map.mp ha
    exact hw w hw2) (by simpa using h3) (by simpa using h0) e
  have inj : ∀ {l m : List Str}, (l.map fun w => w.cps.toList) = (m.map fun w => w.cps.toList) → l = m := fun {l m} h => by
    induction l generalizing m with
    | nil => cases m with
      | nil => rfl
      | cons => cases h
    | cons x l ih => cases m with
      | nil => cases h
      | cons y m =>
        injection h with h1 h2
        rw [str_toList h1, ih h2]
  exact inj e2
theorem txt_join (sep : Str) (ws : List Str) : Txt.join sep ws = sep.join ws := StrLaws.glued_eq_join sep ws
def figs (n : Nat) : List Nat := (Nat.toDigits 10 n).map Char.toNat
theorem figs_str (n : Nat) : (Str.ofString (toString (n : Int))).cps.toList = figs n := by
  rw [Str.ofString_eq_toList]
  show (List.map Char.toNat (toString n).toList) = _
  rw [show toString n = String.ofList (Nat.toDigits 10 n) from rfl, String.toList_ofList]
  rfl
open PySem.NumText (AllDigits digitsVal)
theorem dg_len : ∀ (k n : Nat), n < 10 ^ (k + 1) → (Nat.toDigits 10 n).length ≤ k + 1
  | 0, n, h => by
    rw [Nat.toDigits_of_lt_base (by simpa using h)]
    exact Nat.le_refl _
  | k + 1, n, h => by
    by_cases c : n < 10
    · rw [Nat.toDigits_of_lt_base c]
      exact Nat.succ_le_succ (Nat.zero_le _)
    · have t : Nat.toDigits 10 (n / 10) ++ Nat.toDigits 10 (n % 10) = Nat.toDigits 10 (10 * (n / 10) + n % 10) := Nat.toDigits_append_toDigits (by decide) (by omega) (Nat.mod_lt _ (by decide))
      rw [Nat.div_add_mod] at t
      have h2 : n / 10 < 10 ^ (k + 1) := by rw [Nat.pow_succ] at h; omega
      have := dg_len k (n / 10) h2
      rw [← t, List.length_append, Nat.toDigits_of_lt_base (Nat.mod_lt _ (by decide))]
      exact Nat.succ_le_succ this
theorem dg_one (n : Nat) : 1 ≤ (Nat.toDigits 10 n).length := toDigits_len_ge 10 n
theorem digC {d : Nat} (h : d < 10) : (Nat.digitChar d).toNat = 48 + d := (by decide : ∀ d < 10, (Nat.digitChar d).toNat = 48 + d) d h
theorem dg_lead (n : Nat) : ((Nat.toDigits 10 n).map Char.toNat)[0]? = some 48 → n = 0 := by
  induction n using Nat.strongRecOn with
  | _ n ih =>
    intro h
    by_cases c : n < 10
    · rw [Nat.toDigits_of_lt_base c] at h
      have h : (Nat.digitChar n).toNat = 48 := by simpa using h
      rw [digC c] at h
      omega
    · have t : Nat.toDigits 10 (n / 10) ++ Nat.toDigits 10 (n % 10) = Nat.toDigits 10 (10 * (n / 10) + n % 10) := Nat.toDigits_append_toDigits (by decide) (by omega) (Nat.mod_lt _ (by decide))
      rw [Nat.div_add_mod] at t
      rw [← t, List.map_append, List.getElem?_append_left (by rw [List.length_map]; exact dg_one _)] at h
      have := ih (n / 10) (by omega) h
      omega
theorem dg_all (n : Nat) : AllDigits (figs n) := fun c hc => by
  obtain ⟨d, hd, e⟩ := List.mem_map.mp hc
  have r := digit_range (Nat.isDigit_of_mem_toDigits (by decide) (by decide) hd)
  rw [← e]
  exact r
def nt (n : Nat) : Str := Str.ofString (toString (n : Int))
def asc (z : Str) : Prop := (z.cps.all fun x => decide (x < 128)) = true
def figB (c : Nat) : Bool := decide (48 ≤ c) && decide (c ≤ 57)
def numB (z : Str) : Bool := decide (1 ≤ z.length) && decide (z.length ≤ 60) && !(decide (z.cps[0]? = some 48) && decide (1 < z.length)) && z.cps.toList.all figB
def numV (z : Str) : Nat := digitsVal z.cps.toList
def rootB (z : Str) : Bool := decide (z.length = 1) && (!decide (z.cps.toList < ("a" : Str).cps.toList) && !decide (("z" : Str).cps.toList < z.cps.toList))
theorem len_toList (z : Str) : z.cps.toList.length = z.length := Array.length_toList
theorem numB_all {z : Str} (h : numB z = true) : AllDigits z.cps.toList ∧ 1 ≤ z.length ∧ z.length ≤ 60 := by
  unfold numB at h
  rw [Bool.and_eq_true, Bool.and_eq_true, Bool.and_eq_true] at h
  obtain ⟨⟨⟨h1, h2⟩, _⟩, h4⟩ := h
  refine ⟨fun c hc => ?_, of_decide_eq_true h1, of_decide_eq_true h2⟩
  have := List.all_eq_true.mp h4 c hc
  unfold figB at this
  rw [Bool.and_eq_true] at this
  exact ⟨of_decide_eq_true this.1, of_decide_eq_true this.2⟩
theorem numB_int {z : Str} (h : numB z = true) : PySem.intText? z = some (numV z : Int) := by
  obtain ⟨h1, h2, h3⟩ := numB_all h
  refine PySem.intText_digits h1 (fun e => ?_) (by omega)
  have := len_toList z
  rw [e] at this
  simp at this
  omega
theorem nt_list (n : Nat) : (nt n).cps.toList = figs n := figs_str n
theorem nt_len {n : Nat} (h : n < 10 ^ 60) : (nt n).length ≤ 60 := by
  rw [← len_toList, nt_list]
  unfold figs
  rw [List.length_map]
  exact dg_len 59 n h
theorem nt_one (n : Nat) : 1 ≤ (nt n).length := by
  rw [← len_toList, nt_list]
  unfold figs
  rw [List.length_map]
  exact dg_one n
theorem numB_nt {n : Nat} (h : n < 10 ^ 60) : numB (nt n) = true := by
  unfold numB
  rw [decide_eq_true (nt_one n), decide_eq_true (nt_len h), Bool.true_and, Bool.true_and, Bool.and_eq_true]
  constructor
  · by_cases c : (nt n).cps[0]? = some 48
    · have e : n = 0 := dg_lead n (by
        have := nt_list n
        unfold figs at this
        rw [← this]
        simpa using c)
      subst e
      rw [show decide (1 < (nt 0).length) = false by decide +kernel, Bool.and_false]
      rfl
    · rw [decide_eq_false c]
      rfl
  · rw [nt_list, List.all_eq_true]
    intro c hc
    have := dg_all n c hc
    unfold figB
    rw [decide_eq_true this.1, decide_eq_true this.2]
    rfl
theorem numV_nt (n : Nat) : numV (nt n) = n := by
  unfold numV
  rw [nt_list]
  exact PySem.W.KIN.val_back n
theorem asc_dig {z : Str} (h : AllDigits z.cps.toList) : asc z := by
  unfold asc
  rw [Array.all_eq_true_iff_forall_mem]
  intro c hc
  have := h c (by simpa using hc)
  simp
  omega
theorem asc_nt (n : Nat) : asc (nt n) := asc_dig (by rw [nt_list]; exact dg_all n)
theorem nt_free (n c : Nat) (h : c < 48) : c ∉ (nt n).cps.toList := fun hc => by
  rw [nt_list] at hc
  have := dg_all n c hc
  omega
theorem in_fig {c : Nat} (h : c < 128) : (!(Builtin.Str.occurrences "0123456789" ⟨#[c]⟩ 0 ("0123456789" : Str).length 1).isEmpty) = figB c :=
  (by decide +kernel : ∀ c < 128, (!(Builtin.Str.occurrences "0123456789" ⟨#[c]⟩ 0 ("0123456789" : Str).length 1).isEmpty) = figB c) c h
theorem asc_lt {z : Str} (h : asc z) {i c : Nat} (hc : z.cps[i]? = some c) : c < 128 := by
  unfold asc at h
  rw [Array.all_eq_true_iff_forall_mem] at h
  simpa using h c (Array.mem_of_getElem? hc)
def partV (z sort : Str) : V := if sort = "root" then (if rootB z = true then .str z else .non) else if numB z = true then (if sort = "fields" ∧ 8 < numV z then .non else .int (numV z : Int)) else .non
theorem fold_join (s : Str) : ∀ (r : List Str) (x : Str), r.foldl (fun u v => u ++ s ++ v) x = s.join (x :: r)
  | [], x => by
    rw [Str.join.eq_2]
    rfl
  | y :: r, x => by
    rw [List.foldl_cons, fold_join s r, Str.join.eq_3 s x (y :: r) (by simp)]
    cases r with
    | nil => rw [Str.join.eq_2, Str.join.eq_2]
    | cons z r =>
      rw [Str.join.eq_3 s _ (z :: r) (by simp), Str.join.eq_3 s y (z :: r) (by simp)]
      apply str_toList
      simp only [Str.cps_append, Array.toList_append, List.append_assoc]
end L2
namespace L2
open PySem PySem.Spec PyProof.Rows
theorem Same.putD {H H3 : Hp} {D : PySem.Addr} {o : HO} (h : Same H H3) (hD : H D = none) : Same H (upd H3 D o) := fun b u e => by
  have n : b ≠ D := fun q => by rw [q, hD] at e; cases e
  rw [upd_ne n]
  exact h b u e
theorem Same.tseq {K : PySem.W.Frag} {H H' : Hp} {a : PySem.Addr} {xs : List V} (e : Same H H') (h : SqT K H a xs) : SqT K H' a xs := by
  rcases h with (h | ⟨o, h⟩) | h
  · exact .inl (.inl (e _ _ h))
  · exact .inl (.inr ⟨o, e _ _ h⟩)
  · exact .inr h
theorem lc_zip {K : PySem.W.Frag} {l1 l2 : PySem.Addr} {xs ys : List V} {fr : List Nat} {te : TE} {σ : St} {D : PySem.Addr} {Q : Hp → Prop} {H : Hp} (f : V → V → V) (hD : H D = none) (hx : SqL K H l1 xs) (hy : SqT K H l2 ys) (hl : xs.length = ys.length) (hz : xs.length ≤ 1000)
    (he : ∀ (i : Nat) x y (H2 : Hp) (R : VK), xs[i]? = some x → ys[i]? = some y → Same H H2 → (∀ H3, Same H2 H3 → R (f x y) H3) → te (lcSlots2 fr σ (some x) (some y)) H2 R) (hq : ∀ H2, Same H H2 → H2 D = some (.lst (List.zipWith f xs ys)) → Q H2) :
    lcLoop2 K (Itz K l1 l2) fr (fun _ H Q => Q true H) te σ D Q (upd H D (.lst [])) := by
  have hzl : (List.zipWith f xs ys).length = xs.length := by simp [hl]
  refine ⟨fun i m H2 => m + i = xs.length ∧ Same H H2 ∧ H2 D = some (.lst ((List.zipWith f xs ys).take i)), ⟨xs.length, rfl, .put hD, by simp [upd_same]⟩, ?_⟩
  rintro i m H2 ⟨hm, hs, hd⟩
  have hx2 := hs.seq hx
  have hy2 := hs.tseq hy
  cases m with
  | zero =>
    have e : i = xs.length := by omega
    subst e
    refine .inl ⟨⟨xs, hx2, rfl⟩, hq H2 hs ?_⟩
    rw [hd, ← hzl, List.take_length]
  | succ m =>
    have hi : i < xs.length := by omega
    have hi2 : i < ys.length := by omega
    refine .inr ⟨⟨xs, ys, xs[i], ys[i], hx2, hy2, List.getElem?_eq_getElem hi, List.getElem?_eq_getElem hi2⟩, fun v H' y => ?_⟩
    obtain ⟨t, x, y, ht, rfl, h1, h2, rfl⟩ := y
    have ex := h1 xs hx2
    have ey := h2 ys hy2
    refine ⟨t, x, y, rfl, .of upd_same, iteT ?_⟩
    refine he i x y _ _ ex ey (hs.trans (.put ht)) fun H3 hs3 => ?_
    have nt : D ≠ t := fun q => by rw [q, ht] at hd; cases hd
    have hd3 : H3 D = some (.lst ((List.zipWith f xs ys).take i)) := hs3 D _ (by rw [upd_ne nt]; exact hd)
    refine ⟨_, hd3, small1000 (by rw [List.length_take]; omega), m, by omega, by omega, Same.putD ((hs.trans (.put ht)).trans hs3) hD, ?_⟩
    have ez : (List.zipWith f xs ys)[i]? = some (f x y) := by rw [List.getElem?_zipWith, ex, ey]
    rw [upd_same, List.take_add_one, ez]
    rfl
theorem lc_tupS {K : PySem.W.Frag} {l : PySem.Addr} {xs : List V} {fr : List Nat} {te : TE} {σ : St} {D : PySem.Addr} {Q : Hp → Prop} {H : Hp} (ys : List V) (hD : H D = none) (hx : SqT K H l xs) (hl : ys.length = xs.length) (hz : xs.length ≤ 1000)
    (he : ∀ (i : Nat) x y (H2 : Hp) (R : VK), xs[i]? = some x → ys[i]? = some y → Same H H2 → (∀ H3, Same H2 H3 → R y H3) → te (lcSlots fr σ (some x)) H2 R) (hq : ∀ H2, Same H H2 → H2 D = some (.lst ys) → Q H2) :
    lcLoop (Itt K l) fr (fun _ H Q => Q true H) te σ D Q (upd H D (.lst [])) := by
  refine ⟨fun i m H2 => m + i = xs.length ∧ Same H H2 ∧ H2 D = some (.lst (ys.take i)), ⟨xs.length, rfl, .put hD, by simp [upd_same]⟩, ?_⟩
  rintro i m H2 ⟨hm, hs, hd⟩
  have hx2 := hs.tseq hx
  cases m with
  | zero =>
    have e : i = xs.length := by omega
    subst e
    refine .inl ⟨⟨xs, hx2, Nat.le_refl _⟩, hq H2 hs ?_⟩
    rw [hd, ← hl, List.take_length]
  | succ m =>
    have hi : i < xs.length := by omega
    have hi2 : i < ys.length := by omega
    refine .inr ⟨⟨xs, xs[i], hx2, List.getElem?_eq_getElem hi⟩, fun v H' y => ?_⟩
    obtain ⟨rfl, hv⟩ := y
    have ex := hv xs hx2
    refine iteT (he i v ys[i] _ _ ex (List.getElem?_eq_getElem hi2) hs fun H3 hs3 => ?_)
    refine ⟨_, hs3 D _ hd, small1000 (by rw [List.length_take]; omega), m, by omega, by omega, Same.putD (hs.trans hs3) hD, ?_⟩
    rw [upd_same, List.take_add_one, List.getElem?_eq_getElem hi2]
    rfl
theorem lc_lstS {K : PySem.W.Frag} {l : PySem.Addr} {xs : List V} {fr : List Nat} {te : TE} {σ : St} {D : PySem.Addr} {Q : Hp → Prop} {H : Hp} (ys : List V) (hD : H D = none) (hx : SqL K H l xs) (hl : ys.length = xs.length) (hz : xs.length ≤ 1000)
    (he : ∀ (i : Nat) x y (H2 : Hp) (R : VK), xs[i]? = some x → ys[i]? = some y → Same H H2 → (∀ H3, Same H2 H3 → R y H3) → te (lcSlots fr σ (some x)) H2 R) (hq : ∀ H2, Same H H2 → H2 D = some (.lst ys) → Q H2) :
    lcLoop (Itl K l) fr (fun _ H Q => Q true H) te σ D Q (upd H D (.lst [])) := by
  refine ⟨fun i m H2 => m + i = xs.length ∧ Same H H2 ∧ H2 D = some (.lst (ys.take i)), ⟨xs.length, rfl, .put hD, by simp [upd_same]⟩, ?_⟩
  rintro i m H2 ⟨hm, hs, hd⟩
  have hx2 := hs.seq hx
  cases m with
  | zero =>
    have e : i = xs.length := by omega
    subst e
    refine .inl ⟨⟨xs, hx2, Nat.le_refl _⟩, hq H2 hs ?_⟩
    rw [hd, ← hl, List.take_length]
  | succ m =>
    have hi : i < xs.length := by omega
    have hi2 : i < ys.length := by omega
    refine .inr ⟨⟨xs, xs[i], hx2, List.getElem?_eq_getElem hi⟩, fun v H' y => ?_⟩
    obtain ⟨rfl, hv⟩ := y
    have ex := hv xs hx2
    refine iteT (he i v ys[i] _ _ ex (List.getElem?_eq_getElem hi2) hs fun H3 hs3 => ?_)
    refine ⟨_, hs3 D _ hd, small1000 (by rw [List.length_take]; omega), m, by omega, by omega, Same.putD (hs.trans hs3) hD, ?_⟩
    rw [upd_same, List.take_add_one, List.getElem?_eq_getElem hi2]
    rfl
def strsOf : List Expr → Option (List Str)
  | [] => some []
  | .Constant (.str x) _ _ :: r => (strsOf r).map (x :: ·)
  | _ => none
def tStrs (ws : List Str) : TA := fun _ H Q => Q (ws.map V.str) H
theorem pa_strs {X : Cx} : ∀ {es : List Expr} {ws : List Str}, strsOf es = some ws → PA X es (tStrs ws)
  | [], ws, e => by
    cases e
    exact pa_nil
  | e :: r, ws, h => by
    unfold strsOf at h
    split at h
    · next h1 => cases h1
    · next x _ _ r' h1 =>
      cases h1
      cases h2 : strsOf r with
      | none =>
        rw [h2] at h
        cases h
      | some w2 =>
        rw [h2] at h
        cases h
        exact pa_cons pe_str (pa_strs h2)
    · cases h
theorem stT.strs {X : Cx} {i : Nat} {x : Str} {es : List Expr} {ws : List Str} {p1 p2 pos : Pos} {D : Ends} {σ : St} {H : Hp} (hN : X.N.Nodup) (hi : X.N[i]? = some x) (hx : Loc X.env.scope x) (he : strsOf es = some ws)
    (hs : swapsWith (.List es p2) (some (.Name x p1)) pos.line X.env = pure false) (hf : X.fn x = true ∨ X.env.scope.names.lookup x = some .local) (hl : ws.length ≤ 1000)
    (q : ∀ l, H l = none → D.nx (σ.set i (some (.ref l))) (upd H l (.lst (ws.map V.str)))) : stT X (.Assign [.Name x p1] (.List es p2) pos) D σ H := by
  refine stT.of (ps_set hN hi hx (pe_lst (pa_strs he)) hs hf) ?_
  refine ⟨?_, fun p hp => q p hp⟩
  rw [List.length_map]
  exact Nat.le_of_lt (small1000 hl)
def hid (D : PySem.Addr) (H : Hp) : Hp := fun b => if b = D then none else H b
theorem hid_ne {D b : PySem.Addr} {H : Hp} (h : b ≠ D) : hid D H b = H b := by unfold hid; rw [if_neg h]
theorem hid_same (D : PySem.Addr) (H : Hp) : Same (hid D H) H := fun b o e => by
  unfold hid at e
  split at e
  · cases e
  · exact e
theorem hid_upd (D : PySem.Addr) (H : Hp) (o : HO) : Same (hid D H) (hid D (upd H D o)) := fun b u e => by
  unfold hid at e ⊢
  split at e
  · cases e
  · next h => rw [if_neg h, upd_ne h]; exact e
theorem Same.hid {D : PySem.Addr} {H H' : Hp} (s : Same H H') : Same (hid D H) (hid D H') := fun b u e => by
  unfold L2.hid at e ⊢
  split at e
  · cases e
  · next h => rw [if_neg h]; exact s _ _ e
theorem lc_lstR {K : PySem.W.Frag} {l : PySem.Addr} {xs : List V} {fr : List Nat} {te : TE} {σ : St} {D : PySem.Addr} {Q : Hp → Prop} {H : Hp} (Rel : Nat → V → Hp → Prop) (mono : ∀ i y H H', Rel i y H → Same H H' → Rel i y H') (hD : H D = none) (hx : SqL K H l xs) (hz : xs.length ≤ 1000)
    (he : ∀ (i : Nat) x (H2 : Hp) (zs : List V) (R : VK), xs[i]? = some x → Same H H2 → H2 D = some (.lst zs) → (∀ y H3, Same H2 H3 → Rel i y (hid D H3) → R y H3) → te (lcSlots fr σ (some x)) H2 R)
    (hq : ∀ H2 (ys : List V), Same H H2 → H2 D = some (.lst ys) → ys.length = xs.length → (∀ (i : Nat) y, ys[i]? = some y → Rel i y H2) → Q H2) :
    lcLoop (Itl K l) fr (fun _ H Q => Q true H) te σ D Q (upd H D (.lst [])) := by
  refine ⟨fun i m H2 => m + i = xs.length ∧ Same H H2 ∧ ∃ ys, H2 D = some (.lst ys) ∧ ys.length = i ∧ ∀ (j : Nat) y, ys[j]? = some y → Rel j y (hid D H2), ⟨xs.length, rfl, .put hD, [], upd_same, rfl, fun j y e => by cases e⟩, ?_⟩
  rintro i m H2 ⟨hm, hs, ys, hd, hyl, hr⟩
  have hx2 := hs.seq hx
  cases m with
  | zero =>
    have e : i = xs.length := by omega
    exact .inl ⟨⟨xs, hx2, by omega⟩, hq H2 ys hs hd (by omega) fun j y e => mono _ _ _ _ (hr j y e) (hid_same D H2)⟩
  | succ m =>
    have hi : i < xs.length := by omega
    refine .inr ⟨⟨xs, xs[i], hx2, List.getElem?_eq_getElem hi⟩, fun v H' y => ?_⟩
    obtain ⟨rfl, hv⟩ := y
    have ex := hv xs hx2
    refine iteT (he i v _ ys _ ex hs hd fun y H3 hs3 hy => ?_)
    refine ⟨_, hs3 D _ hd, small1000 (by omega), m, by omega, by omega, Same.putD (hs.trans hs3) hD, _, upd_same, by rw [List.length_append, hyl]; rfl, fun j z ez => ?_⟩
    by_cases c : j < ys.length
    · rw [List.getElem?_append_left c] at ez
      exact mono _ _ _ _ (hr j z ez) (hs3.hid.trans (hid_upd D H3 _))
    · rw [List.getElem?_append_right (by omega)] at ez
      have hj := (List.getElem?_eq_some_iff.mp ez).1
      have e0 : j - ys.length = 0 := by simp at hj; omega
      rw [e0] at ez
      cases ez
      have : j = i := by omega
      subst this
      exact mono _ _ _ _ hy (hid_upd D H3 _)
theorem lc_tupR {K : PySem.W.Frag} {l : PySem.Addr} {xs : List V} {fr : List Nat} {te : TE} {σ : St} {D : PySem.Addr} {Q : Hp → Prop} {H : Hp} (Rel : Nat → V → Hp → Prop) (mono : ∀ i y H H', Rel i y H → Same H H' → Rel i y H') (hD : H D = none) (hx : SqT K H l xs) (hz : xs.length ≤ 1000)
    (he : ∀ (i : Nat) x (H2 : Hp) (zs : List V) (R : VK), xs[i]? = some x → Same H H2 → H2 D = some (.lst zs) → (∀ y H3, Same H2 H3 → Rel i y (hid D H3) → R y H3) → te (lcSlots fr σ (some x)) H2 R)
    (hq : ∀ H2 (ys : List V), Same H H2 → H2 D = some (.lst ys) → ys.length = xs.length → (∀ (i : Nat) y, ys[i]? = some y → Rel i y H2) → Q H2) :
    lcLoop (Itt K l) fr (fun _ H Q => Q true H) te σ D Q (upd H D (.lst [])) := by
  refine ⟨fun i m H2 => m + i = xs.length ∧ Same H H2 ∧ ∃ ys, H2 D = some (.lst ys) ∧ ys.length = i ∧ ∀ (j : Nat) y, ys[j]? = some y → Rel j y (hid D H2), ⟨xs.length, rfl, .put hD, [], upd_same, rfl, fun j y e => by cases e⟩, ?_⟩
  rintro i m H2 ⟨hm, hs, ys, hd, hyl, hr⟩
  have hx2 := hs.tseq hx
  cases m with
  | zero =>
    have e : i = xs.length := by omega
    exact .inl ⟨⟨xs, hx2, by omega⟩, hq H2 ys hs hd (by omega) fun j y e => mono _ _ _ _ (hr j y e) (hid_same D H2)⟩
  | succ m =>
    have hi : i < xs.length := by omega
    refine .inr ⟨⟨xs, xs[i], hx2, List.getElem?_eq_getElem hi⟩, fun v H' y => ?_⟩
    obtain ⟨rfl, hv⟩ := y
    have ex := hv xs hx2
    refine iteT (he i v _ ys _ ex hs hd fun y H3 hs3 hy => ?_)
    refine ⟨_, hs3 D _ hd, small1000 (by omega), m, by omega, by omega, Same.putD (hs.trans hs3) hD, _, upd_same, by rw [List.length_append, hyl]; rfl, fun j z ez => ?_⟩
    by_cases c : j < ys.length
    · rw [List.getElem?_append_left c] at ez
      exact mono _ _ _ _ (hr j z ez) (hs3.hid.trans (hid_upd D H3 _))
    · rw [List.getElem?_append_right (by omega)] at ez
      have hj := (List.getElem?_eq_some_iff.mp ez).1
      have e0 : j - ys.length = 0 := by simp at hj; omega
      rw [e0] at ez
      cases ez
      have : j = i := by omega
      subst this
      exact mono _ _ _ _ hy (hid_upd D H3 _)
end L2
namespace L2
open PySem PySem.Spec PyProof.Rows
section
variable {X : Cx}
def tFs (c : Str) (te : TE) : TE := fun σ H Q => c.length ≤ sizeLine ∧ te σ H fun v H1 => ∃ n : Int, v = .int n ∧ n.natAbs.log2 < 1920 ∧ (c ++ (Str.ofString (toString n))).length ≤ sizeLine ∧ Q (.str (c ++ Str.ofString (toString n))) H1
theorem pe_fstr {c : Str} {j : Nat} {p1 p2 p3 : Pos} {e : Expr} {te : TE} (he : PE X e te) : PE X (.JoinedStr [.Constant (.str c) j p1, .FormattedValue e (-1) none p2] p3) (tFs c te) := by
  intro pins s σ H Q I h
  refine JoinedStr_many ?_
  obtain ⟨hc, h⟩ := h
  refine joinParts_cons (Calls.Constant_str ?_)
  show (Str.empty ++ c).length ≤ sizeLine ∧ wpAny (model X.prog X.w) X.A (joinParts (Str.empty ++ c) _) (EP X pins σ Q) X.xe _
  rw [Str.empty_append]
  refine ⟨hc, joinParts_cons (FormattedValue_plain (thn (he pins _ σ H _ (I.tok _) h) fun u s1 ⟨x, H1, I1, r1, n, e, hn, hl, q1⟩ => ?_))⟩
  subst e
  obtain ⟨t, rfl⟩ := r1
  refine formatField_int_small hn ⟨hl, joinParts_nil ?_ hl⟩
  exact ⟨.str _, H1, (I1.tok _), ⟨_, rfl⟩, q1⟩
theorem mt_partition : MtR X "str.partition" (fun x vs H Q => ∃ z sep i, x = .str z ∧ vs = [.str sep] ∧ (sep.length == 0) = false ∧ z.length ≤ sizeLine ∧ Builtin.Str.occurrences z sep 0 z.length 1 = [i] ∧
    ∀ l, H l = none → Q (.ref l) (upd H l (.tup [.str (Builtin.Str.strSub z 0 i), .str sep, .str (Builtin.Str.strSub z (i + sep.length) z.length)]))) := by
  intro pins s σ H x vs v us Q I rx rv h
  obtain ⟨z, sep, i, rfl, rfl, hs, hz, ho, q⟩ := h
  obtain ⟨t, rfl⟩ := rx
  obtain ⟨u, rfl, t2, rfl⟩ := rv.one
  refine call_meets PySem.F.slot_str_partition (typeIs_str s z t) PySem.F.entry_str_partition (PySem.F.args_str_partition_2 _ _) (meets_str_partition z sep t t2 hs hz) ?_
  rw [ho]
  have h3 : Vals [V.str (Builtin.Str.strSub z 0 i), V.str sep, V.str (Builtin.Str.strSub z (i + sep.length) z.length)] [.str (Builtin.Str.strSub z 0 i) s.toks, .str sep t2, .str (Builtin.Str.strSub z (i + sep.length) z.length) (s.toks + 1)] := .cons ⟨_, rfl⟩ (.cons ⟨_, rfl⟩ (.cons ⟨_, rfl⟩ .nil))
  refine ⟨.ref s.heap.objs.size, _, I.laid (t' := s.toks + 1 + 1) (o := .tup [.str (Builtin.Str.strSub z 0 i), .str sep, .str (Builtin.Str.strSub z (i + sep.length) z.length)]) (fun b u e => Heap.get?_push_of_some _ e) (Nat.le_refl _) ?_, rfl, q _ I.fresh⟩
  exact ⟨by show 3 ≤ sizeLine; decide, _, h3, ⟨_, Heap.get?_push_size _ rfl, rfl, _, rfl⟩⟩
theorem ps_tryC {body : List Stmt} {h0 : ExceptHandler} {hs : List ExceptHandler} {pos : Pos} {t : TS} (hx : ∀ e s, ¬ X.xe e s) (h : PSs X body t) : PS X (.Try body (h0 :: hs) [] [] pos) t := by
  intro pins s σ H D I q
  refine wpAny_Try_except (wpAny_mono (h pins s σ H D I q) (fun f s1 h1 => ?_) fun e s1 h1 => (hx e s1 h1).elim)
  cases f with
  | next => exact wpAny_execs_nil h1
  | brk => exact h1
  | cont => exact h1
  | ret u => exact h1
end
theorem str_app_list (a b : Str) : (a ++ b).cps.toList = a.cps.toList ++ b.cps.toList := by rw [Str.cps_append, Array.toList_append]
theorem arrow_at {u v : Str} (hu : 45 ∉ u.cps.toList) (hv : 45 ∉ v.cps.toList) : Builtin.Str.occurrences (u ++ " -> " ++ v) " -> " 0 (u ++ " -> " ++ v).length 1 = [u.length] := by
  have hl : (u ++ " -> " ++ v).length = u.length + 4 + v.length := by
    rw [strLen_append, strLen_append]
    rfl
  have el : (u ++ " -> " ++ v).cps.toList = u.cps.toList ++ ([32, 45, 62, 32] ++ v.cps.toList) := by
    rw [str_app_list, str_app_list, List.append_assoc]
    rfl
  have ul : u.cps.toList.length = u.length := Array.length_toList
  have sub : ∀ i, Builtin.Str.subAt (u ++ " -> " ++ v) " -> " i = true → i = u.length := fun i h => by
    unfold Builtin.Str.subAt at h
    have h := beq_iff_eq.mp h
    have h1 : ((u ++ (" -> " : Str) ++ v).cps.extract i (i + (" -> " : Str).length)).toList = [32, 45, 62, 32] := by rw [h]; rfl
    rw [Array.toList_extract, List.extract_eq_take_drop] at h1
    rw [el] at h1
    have h2 : ((u.cps.toList ++ ([32, 45, 62, 32] ++ v.cps.toList)).drop i)[1]? = some 45 := by
      have := congrArg (fun l => l[1]?) h1
      simp only [List.getElem?_take] at this
      rw [if_pos (by have : (Str.ofString " -> ").length = 4 := rfl; omega)] at this
      exact this
    rw [List.getElem?_drop] at h2
    by_cases c : i + 1 < u.cps.toList.length
    · rw [List.getElem?_append_left c] at h2
      exact absurd (List.mem_of_getElem? h2) hu
    · rw [List.getElem?_append_right (by omega)] at h2
      by_cases c2 : i + 1 - u.cps.toList.length < 4
      · rw [List.getElem?_append_left (by simpa using c2)] at h2
        obtain ⟨k, ek⟩ : ∃ k, i + 1 - u.cps.toList.length = k := ⟨_, rfl⟩
        rw [ek] at h2 c2
        have : k = 1 := by
          rcases k with _ | _ | _ | _ | k
          · simp at h2
          · rfl
          · simp at h2
          · simp at h2
          · omega
        subst this
        have e5 : i + 1 - u.cps.toList.length = 1 := ek
        omega
      · rw [List.getElem?_append_right (by simpa using c2)] at h2
        exact absurd (List.mem_of_getElem? h2) hv
  have le := StrLaws.occ_length_le (u ++ " -> " ++ v) " -> " 0 (u ++ " -> " ++ v).length 1
  have ne := (StrLaws.found_iff (u ++ " -> " ++ v) " -> ").mpr ⟨u.length, by rw [hl]; exact Nat.le_add_right _ _, ?_⟩
  · have sp := StrLaws.occ_spec (u ++ " -> " ++ v) " -> " 0 (u ++ " -> " ++ v).length 1
    generalize Builtin.Str.occurrences (u ++ " -> " ++ v) " -> " 0 (u ++ " -> " ++ v).length 1 = L at le ne sp
    match L, le, ne, sp with
    | [], _, ne, _ => cases ne
    | [i], _, _, sp => rw [sub i (sp i (List.mem_cons_self ..)).2]
    | _ :: _ :: _, le, _, _ => simp at le
  · unfold Builtin.Str.subAt
    refine beq_iff_eq.mpr (Array.toList_inj.mp ?_)
    rw [Array.toList_extract, List.extract_eq_take_drop, el, ← ul, List.drop_left, Nat.add_sub_cancel_left]
    rfl
theorem arrow_left {u v : Str} : Builtin.Str.strSub (u ++ " -> " ++ v) 0 u.length = u := by
  apply str_toList
  show ((u ++ (" -> " : Str) ++ v).cps.extract 0 u.length).toList = _
  rw [Array.toList_extract, List.extract_eq_take_drop, str_app_list, str_app_list, List.append_assoc]
  rw [show u.length = u.cps.toList.length from Array.length_toList.symm]
  simp
theorem arrow_right {u v : Str} : Builtin.Str.strSub (u ++ " -> " ++ v) (u.length + (" -> " : Str).length) (u ++ " -> " ++ v).length = v := by
  apply str_toList
  show ((u ++ (" -> " : Str) ++ v).cps.extract _ _).toList = _
  rw [Array.toList_extract, List.extract_eq_take_drop, str_app_list, List.drop_left' (by rw [str_app_list, List.length_append]; rfl), strLen_append, strLen_append]
  rw [List.take_of_length_le]
  rw [show v.length = v.cps.toList.length from Array.length_toList.symm]
  omega
theorem pi_tupC {X : Cx} {tg l : Expr} {tl : TE} {K : PySem.W.Frag} (h : X.K = K) (hl : PE X l tl) : PI X tg l (iTup K tl) := by
  subst h
  exact pi_tup hl
theorem call_list_ofC {X : Cx} {K : PySem.W.Frag} (h : X.K = K) : CallR X (.type "list") (fun xs H Q => ∃ p ys, xs = [.ref p] ∧ (SqL K H p ys ∨ SqT K H p ys) ∧ ∀ l, H l = none → Q (.ref l) (upd H l (.lst ys))) := by
  subst h
  exact call_list_of
theorem call_tuple_ofC {X : Cx} {K : PySem.W.Frag} (h : X.K = K) : CallR X (.type "tuple") (fun xs H Q => ∃ p ys, xs = [.ref p] ∧ ((SqL K H p ys ∧ ∀ l, H l = none → Q (.ref l) (upd H l (.tup ys))) ∨ (SqT K H p ys ∧ Q (.ref p) H))) := by
  subst h
  exact call_tuple_of
theorem call_isinstSC {X : Cx} {K : PySem.W.Frag} (h : X.K = K) : CallR X (.builtin "isinstance") (fun xs H Q => ∃ x n t b, xs = [x, .ty n] ∧ TyS K H x t ∧ PySem.W.kitOne K t (.type n) = some b ∧ Q (.bl b) H) := by
  subst h
  exact call_isinstS
end L2
set_option Elab.async false
set_option linter.all false
set_option maxRecDepth 100000
set_option maxHeartbeats 4000000
namespace K80
open PySem L2
local macro_rules | `(tactic| dsimp! [$xs,*]) => `(tactic| simp only [tSeq, tNext, tRet, tRetN, tIfS, tIf, tB, tTest, tOp, tUn, tVar, tC, rI0, rI, rU, tAsg, gName, gNil, gCons, gLst, gTup, gSub, tDrop, tCons, tNil, tCall, tCB, tBM, tBM0, tMeth, tMake, tSl, tPart, tNoPart, tFld, sFld, tAnd, tOr, tNot, tAndV, tOrV, tNotV, L2.start, rEq, rNe, scal_ii, scal_bb, scal_ss, scal_in, scal_ni, tLst, tTup, cxOf_K, List.map_cons, List.map_nil, List.length_cons, List.length_nil, List.replicate_succ, List.replicate_zero, Nat.reduceAdd, Nat.reduceSub, Nat.zero_add, Nat.sub_self, Nat.zero_le, List.cons_append, List.nil_append, List.append_nil, List.set_cons_zero, List.set_cons_succ, List.getElem?_cons_zero, List.getElem?_cons_succ, Option.some.injEq, V.int.injEq, V.bl.injEq, V.ref.injEq, V.ty.injEq, V.str.injEq, List.cons.injEq, exists_eq_left', exists_eq_left, exists_eq_right, exists_and_left, exists_const, true_and, and_true, Bool.not_true, Bool.not_false, Bool.false_eq_true, if_true, if_false, reduceCtorEq, false_and, and_false, false_or, or_false, exists_false, decide_true, decide_false, eq_self, and_assoc, Int.toNat_natCast, tLc, tForW, tWhileW, iRng1, iRng2, iList, iTup, iEnum, iEnum0, iZip, iStr, tLc2, tGetK, tNever, tChain, tAug, ipI, tMethV, tDGet, tDIn, tDNotIn, sDPut, tDNewK, tDGet1, tDGet2, tDPop1, tDPop2, iDict, tThaw, tThawV, tFs, $xs,*])
def top (i : Nat) : Stmt := PySem.Challenge.pw_heapsafe_k80_logs_both_ways.main.body.getD i (.Pass ⟨0, 0, 0, 0⟩)
abbrev s_is_root : Stmt := top 9
abbrev s_is_number : Stmt := top 10
abbrev s_part_read : Stmt := top 11
abbrev s_deed_read : Stmt := top 12
abbrev s_deed_shown : Stmt := top 13
abbrev s_serials_shown : Stmt := top 19
abbrev s_row_shown : Stmt := top 20
abbrev s_log_shown : Stmt := top 21
abbrev s_log_read : Stmt := top 22
abbrev s_row_read : Stmt := top 23
abbrev s_freed_read : Stmt := top 24
abbrev s_turn_read : Stmt := top 25
abbrev s_parted : Stmt := top 26
abbrev s_serials_read : Stmt := top 27
abbrev s_deed_row_read : Stmt := top 28
abbrev s_law_whole : Stmt := top 30
abbrev s_law_cell_at : Stmt := top 31
abbrev s_law_drawn : Stmt := top 32
abbrev s_law_deed_by : Stmt := top 33
abbrev s_law_row : Stmt := top 34
abbrev s_law_numbers : Stmt := top 35
abbrev s_law_log_row : Stmt := top 36
abbrev s_law_log_text : Stmt := top 37
abbrev s_law_form : Stmt := top 38
abbrev s_law : Stmt := top 39
theorem sc_is_root : FnScope ["text"] ["text"] (defScope s_is_root) := ⟨rfl, rfl, rfl, by decide +kernel, rfl, by decide +kernel, by decide +kernel⟩
theorem sc_is_number : FnScope ["text"] ["text"] (defScope s_is_number) := ⟨rfl, rfl, rfl, by decide +kernel, rfl, by decide +kernel, by decide +kernel⟩
theorem sc_part_read : FnScope ["text", "wanted", "number"] ["text", "wanted"] (defScope s_part_read) := ⟨rfl, rfl, rfl, by decide +kernel, rfl, by decide +kernel, by decide +kernel⟩
theorem sc_deed_read : FnScope ["text", "words", "wanted", "parts"] ["text"] (defScope s_deed_read) := ⟨rfl, rfl, rfl, by decide +kernel, rfl, by decide +kernel, by decide +kernel⟩
theorem sc_deed_shown : FnScope ["deed"] ["deed"] (defScope s_deed_shown) := ⟨rfl, rfl, rfl, by decide +kernel, rfl, by decide +kernel, by decide +kernel⟩
theorem sc_serials_shown : FnScope ["serials"] ["serials"] (defScope s_serials_shown) := ⟨rfl, rfl, rfl, by decide +kernel, rfl, by decide +kernel, by decide +kernel⟩
theorem sc_row_shown : FnScope ["row"] ["row"] (defScope s_row_shown) := ⟨rfl, rfl, rfl, by decide +kernel, rfl, by decide +kernel, by decide +kernel⟩
theorem sc_log_shown : FnScope ["log"] ["log"] (defScope s_log_shown) := ⟨rfl, rfl, rfl, by decide +kernel, rfl, by decide +kernel, by decide +kernel⟩
theorem sc_log_read : FnScope ["text", "log", "number", "row", "told"] ["text"] (defScope s_log_read) := ⟨rfl, rfl, rfl, by decide +kernel, rfl, by decide +kernel, by decide +kernel⟩
theorem sc_row_read : FnScope ["row", "words"] ["row"] (defScope s_row_read) := ⟨rfl, rfl, rfl, by decide +kernel, rfl, by decide +kernel, by decide +kernel⟩
theorem sc_freed_read : FnScope ["words", "serials"] ["words"] (defScope s_freed_read) := ⟨rfl, rfl, rfl, by decide +kernel, rfl, by decide +kernel, by decide +kernel⟩
theorem sc_turn_read : FnScope ["words", "lists"] ["words"] (defScope s_turn_read) := ⟨rfl, rfl, rfl, by decide +kernel, rfl, by decide +kernel, by decide +kernel⟩
theorem sc_parted : FnScope ["words", "lists", "word"] ["words"] (defScope s_parted) := ⟨rfl, rfl, rfl, by decide +kernel, rfl, by decide +kernel, by decide +kernel⟩
theorem sc_serials_read : FnScope ["words"] ["words"] (defScope s_serials_read) := ⟨rfl, rfl, rfl, by decide +kernel, rfl, by decide +kernel, by decide +kernel⟩
theorem sc_deed_row_read : FnScope ["row", "parts", "deed"] ["row"] (defScope s_deed_row_read) := ⟨rfl, rfl, rfl, by decide +kernel, rfl, by decide +kernel, by decide +kernel⟩
theorem sc_law_whole : FnScope ["_law_found"] ["_law_found"] (defScope s_law_whole) := ⟨rfl, rfl, rfl, by decide +kernel, rfl, by decide +kernel, by decide +kernel⟩
theorem sc_law_cell_at : FnScope ["_law_script", "_law_k"] ["_law_script", "_law_k"] (defScope s_law_cell_at) := ⟨rfl, rfl, rfl, by decide +kernel, rfl, by decide +kernel, by decide +kernel⟩
theorem sc_law_drawn : FnScope ["_law_cell", "_law_sizes", "_law_free", "_law_number", "_law_other", "_law_found", "_law_size"] ["_law_cell", "_law_sizes", "_law_free"] (defScope s_law_drawn) := ⟨rfl, rfl, rfl, by decide +kernel, rfl, by decide +kernel, by decide +kernel⟩
theorem sc_law_deed_by : FnScope ["_law_cell", "_law_free", "_law_words", "_law_signs", "_law_which", "_law_one", "_law_two", "_law_three", "_law_at", "_law_few", "_law_far", "_law_rest", "_law_word", "_law_number"] ["_law_cell", "_law_free"] (defScope s_law_deed_by) := ⟨rfl, rfl, rfl, by decide +kernel, rfl, by decide +kernel, by decide +kernel⟩
theorem sc_law_row : FnScope ["_law_deed", "_law_found", "_law_part"] ["_law_deed"] (defScope s_law_row) := ⟨rfl, rfl, rfl, by decide +kernel, rfl, by decide +kernel, by decide +kernel⟩
theorem sc_law_numbers : FnScope ["_law_number", "_law_many", "_law_found", "_law_k"] ["_law_number", "_law_many"] (defScope s_law_numbers) := ⟨rfl, rfl, rfl, by decide +kernel, rfl, by decide +kernel, by decide +kernel⟩
theorem sc_law_log_row : FnScope ["_law_cell", "_law_free", "_law_way", "_law_many", "_law_ans", "_law_rest", "_law_answers", "_law_parts", "_law_k", "_law_some"] ["_law_cell", "_law_free"] (defScope s_law_log_row) := ⟨rfl, rfl, rfl, by decide +kernel, rfl, by decide +kernel, by decide +kernel⟩
theorem sc_law_log_text : FnScope ["_law_row_here", "_law_text", "_law_some", "_law_serial"] ["_law_row_here"] (defScope s_law_log_text) := ⟨rfl, rfl, rfl, by decide +kernel, rfl, by decide +kernel, by decide +kernel⟩
theorem sc_law_form : FnScope ["_law_found", "_law_row_here", "_law_some"] ["_law_found"] (defScope s_law_form) := ⟨rfl, rfl, rfl, by decide +kernel, rfl, by decide +kernel, by decide +kernel⟩
theorem sc_law : FnScope ["_law_script", "_law_free", "_law_log", "_law_text", "_law_handed", "_law_told", "_law_found", "_law_row_here", "_law_some"] ["_law_script"] (defScope s_law) := ⟨rfl, rfl, rfl, by decide +kernel, rfl, by decide +kernel, by decide +kernel⟩
set_option genInjectivity false in
set_option genSizeOfSpec false in
structure Adr where
  a_is_root : Addr
  d_is_root : FuncData
  a_is_number : Addr
  d_is_number : FuncData
  a_part_read : Addr
  d_part_read : FuncData
  a_deed_read : Addr
  d_deed_read : FuncData
  a_deed_shown : Addr
  d_deed_shown : FuncData
  a_serials_shown : Addr
  d_serials_shown : FuncData
  a_row_shown : Addr
  d_row_shown : FuncData
  a_log_shown : Addr
  d_log_shown : FuncData
  a_log_read : Addr
  d_log_read : FuncData
  a_row_read : Addr
  d_row_read : FuncData
  a_freed_read : Addr
  d_freed_read : FuncData
  a_turn_read : Addr
  d_turn_read : FuncData
  a_parted : Addr
  d_parted : FuncData
  a_serials_read : Addr
  d_serials_read : FuncData
  a_deed_row_read : Addr
  d_deed_row_read : FuncData
  a_law_whole : Addr
  d_law_whole : FuncData
  a_law_cell_at : Addr
  d_law_cell_at : FuncData
  a_law_drawn : Addr
  d_law_drawn : FuncData
  a_law_deed_by : Addr
  d_law_deed_by : FuncData
  a_law_row : Addr
  d_law_row : FuncData
  a_law_numbers : Addr
  d_law_numbers : FuncData
  a_law_log_row : Addr
  d_law_log_row : FuncData
  a_law_log_text : Addr
  d_law_log_text : FuncData
  a_law_form : Addr
  d_law_form : FuncData
  a_law : Addr
  d_law : FuncData
  c_HeapError : Addr
  c_NoDeed : Addr
  c_NoLog : Addr
  t_MOST_FIELDS : Tok
  t_MOST_FIGURES : Tok
  t_FIGURES : Tok
  t_PARTS : Addr
  u_PARTS_0 : Addr
  u_PARTS_1 : Addr
  u_PARTS_2 : Addr
  u_PARTS_3 : Addr
  u_PARTS_4 : Addr
  u_PARTS_5 : Addr
  u_PARTS_6 : Addr
  u_PARTS_7 : Addr
  u_PARTS_8 : Addr
  u_PARTS_9 : Addr
  u_PARTS_10 : Addr
  u_PARTS_11 : Addr
  u_PARTS_12 : Addr
  u_PARTS_13 : Addr
  t_ANSWERS : Addr
  t_BARE : Addr
  t_ARROW : Tok
  t_LISTS_OF_A_TURN : Tok
structure Txt (K : PySem.W.Frag) (mg : Str → Option Value) (a : Adr) : Prop where
  f_is_root : Fun K "is_root" "is_root" s_is_root a.a_is_root a.d_is_root
  b_is_root : Binds K a.d_is_root ["text"] []
  m_is_root : mg "is_root" = some (.ref a.a_is_root)
  f_is_number : Fun K "is_number" "is_number" s_is_number a.a_is_number a.d_is_number
  b_is_number : Binds K a.d_is_number ["text"] []
  m_is_number : mg "is_number" = some (.ref a.a_is_number)
  f_part_read : Fun K "part_read" "part_read" s_part_read a.a_part_read a.d_part_read
  b_part_read : Binds K a.d_part_read ["text", "wanted"] []
  m_part_read : mg "part_read" = some (.ref a.a_part_read)
  f_deed_read : Fun K "deed_read" "deed_read" s_deed_read a.a_deed_read a.d_deed_read
  b_deed_read : Binds K a.d_deed_read ["text"] []
  m_deed_read : mg "deed_read" = some (.ref a.a_deed_read)
  f_deed_shown : Fun K "deed_shown" "deed_shown" s_deed_shown a.a_deed_shown a.d_deed_shown
  b_deed_shown : Binds K a.d_deed_shown ["deed"] []
  m_deed_shown : mg "deed_shown" = some (.ref a.a_deed_shown)
  f_serials_shown : Fun K "serials_shown" "serials_shown" s_serials_shown a.a_serials_shown a.d_serials_shown
  b_serials_shown : Binds K a.d_serials_shown ["serials"] []
  m_serials_shown : mg "serials_shown" = some (.ref a.a_serials_shown)
  f_row_shown : Fun K "row_shown" "row_shown" s_row_shown a.a_row_shown a.d_row_shown
  b_row_shown : Binds K a.d_row_shown ["row"] []
  m_row_shown : mg "row_shown" = some (.ref a.a_row_shown)
  f_log_shown : Fun K "log_shown" "log_shown" s_log_shown a.a_log_shown a.d_log_shown
  b_log_shown : Binds K a.d_log_shown ["log"] []
  m_log_shown : mg "log_shown" = some (.ref a.a_log_shown)
  f_log_read : Fun K "log_read" "log_read" s_log_read a.a_log_read a.d_log_read
  b_log_read : Binds K a.d_log_read ["text"] []
  m_log_read : mg "log_read" = some (.ref a.a_log_read)
  f_row_read : Fun K "row_read" "row_read" s_row_read a.a_row_read a.d_row_read
  b_row_read : Binds K a.d_row_read ["row"] []
  m_row_read : mg "row_read" = some (.ref a.a_row_read)
  f_freed_read : Fun K "freed_read" "freed_read" s_freed_read a.a_freed_read a.d_freed_read
  b_freed_read : Binds K a.d_freed_read ["words"] []
  m_freed_read : mg "freed_read" = some (.ref a.a_freed_read)
  f_turn_read : Fun K "turn_read" "turn_read" s_turn_read a.a_turn_read a.d_turn_read
  b_turn_read : Binds K a.d_turn_read ["words"] []
  m_turn_read : mg "turn_read" = some (.ref a.a_turn_read)
  f_parted : Fun K "parted" "parted" s_parted a.a_parted a.d_parted
  b_parted : Binds K a.d_parted ["words"] []
  m_parted : mg "parted" = some (.ref a.a_parted)
  f_serials_read : Fun K "serials_read" "serials_read" s_serials_read a.a_serials_read a.d_serials_read
  b_serials_read : Binds K a.d_serials_read ["words"] []
  m_serials_read : mg "serials_read" = some (.ref a.a_serials_read)
  f_deed_row_read : Fun K "deed_row_read" "deed_row_read" s_deed_row_read a.a_deed_row_read a.d_deed_row_read
  b_deed_row_read : Binds K a.d_deed_row_read ["row"] []
  m_deed_row_read : mg "deed_row_read" = some (.ref a.a_deed_row_read)
  f_law_whole : Fun K "_law_whole" "_law_whole" s_law_whole a.a_law_whole a.d_law_whole
  b_law_whole : Binds K a.d_law_whole ["_law_found"] []
  m_law_whole : mg "_law_whole" = some (.ref a.a_law_whole)
  f_law_cell_at : Fun K "_law_cell_at" "_law_cell_at" s_law_cell_at a.a_law_cell_at a.d_law_cell_at
  b_law_cell_at : Binds K a.d_law_cell_at ["_law_script", "_law_k"] []
  m_law_cell_at : mg "_law_cell_at" = some (.ref a.a_law_cell_at)
  f_law_drawn : Fun K "_law_drawn" "_law_drawn" s_law_drawn a.a_law_drawn a.d_law_drawn
  b_law_drawn : Binds K a.d_law_drawn ["_law_cell", "_law_sizes", "_law_free"] []
  m_law_drawn : mg "_law_drawn" = some (.ref a.a_law_drawn)
  f_law_deed_by : Fun K "_law_deed_by" "_law_deed_by" s_law_deed_by a.a_law_deed_by a.d_law_deed_by
  b_law_deed_by : Binds K a.d_law_deed_by ["_law_cell", "_law_free"] []
  m_law_deed_by : mg "_law_deed_by" = some (.ref a.a_law_deed_by)
  f_law_row : Fun K "_law_row" "_law_row" s_law_row a.a_law_row a.d_law_row
  b_law_row : Binds K a.d_law_row ["_law_deed"] []
  m_law_row : mg "_law_row" = some (.ref a.a_law_row)
  f_law_numbers : Fun K "_law_numbers" "_law_numbers" s_law_numbers a.a_law_numbers a.d_law_numbers
  b_law_numbers : Binds K a.d_law_numbers ["_law_number", "_law_many"] []
  m_law_numbers : mg "_law_numbers" = some (.ref a.a_law_numbers)
  f_law_log_row : Fun K "_law_log_row" "_law_log_row" s_law_log_row a.a_law_log_row a.d_law_log_row
  b_law_log_row : Binds K a.d_law_log_row ["_law_cell", "_law_free"] []
  m_law_log_row : mg "_law_log_row" = some (.ref a.a_law_log_row)
  f_law_log_text : Fun K "_law_log_text" "_law_log_text" s_law_log_text a.a_law_log_text a.d_law_log_text
  b_law_log_text : Binds K a.d_law_log_text ["_law_row_here"] []
  m_law_log_text : mg "_law_log_text" = some (.ref a.a_law_log_text)
  f_law_form : Fun K "_law_form" "_law_form" s_law_form a.a_law_form a.d_law_form
  b_law_form : Binds K a.d_law_form ["_law_found"] []
  m_law_form : mg "_law_form" = some (.ref a.a_law_form)
  f_law : Fun K "law" "law" s_law a.a_law a.d_law
  m_law : mg "law" = some (.ref a.a_law)
  c_MOST_FIELDS : mg "MOST_FIELDS" = some (.int 8 a.t_MOST_FIELDS)
  c_MOST_FIGURES : mg "MOST_FIGURES" = some (.int 60 a.t_MOST_FIGURES)
  c_FIGURES : mg "FIGURES" = some (.str "0123456789" a.t_FIGURES)
  c_PARTS : mg "PARTS" = some (.ref a.t_PARTS)
  tb_PARTS : TabK K a.t_PARTS [("num", a.u_PARTS_0), ("make", a.u_PARTS_1), ("weak", a.u_PARTS_2), ("pair", a.u_PARTS_3), ("words", a.u_PARTS_4), ("put", a.u_PARTS_5), ("get", a.u_PARTS_6), ("look", a.u_PARTS_7), ("find", a.u_PARTS_8), ("copy", a.u_PARTS_9), ("drop", a.u_PARTS_10), ("tell", a.u_PARTS_11), ("same", a.u_PARTS_12), ("hear", a.u_PARTS_13)]
  qu_PARTS_0 : ∀ H : Hp, SqT K H a.u_PARTS_0 [.str "root", .str "number"]
  qu_PARTS_1 : ∀ H : Hp, SqT K H a.u_PARTS_1 [.str "root", .str "fields"]
  qu_PARTS_2 : ∀ H : Hp, SqT K H a.u_PARTS_2 [.str "root", .str "root"]
  qu_PARTS_3 : ∀ H : Hp, SqT K H a.u_PARTS_3 [.str "root", .str "root", .str "root"]
  qu_PARTS_4 : ∀ H : Hp, SqT K H a.u_PARTS_4 [.str "root", .str "number"]
  qu_PARTS_5 : ∀ H : Hp, SqT K H a.u_PARTS_5 [.str "root", .str "number", .str "root"]
  qu_PARTS_6 : ∀ H : Hp, SqT K H a.u_PARTS_6 [.str "root", .str "root", .str "number"]
  qu_PARTS_7 : ∀ H : Hp, SqT K H a.u_PARTS_7 [.str "root", .str "root"]
  qu_PARTS_8 : ∀ H : Hp, SqT K H a.u_PARTS_8 [.str "root", .str "root", .str "root"]
  qu_PARTS_9 : ∀ H : Hp, SqT K H a.u_PARTS_9 [.str "root", .str "root"]
  qu_PARTS_10 : ∀ H : Hp, SqT K H a.u_PARTS_10 [.str "root"]
  qu_PARTS_11 : ∀ H : Hp, SqT K H a.u_PARTS_11 [.str "root"]
  qu_PARTS_12 : ∀ H : Hp, SqT K H a.u_PARTS_12 [.str "root", .str "root"]
  qu_PARTS_13 : ∀ H : Hp, SqT K H a.u_PARTS_13 [.str "root"]
  c_ANSWERS : mg "ANSWERS" = some (.ref a.t_ANSWERS)
  d_ANSWERS : ∃ o, K.lookup a.t_ANSWERS = some o ∧ o.cls = .type "tuple" ∧ o.dict = none
  q_ANSWERS : ∀ H : Hp, SqT K H a.t_ANSWERS [.str "ok", .str "yes", .str "no", .str "none", .str "thing", .str "nothing", .str "no thing", .str "no field", .str "no room"]
  c_BARE : mg "BARE" = some (.ref a.t_BARE)
  d_BARE : ∃ o, K.lookup a.t_BARE = some o ∧ o.cls = .type "tuple" ∧ o.dict = none
  q_BARE : ∀ H : Hp, SqT K H a.t_BARE [.str "begin", .str "end", .str "packed"]
  c_ARROW : mg "ARROW" = some (.str " -> " a.t_ARROW)
  c_LISTS_OF_A_TURN : mg "LISTS_OF_A_TURN" = some (.int 7 a.t_LISTS_OF_A_TURN)
  n_abs : mg "abs" = none
  n_all : mg "all" = none
  n_any : mg "any" = none
  n_bool : mg "bool" = none
  n_enumerate : mg "enumerate" = none
  n_int : mg "int" = none
  n_isinstance : mg "isinstance" = none
  n_len : mg "len" = none
  n_list : mg "list" = none
  n_range : mg "range" = none
  n_str : mg "str" = none
  n_tuple : mg "tuple" = none
  n_zip : mg "zip" = none
section
variable {P : Program} {w : World} {K : PySem.W.Frag} {mg : Str → Option Value} {base : Heap} {a : Adr}
def sp_is_root : Sp := fun vs H Q _ => ∃ z, vs = [.str z] ∧ z.length ≤ 1000 ∧ Q (.bl (rootB z)) H
theorem ok_is_root (T : Txt K mg a) : FnOk P w K mg base CX0 1 a.a_is_root a.d_is_root ["text"] sp_is_root := by
  refine T.f_is_root.ok sc_is_root (fun vs H Q E h => ?_) (fun cdv A outer s H vs Q E hr h => ?_)
  · obtain ⟨_, rfl, _⟩ := h
    rfl
  · obtain ⟨z, rfl, hz, q⟩ := h
    refine ⟨_, (@pss_one _ _ _ (@ps_ret _ _ _ _ (pe_and (pe_cmpR op_eq (pe_callB call_len_str rfl T.n_len bt_len (@pa_cons _ _ _ _ _ (pv 0) pa_nil (by rfl))) pe_int (nomark _)) (pe_one (pe_chain op_leS op_leS pe_str (pv 0) pe_str))))), ?_⟩
    dsimp! []
    refine ⟨Nat.le_of_lt (small1000 hz), ?_⟩
    unfold rootB at q
    by_cases c1 : z.length = 1
    · rw [if_pos (by simpa using (by exact_mod_cast c1 : (z.length : Int) = 1))]
      rw [decide_eq_true c1, Bool.true_and] at q
      split
      · next e => rw [e, Bool.true_and] at q; exact q
      · next e =>
        rw [Bool.eq_false_iff.mpr e, Bool.false_and] at q
        exact q
    · rw [if_neg (by simpa using fun e : (z.length : Int) = 1 => c1 (by exact_mod_cast e))]
      rw [decide_eq_false c1, Bool.false_and] at q
      exact q
def sp_is_number : Sp := fun vs H Q _ => ∃ z, vs = [.str z] ∧ asc z ∧ z.length ≤ 1000 ∧ ∀ H', Same H H' → Q (.bl (numB z)) H'
theorem ok_is_number (T : Txt K mg a) : FnOk P w K mg base CX0 2 a.a_is_number a.d_is_number ["text"] sp_is_number := by
  refine T.f_is_number.ok sc_is_number (fun vs H Q E h => ?_) (fun cdv A outer s H vs Q E hr h => ?_)
  · obtain ⟨_, rfl, _⟩ := h
    rfl
  · obtain ⟨z, rfl, ha, hz, q⟩ := h
    refine ⟨_, (@pss_cons _ _ _ _ _ (ps_if (pt_not (pt_chain op_le op_le pe_int (pe_callB call_len_str rfl T.n_len bt_len (@pa_cons _ _ _ _ _ (pv 0) pa_nil (by rfl))) (pe_glob (v := .int 60) rfl T.c_MOST_FIGURES ⟨_, rfl⟩))) (@pss_one _ _ _ (@ps_ret _ _ _ _ pe_bl)) pss_nil) (@pss_cons _ _ _ _ _ ps_stT pss_bodyT)), ?_⟩
    dsimp! []
    refine ⟨Nat.le_of_lt (small1000 hz), ?_⟩
    unfold numB at q
    by_cases c1 : 1 ≤ z.length
    · rw [if_pos (by simp; omega)]
      rw [decide_eq_true c1, Bool.true_and] at q
      by_cases c2 : z.length ≤ 60
      · rw [if_neg (by simp; omega)]
        rw [decide_eq_true c2, Bool.true_and] at q
        have h0 : 0 < z.cps.size := by unfold Str.length at c1; omega
        refine joinW (fun σ' H' => σ' = [some (.str z)] ∧ H' = H ∧ (decide (z.cps[0]? = some 48) && decide (1 < z.length)) = false) (stT.of (ps_if (PW.pt (pw_and (pt_cmpR op_eq (pe_ix ix_str (pv 0) pe_int (fun _ _ => rfl)) pe_str (nomark _)) (pw_and1 (pt_cmpR op_gt (pe_callB call_len_str rfl T.n_len bt_len (@pa_cons _ _ _ _ _ (pv 0) pa_nil (by rfl))) pe_int (nomark _))))) (@pss_one _ _ _ (@ps_ret _ _ _ _ pe_bl)) pss_nil) ?_) ?_
        · dsimp! []
          refine ⟨z, 0, z.cps[0], rfl, rfl, Nat.le_of_lt (small1000 hz), atI_nat (j := 0) (by simp [h0]), ?_⟩
          refine ⟨rfl, ?_⟩
          have e0 : z.cps[0]? = some z.cps[0] := by simp [h0]
          by_cases c3 : z.cps[0] = 48
          · have e1 : decide (V.str ⟨#[z.cps[0]]⟩ = V.str "0") = true := decide_eq_true (by rw [c3]; rfl)
            have e2 : decide (z.cps[0]? = some 48) = true := decide_eq_true (by rw [e0, c3])
            rw [if_pos e1, e2, Bool.true_and]
            rw [e2, Bool.true_and] at q
            refine ⟨Nat.le_of_lt (small1000 hz), ?_⟩
            by_cases c4 : 1 < z.length
            · rw [if_pos (by simp; omega)]
              rw [decide_eq_true c4] at q
              exact q H (.refl H)
            · rw [if_neg (by simp; omega)]
              exact ⟨rfl, decide_eq_false c4⟩
          · have e1 : ¬ decide (V.str ⟨#[z.cps[0]]⟩ = V.str "0") = true := fun e => by
              have e := of_decide_eq_true e
              injection e with e
              injection e with e
              injection e with e
              injection e with e
              exact c3 e
            rw [if_neg e1]
            refine ⟨rfl, ?_⟩
            rw [decide_eq_false (by rw [e0]; simpa using c3)]
            rfl
        · rintro σ' H' ⟨rfl, rfl, hq⟩
          rw [hq, Bool.not_false, Bool.true_and] at q
          refine bodyT.of (@pss_one _ _ _ (@ps_ret _ _ _ _ (pe_callB (call_allL rfl) rfl T.n_all bt_all (@pa_cons _ _ _ _ _ (pe_lc rfl (lcok (x := "sign") (ns := []) (fr := []) rfl (by decide +kernel) rfl (by decide +kernel) rfl (List.forall_mem_nil _) rfl rfl (List.forall_mem_nil _) (by decide +kernel)) (pi_str (pv 0)) (fun _ _ _ _ => (pe_cmpR op_in_str (pv 0) (pe_glob (v := .str "0123456789") rfl T.c_FIGURES ⟨_, rfl⟩) (by with_unfolding_all rfl))) (fun _ _ _ _ => .nil)) pa_nil (by rfl))))) ?_
          dsimp! []
          refine ⟨ha, fun D hD => lc_str (fun c => .bl (figB c)) (by unfold Str.length at hz; exact hz) (fun i c ys R hc h => ?_) ⟨z.cps.toList.map figB, ?_, ?_⟩⟩
          · dsimp! [lcSlots]
            rw [in_fig (asc_lt ha hc)]
            exact h
          · refine SqL.of ?_
            rw [upd_same, List.map_map]
            rfl
          · rw [List.all_map]
            exact q _ (.put hD)
      · rw [if_pos (by simp; omega)]
        rw [decide_eq_false c2, Bool.false_and, Bool.false_and] at q
        exact q H (.refl H)
    · rw [if_neg (by simp; omega)]
      rw [decide_eq_false c1, Bool.false_and, Bool.false_and, Bool.false_and] at q
      exact q H (.refl H)
def sp_part_read : Sp := fun vs H Q _ => ∃ z t, vs = [.str z, .str t] ∧ asc z ∧ z.length ≤ 1000 ∧ ∀ H', Same H H' → Q (partV z t) H'
theorem ok_part_read (T : Txt K mg a) : FnOk P w K mg base CX0 3 a.a_part_read a.d_part_read ["text", "wanted"] sp_part_read := by
  refine T.f_part_read.ok sc_part_read (fun vs H Q E h => ?_) (fun cdv A outer s H vs Q E hr h => ?_)
  · obtain ⟨_, _, rfl, _⟩ := h
    rfl
  · obtain ⟨z, t, rfl, ha, hz, q⟩ := h
    refine ⟨_, (@pss_cons _ _ _ _ _ (ps_if (pt_cmpR op_eq (pv 1) pe_str (nomark _)) (@pss_one _ _ _ (@ps_ret _ _ _ _ (pe_ifExp (pt_val (pe_call (ok_is_root T) (hr.mono (by decide)) rfl T.m_is_root T.f_is_root.kp T.b_is_root .nil pass0 (@pa_cons _ _ _ _ _ (pv 0) pa_nil (by rfl)))) (pv 0) pe_non))) pss_nil) (@pss_cons _ _ _ _ _ (ps_if (pt_not (pt_val (pe_call (ok_is_number T) (hr.mono (by decide)) rfl T.m_is_number T.f_is_number.kp T.b_is_number .nil pass0 (@pa_cons _ _ _ _ _ (pv 0) pa_nil (by rfl))))) (@pss_one _ _ _ (@ps_ret _ _ _ _ pe_non)) pss_nil) (@pss_cons _ _ _ _ _ (ps_set (i := 2) sc_part_read.nd rfl (Or.inl rfl) (pe_callTy call_intT rfl T.n_int bt_int (@pa_cons _ _ _ _ _ (pv 0) pa_nil (by rfl)))) (@pss_one _ _ _ (@ps_ret _ _ _ _ (pe_ifExp (PW.pt (pw_and (pt_cmpR op_eq (pv 1) pe_str (nomark _)) (pw_and1 (pt_cmpR op_gt (pv 2) (pe_glob (v := .int 8) rfl T.c_MOST_FIELDS ⟨_, rfl⟩) (nomark _))))) pe_non (pv 2))))))), ?_⟩
    dsimp! [sp_is_root, sp_is_number]
    unfold partV at q
    by_cases c1 : t = "root"
    · rw [if_pos (decide_eq_true (by rw [c1]))]
      rw [if_pos c1] at q
      refine ⟨hz, ?_⟩
      split
      · next e => rw [if_pos e] at q; exact q H (.refl H)
      · next e => rw [if_neg e] at q; exact q H (.refl H)
    · rw [if_neg (by simpa using c1)]
      rw [if_neg c1] at q
      refine ⟨ha, hz, fun H' hs => ?_⟩
      by_cases c2 : numB z = true
      · rw [if_neg (by rw [c2]; decide)]
        rw [if_pos c2] at q
        have hl := (numB_all c2).2.2
        refine ⟨_, numB_int c2, by omega, ?_⟩
        by_cases c3 : t = "fields"
        · rw [if_pos (decide_eq_true (by rw [c3]))]
          by_cases c4 : 8 < numV z
          · rw [if_pos (by simp; omega)]
            rw [if_pos ⟨c3, c4⟩] at q
            exact q H' hs
          · rw [if_neg (by simp; omega)]
            rw [if_neg (fun e => c4 e.2)] at q
            exact q H' hs
        · rw [if_neg (by simpa using c3)]
          rw [if_neg (fun e => c3 e.1)] at q
          exact q H' hs
      · rw [if_pos (by simpa using c2)]
        rw [if_neg c2] at q
        exact q H' hs
def partsD : List (Str × List Str) := [("num", ["root", "number"]), ("make", ["root", "fields"]), ("weak", ["root", "root"]), ("pair", ["root", "root", "root"]), ("words", ["root", "number"]), ("put", ["root", "number", "root"]), ("get", ["root", "root", "number"]), ("look", ["root", "root"]), ("find", ["root", "root", "root"]), ("copy", ["root", "root"]), ("drop", ["root"]), ("tell", ["root"]), ("same", ["root", "root"]), ("hear", ["root"])]
def partsAt (k : Str) : Option (List Str) := PyProof.Rows.KTD.datumAt k partsD
def dParts (a : Adr) : List (Str × Addr) := [("num", a.u_PARTS_0), ("make", a.u_PARTS_1), ("weak", a.u_PARTS_2), ("pair", a.u_PARTS_3), ("words", a.u_PARTS_4), ("put", a.u_PARTS_5), ("get", a.u_PARTS_6), ("look", a.u_PARTS_7), ("find", a.u_PARTS_8), ("copy", a.u_PARTS_9), ("drop", a.u_PARTS_10), ("tell", a.u_PARTS_11), ("same", a.u_PARTS_12), ("hear", a.u_PARTS_13)]
theorem parts_at {K : PySem.W.Frag} : ∀ (D : List (Str × Addr)) (D2 : List (Str × List Str)), (∀ i : Nat, ∀ x y, D[i]? = some x → D2[i]? = some y → x.1 = y.1 ∧ ∀ H : Hp, SqT K H x.2 (y.2.map V.str)) → D.length = D2.length → ∀ k l, PyProof.Rows.KTD.datumAt k D2 = some l → ∃ b, PyProof.Rows.KTD.datumAt k D = some b ∧ ∀ H : Hp, SqT K H b (l.map V.str)
  | [], [], _, _, k, l, h => by cases h
  | x :: D, y :: D2, hh, hl, k, l, h => by
    have h0 := hh 0 x y rfl rfl
    unfold PyProof.Rows.KTD.datumAt at h ⊢
    rw [h0.1]
    by_cases c : k = y.1
    · rw [if_pos (decide_eq_true c)] at h ⊢
      cases h
      exact ⟨_, rfl, h0.2⟩
    · rw [if_neg (by simpa using c)] at h ⊢
      exact parts_at D D2 (fun i x y e1 e2 => hh (i + 1) x y e1 e2) (by simpa using hl) k l h
theorem parts_mem : ∀ {D : List (Str × List Str)} {k : Str} {l : List Str}, PyProof.Rows.KTD.datumAt k D = some l → (k, l) ∈ D
  | [], _, _, h => by cases h
  | y :: D, k, l, h => by
    unfold PyProof.Rows.KTD.datumAt at h
    by_cases c : k = y.1
    · rw [if_pos (decide_eq_true c)] at h
      cases h
      rw [c]
      exact List.mem_cons_self ..
    · rw [if_neg (by simpa using c)] at h
      exact List.mem_cons_of_mem _ (parts_mem h)
theorem parts_few {k : Str} {l : List Str} (h : partsAt k = some l) : l.length ≤ 3 := (by decide +kernel : ∀ p ∈ partsD, p.2.length ≤ 3) _ (parts_mem h)
theorem cut_tail {x : V} {xs : List V} : cutV (x :: xs) (some 1) none = xs := by
  unfold cutV HT.sIx
  simp
theorem mapStr {ws : List Str} {i : Nat} {x : V} (h : (ws.map V.str)[i]? = some x) : ∃ y, ws[i]? = some y ∧ x = V.str y := by
  rw [List.getElem?_map, Option.map_eq_some_iff] at h
  obtain ⟨y, h1, rfl⟩ := h
  exact ⟨y, h1, rfl⟩
theorem zipStr (f : Str → Str → V) : ∀ (ws ss : List Str), List.zipWith (fun x y => match x, y with | V.str x, V.str y => f x y | _, _ => .non) (ws.map V.str) (ss.map V.str) = List.zipWith f ws ss
  | [], _ => by simp
  | _ :: _, [] => by simp
  | w :: ws, s :: ss => by
    rw [List.map_cons, List.map_cons, List.zipWith_cons_cons, List.zipWith_cons_cons, zipStr f ws ss]
theorem parts_of (T : Txt K mg a) {k : Str} {l : List Str} (h : partsAt k = some l) : ∃ b, PyProof.Rows.KTD.datumAt k (dParts a) = some b ∧ ∀ H : Hp, SqT K H b (l.map V.str) := by
  refine parts_at (dParts a) partsD (fun i x y e1 e2 => ?_) rfl k l h
  have hi : i < 14 := (List.getElem?_eq_some_iff.mp e1).1
  rcases i with _ | _ | _ | _ | _ | _ | _ | _ | _ | _ | _ | _ | _ | _ | i
  · cases e1; cases e2; exact ⟨rfl, T.qu_PARTS_0⟩
  · cases e1; cases e2; exact ⟨rfl, T.qu_PARTS_1⟩
  · cases e1; cases e2; exact ⟨rfl, T.qu_PARTS_2⟩
  · cases e1; cases e2; exact ⟨rfl, T.qu_PARTS_3⟩
  · cases e1; cases e2; exact ⟨rfl, T.qu_PARTS_4⟩
  · cases e1; cases e2; exact ⟨rfl, T.qu_PARTS_5⟩
  · cases e1; cases e2; exact ⟨rfl, T.qu_PARTS_6⟩
  · cases e1; cases e2; exact ⟨rfl, T.qu_PARTS_7⟩
  · cases e1; cases e2; exact ⟨rfl, T.qu_PARTS_8⟩
  · cases e1; cases e2; exact ⟨rfl, T.qu_PARTS_9⟩
  · cases e1; cases e2; exact ⟨rfl, T.qu_PARTS_10⟩
  · cases e1; cases e2; exact ⟨rfl, T.qu_PARTS_11⟩
  · cases e1; cases e2; exact ⟨rfl, T.qu_PARTS_12⟩
  · cases e1; cases e2; exact ⟨rfl, T.qu_PARTS_13⟩
  · omega
structure Rds (z w0 : Str) (ws ss : List Str) : Prop where
  sp : PySem.Txt.split z " " = w0 :: ws
  at_ : partsAt w0 = some ss
  len : ws.length = ss.length
  few : z.length ≤ 1000
  asc : ∀ x ∈ ws, asc x ∧ x.length ≤ 1000
  ok : ∀ (i : Nat) x s, ws[i]? = some x → ss[i]? = some s → partV x s ≠ .non
def sp_deed_read : Sp := fun vs H Q _ => ∃ z w0 ws ss, vs = [.str z] ∧ Rds z w0 ws ss ∧ ∀ H' (l : Addr), Same H H' → H' l = some (.tup (.str w0 :: List.zipWith partV ws ss)) → Q (.ref l) H'
theorem ok_deed_read (T : Txt K mg a) : FnOk P w K mg base CX0 5 a.a_deed_read a.d_deed_read ["text"] sp_deed_read := by
  refine T.f_deed_read.ok sc_deed_read (fun vs H Q E h => ?_) (fun cdv A outer s H vs Q E hr h => ?_)
  · obtain ⟨_, _, _, _, rfl, _⟩ := h
    rfl
  · obtain ⟨z, w0, ws, ss, rfl, R, q⟩ := h
    refine ⟨_, (@pss_cons _ _ _ _ _ (ps_set (i := 1) sc_deed_read.nd rfl (Or.inl rfl) (@pe_bm _ _ _ _ _ _ _ _ _ _ _ _ PySem.F.plainAttrs_str PySem.F.slot_str_split PySem.F.type_str_split mt_split (pv 0) (@pa_cons _ _ _ _ _ pe_str pa_nil (by rfl)) (by rfl) (by rfl) (by rfl) (by rfl) (by rfl))) (@pss_cons _ _ _ _ _ (ps_set (i := 2) sc_deed_read.nd rfl (Or.inl rfl) (pe_getK T.tb_PARTS (pe_glob (v := .ref a.t_PARTS) rfl T.c_PARTS rfl) (pe_ix ix_list (pv 1) pe_int (fun _ _ => rfl)) ⟨rfl, rfl, rfl, rfl⟩)) (@pss_cons _ _ _ _ _ (ps_if (PW.pt (pw_or (pt_cmpR op_isN (pv 2) pe_non (nomark _)) (pw_or1 (pt_cmpR op_ne (pe_callB call_len_seq rfl T.n_len bt_len (@pa_cons _ _ _ _ _ (pv 1) pa_nil (by rfl))) (@pe_op _ _ _ _ _ _ _ _ op_add (pe_callB call_len_seq rfl T.n_len bt_len (@pa_cons _ _ _ _ _ (pv 2) pa_nil (by rfl))) pe_int) (nomark _))))) (@pss_one _ _ _ ps_never) pss_nil) pss_bodyT))), ?_⟩
    dsimp! []
    have few := R.few
    refine ⟨rfl, by decide, by rw [sizeLine_eq]; omega, fun l hl => ?_⟩
    rw [show Txt.split z (Str.ofString " ") = w0 :: ws from R.sp]
    obtain ⟨b, hb, hqb⟩ := parts_of T R.at_
    refine ⟨l, _, 0, .str w0, rfl, rfl, .of upd_same, atI_nat (j := 0) rfl, w0, rfl, b, hb, _, .inl (.of upd_same), _, .inr (hqb _), ?_⟩
    rw [if_neg (by simp [R.len])]
    refine bodyT.of (@pss_cons _ _ _ _ _ (ps_lc2 (j := 3) rfl sc_deed_read.nd rfl rfl (lcok2 (x := "word") (x2 := "sort") (ns := []) (fr := []) rfl (by decide +kernel) rfl (by decide +kernel) rfl rfl (List.forall_mem_nil _) rfl rfl (List.forall_mem_nil _) (by decide +kernel)) (pi_zip rfl T.n_zip (pe_slice sl_list (pv 1) (po_some pe_int) po_none) (pv 2)) (fun _ _ _ _ => (pe_call (ok_part_read T) (hr.mono (by decide)) rfl T.m_part_read T.f_part_read.kp T.b_part_read .nil pass0 (@pa_cons _ _ _ _ _ (pv 0) (@pa_cons _ _ _ _ _ (pv 1) pa_nil (by rfl)) (by rfl)))) (fun _ _ _ _ => .nil)) pss_bodyT) ?_
    dsimp! []
    refine ⟨l, _, rfl, .of upd_same, fun p hp => ?_⟩
    have ec : cutV (V.str w0 :: List.map V.str ws) (some 1) none = ws.map V.str := cut_tail
    rw [ec]
    have hlp : Same H (upd (upd H l (HO.lst (V.str w0 :: List.map V.str ws))) p (.lst (ws.map V.str))) := (Same.put hl).trans (.put hp)
    have hlv : upd (upd H l (HO.lst (V.str w0 :: List.map V.str ws))) p (.lst (ws.map V.str)) l = some (.lst (V.str w0 :: List.map V.str ws)) := Same.put hp l _ upd_same
    have hpv : upd (upd H l (HO.lst (V.str w0 :: List.map V.str ws))) p (.lst (ws.map V.str)) p = some (.lst (ws.map V.str)) := upd_same
    generalize upd (upd H l (HO.lst (V.str w0 :: List.map V.str ws))) p (.lst (ws.map V.str)) = H2 at hlp hlv hpv
    refine ⟨p, rfl, ⟨_, .of hpv⟩, ⟨_, hqb _⟩, fun D hD => lc_zip (fun x y => match x, y with | .str x, .str y => partV x y | _, _ => .non) hD (.of hpv) (hqb _) (by simp [R.len]) (by rw [List.length_map, R.len]; exact Nat.le_trans (parts_few R.at_) (by decide)) (fun i x y H3 R' hx hy hs h => ?_) (fun H3 hs hd => ?_)⟩
    · dsimp! [lcSlots2, sp_part_read]
      obtain ⟨x', hx', rfl⟩ := mapStr hx
      obtain ⟨y', hy', rfl⟩ := mapStr hy
      exact ⟨x', rfl, y', rfl, (R.asc x' (List.mem_of_getElem? hx')).1, (R.asc x' (List.mem_of_getElem? hx')).2, fun H' hs' => h H' hs'⟩
    · rw [zipStr] at hd
      refine bodyT.of (@pss_cons _ _ _ _ _ (ps_if (pt_val (pe_callB (call_anyL rfl) rfl T.n_any bt_any (@pa_cons _ _ _ _ _ (pe_lc rfl (lcok (x := "part") (ns := []) (fr := []) rfl (by decide +kernel) rfl (by decide +kernel) rfl (List.forall_mem_nil _) rfl rfl (List.forall_mem_nil _) (by decide +kernel)) (pi_list (pv 3)) (fun _ _ _ _ => (pe_cmpR op_isN (pv 0) pe_non (nomark _))) (fun _ _ _ _ => .nil)) pa_nil (by rfl)))) (@pss_one _ _ _ ps_never) pss_nil) (@pss_one _ _ _ (@ps_ret _ _ _ _ (pe_callTy call_tuple_of rfl T.n_tuple bt_tuple (@pa_cons _ _ _ _ _ (@pe_op _ _ _ _ _ _ _ _ op_catS (pe_lst (@pa_cons _ _ _ _ _ (pe_ix ix_list (pv 1) pe_int (fun _ _ => rfl)) pa_nil (by rfl))) (pv 3)) pa_nil (by rfl)))))) ?_
      dsimp! []
      have hzl : (List.zipWith partV ws ss).length ≤ 3 := by
        have := parts_few R.at_
        simp
        omega
      refine ⟨⟨_, .of hd⟩, fun D2 hD2 => lc_lstS ((List.zipWith partV ws ss).map fun v => .bl (decide (v = .non))) hD2 (.of hd) (by simp) (by omega) (fun i x y H4 R' hx hy hs' h => ?_) fun H4 hs' hd' => ⟨(List.zipWith partV ws ss).map fun v => decide (v = .non), ?_, ?_⟩⟩
      · dsimp! [lcSlots]
        rw [List.getElem?_map, hx] at hy
        cases hy
        exact h H4 (.refl H4)
      · refine .of ?_
        rw [hd', List.map_map]
        rfl
      · rw [if_neg (by
          rw [List.any_map, List.any_eq_true]
          rintro ⟨v, hv, e⟩
          obtain ⟨i, hi, ei⟩ := List.mem_iff_getElem.mp hv
          have e : v = .non := of_decide_eq_true e
          rw [List.getElem_zipWith] at ei
          exact R.ok i _ _ (List.getElem?_eq_getElem (by simp at hi; omega)) (List.getElem?_eq_getElem (by simp at hi; omega)) (ei.trans e))]
        refine ⟨l, _, 0, .str w0, rfl, rfl, .of (hs' l _ (hs l _ hlv)), atI_nat (j := 0) rfl, by rw [sizeLine_eq]; decide, fun p2 hp2 => ?_⟩
        have hD4 : upd H4 p2 (HO.lst [V.str w0]) D = some (.lst (List.zipWith partV ws ss)) := Same.put hp2 D _ (hs' D _ hd)
        refine ⟨p2, D, _, _, rfl, rfl, .of upd_same, .of hD4, by simp only [sizeLine_eq, List.length_cons, List.length_nil]; omega, fun p3 hp3 => ⟨p3, rfl, _, .inl ⟨.of upd_same, fun l3 hl3 => q _ l3 ?_ upd_same⟩⟩⟩
        exact (((hlp.trans hs).trans hs').trans (.put hp2)).trans ((Same.put hp3).trans (.put hl3))
def shv : V → Str
  | .int n => Str.ofString (toString n)
  | .str z => z
  | _ => ""
def Shw (x : V) : Prop := (∃ n : Nat, n < 10 ^ 60 ∧ x = .int (n : Int)) ∨ ∃ z : Str, z.length ≤ 100 ∧ x = .str z
theorem Shw.len {x : V} (h : Shw x) : (shv x).length ≤ 100 := by
  rcases h with ⟨n, hn, rfl⟩ | ⟨z, hz, rfl⟩
  · exact Nat.le_trans (nt_len hn) (by decide)
  · exact hz
theorem log60 {n : Nat} (h : n < 10 ^ 60) : ((n : Int)).natAbs.log2 < 1920 := by
  rw [Int.natAbs_natCast]
  by_cases c : n = 0
  · subst c
    decide
  · exact (Nat.log2_lt c).mpr (Nat.lt_trans h (by decide))
theorem sum_len {ts : List Str} (h : ∀ t ∈ ts, t.length ≤ 100) : (ts.map (·.length)).sum ≤ 100 * ts.length := by
  induction ts with
  | nil => exact Nat.le_refl _
  | cons t ts ih =>
    have h1 := h t (List.mem_cons_self ..)
    have h2 := ih fun x hx => h x (List.mem_cons_of_mem _ hx)
    simp only [List.map_cons, List.sum_cons, List.length_cons]
    omega
def sp_deed_shown (K : PySem.W.Frag) : Sp := fun vs H Q _ => ∃ p xs, vs = [.ref p] ∧ SqT K H p xs ∧ xs.length ≤ 10 ∧ (∀ x ∈ xs, Shw x) ∧ ∀ H', Same H H' → Q (.str (PySem.Txt.join " " (xs.map shv))) H'
theorem ok_deed_shown (T : Txt K mg a) : FnOk P w K mg base CX0 2 a.a_deed_shown a.d_deed_shown ["deed"] (sp_deed_shown K) := by
  refine T.f_deed_shown.ok sc_deed_shown (fun vs H Q E h => ?_) (fun cdv A outer s H vs Q E hr h => ?_)
  · obtain ⟨_, _, rfl, _⟩ := h
    rfl
  · obtain ⟨p, xs, rfl, hx, hl, hs, q⟩ := h
    refine ⟨_, (@pss_one _ _ _ (@ps_ret _ _ _ _ (@pe_bm _ _ _ _ _ _ _ _ _ _ _ _ PySem.F.plainAttrs_str PySem.F.slot_str_join PySem.F.type_str_join mt_join pe_str (@pa_cons _ _ _ _ _ (pe_lc rfl (lcok (x := "part") (ns := []) (fr := []) rfl (by decide +kernel) rfl (by decide +kernel) rfl (List.forall_mem_nil _) rfl rfl (List.forall_mem_nil _) (by decide +kernel)) (pi_tup (pv 0)) (fun _ _ _ _ => (pe_callTy call_strA rfl T.n_str bt_str (@pa_cons _ _ _ _ _ (pv 0) pa_nil (by rfl)))) (fun _ _ _ _ => .nil)) pa_nil (by rfl)) (by rfl) (by rfl) (by rfl) (by rfl) (by rfl)))), ?_⟩
    dsimp! []
    refine ⟨rfl, ⟨_, hx⟩, fun D hD => lc_tupS (xs.map fun x => .str (shv x)) hD hx (by simp) (by omega) (fun i x y H2 R h1 h2 h3 h => ?_) fun H2 h1 h2 => ⟨xs.map shv, ?_, ?_, q H2 h1⟩⟩
    · dsimp! [lcSlots]
      rw [List.getElem?_map, h1] at h2
      cases h2
      rcases hs x (List.mem_of_getElem? h1) with ⟨n, hn, rfl⟩ | ⟨z, hz, rfl⟩
      · exact .inl ⟨_, rfl, log60 hn, h H2 (.refl H2)⟩
      · exact .inr ⟨_, rfl, h H2 (.refl H2)⟩
    · refine .of ?_
      rw [h2, List.map_map]
      rfl
    · have := sum_len (ts := xs.map shv) fun t ht => by
        obtain ⟨x, hx', rfl⟩ := List.mem_map.mp ht
        exact (hs x hx').len
      have e1 : (Str.ofString " ").length = 1 := by decide
      rw [e1]
      rw [List.length_map] at this ⊢
      omega
def sp_row (K : PySem.W.Frag) : Sp := fun vs H Q _ => ∃ p w0 xs, vs = [.ref p] ∧ SqT K H p (.str w0 :: xs) ∧ xs.length ≤ 9 ∧ w0.length ≤ 100 ∧ (∀ x ∈ xs, Shw x) ∧ ∀ H', Same H H' → Q (.str (PySem.Txt.join " " (w0 :: xs.map shv))) H'
theorem ok_law_row (T : Txt K mg a) : FnOk P w K mg base CX0 1 a.a_law_row a.d_law_row ["_law_deed"] (sp_row K) := by
  refine T.f_law_row.ok sc_law_row (fun vs H Q E h => ?_) (fun cdv A outer s H vs Q E hr h => ?_)
  · obtain ⟨_, _, _, rfl, _⟩ := h
    rfl
  · obtain ⟨p, w0, xs, rfl, hx, hl, h0, hs, q⟩ := h
    refine ⟨_, (@pss_cons _ _ _ _ _ (ps_set (i := 1) sc_law_row.nd rfl (Or.inl rfl) (pe_ix ix_tup (pv 0) pe_int (fun _ _ => rfl))) (@pss_cons _ _ _ _ _ (ps_forW PassesOwn.never rfl (pi_tup (pe_slice sl_tup (pv 0) (po_some pe_int) po_none)) (pg_name (i := 2) sc_law_row.nd rfl (Or.inl rfl)) pss_bodyT) pss_bodyT)), ?_⟩
    dsimp! []
    refine ⟨p, _, 0, .str w0, rfl, rfl, hx, atI_nat (j := 0) rfl, p, _, rfl, hx, ?_, fun p2 hp2 => ?_⟩
    · rw [HT.sIx_none, show (some (1 : Int)) = some ((1 : Nat) : Int) from rfl, HT.sIx_nat]
      simp
    rw [cut_tail]
    refine ⟨p2, rfl, ⟨_, .of upd_same⟩, ?_⟩
    have h2 : upd H p2 (HO.tup xs) p2 = some (.tup xs) := upd_same
    have hs2 : Same H (upd H p2 (HO.tup xs)) := .put hp2
    generalize upd H p2 (HO.tup xs) = H2 at h2 hs2
    refine fw_tup xs (fun i σ' H' => H' = H2 ∧ ∃ (o : Option V) (u : Str), u = ((xs.map shv).take i).foldl (fun u v => u ++ (" " : Str) ++ v) w0 ∧ u.length ≤ 100 + 101 * i ∧ σ' = [some (.ref p), some (.str u), o]) ⟨rfl, none, w0, rfl, by omega, rfl⟩ ?_ ?_ ?_
    · rintro i σ' H' hi ⟨rfl, _⟩
      exact .of h2
    · rintro i x σ' H' hi ⟨rfl, o, u, hu, hul, rfl⟩
      have hil := (List.getElem?_eq_some_iff.mp hi).1
      have sx := hs x (List.mem_of_getElem? hi)
      have sl := sx.len
      refine bodyT.of (@pss_one _ _ _ (ps_set (i := 1) sc_law_row.nd rfl (Or.inl rfl) (@pe_op _ _ _ _ _ _ _ _ op_add_str (@pe_op _ _ _ _ _ _ _ _ op_add_str (pv 1) pe_str) (pe_callTy call_strA rfl T.n_str bt_str (@pa_cons _ _ _ _ _ (pv 2) pa_nil (by rfl)))))) ?_
      dsimp! []
      have e1 : (Str.ofString " ").length = 1 := by decide
      have e2 : (u ++ Str.ofString " ").length = u.length + 1 := by
        unfold Str.length at *
        rw [Str.cps_append, Array.size_append]
        omega
      have e3 : ((xs.map shv).take (i + 1)).foldl (fun u v => u ++ Str.ofString " " ++ v) w0 = u ++ Str.ofString " " ++ shv x := by
        rw [List.take_add_one, List.getElem?_map, hi, List.foldl_append, hu]
        rfl
      have e4 : (u ++ Str.ofString " " ++ shv x).length = u.length + 1 + (shv x).length := by
        rw [← e2]
        unfold Str.length
        rw [Str.cps_append (u ++ Str.ofString " "), Array.size_append]
      rw [e3]
      refine ⟨by rw [sizeLine_eq]; omega, ?_⟩
      rcases sx with ⟨n, hn, rfl⟩ | ⟨z, hz, rfl⟩
      · exact .inl ⟨_, rfl, log60 hn, by rw [sizeLine_eq, e2]; exact Nat.le_trans (Nat.add_le_add_left sl _) (by omega), by omega, rfl, _, rfl⟩
      · exact .inr ⟨_, rfl, by rw [sizeLine_eq, e2]; exact Nat.le_trans (Nat.add_le_add_left sl _) (by omega), by omega, rfl, _, rfl⟩
    · rintro σ' H' ⟨rfl, o, u, hu, hul, rfl⟩
      refine bodyT.of (@pss_one _ _ _ (@ps_ret _ _ _ _ (pv 1))) ?_
      dsimp! []
      rw [hu, ← List.length_map (f := shv), List.take_length, fold_join, ← txt_join]
      exact q _ hs2
def sp_law_whole : Sp := fun vs H Q _ => ∃ n, vs = [.int n] ∧ Q (.bl true) H
theorem ok_law_whole (T : Txt K mg a) : FnOk P w K mg base CX0 1 a.a_law_whole a.d_law_whole ["_law_found"] sp_law_whole := by
  refine T.f_law_whole.ok sc_law_whole (fun vs H Q E h => ?_) (fun cdv A outer s H vs Q E hr h => ?_)
  · obtain ⟨_, rfl, _⟩ := h
    rfl
  · obtain ⟨n, rfl, q⟩ := h
    refine ⟨_, (@pss_one _ _ _ (@ps_ret _ _ _ _ (pe_and (pe_callB call_isinst rfl T.n_isinstance bt_isinstance (@pa_cons _ _ _ _ _ (pv 0) (@pa_cons _ _ _ _ _ (pe_bltn (v := .ty "int") rfl T.n_int bt_int rfl) pa_nil (by rfl)) (by rfl))) (pe_one (pe_not (pe_callB call_isinst rfl T.n_isinstance bt_isinstance (@pa_cons _ _ _ _ _ (pv 0) (@pa_cons _ _ _ _ _ (pe_bltn (v := .ty "bool") rfl T.n_bool bt_bool rfl) pa_nil (by rfl)) (by rfl)))))))), ?_⟩
    refine ⟨_, rfl, _, _, _, _, rfl, .int n, kit_same K _, true, rfl, ?_⟩
    exact iteT ⟨_, rfl, _, _, _, _, rfl, .int n, kit_int_bool K, _, rfl, q⟩
def digs : List Int → Int → List Int
  | [], _ => []
  | z :: r, n => n % z :: digs r (n / z)
def Sizes (zs : List Int) : Prop := ∀ z ∈ zs, DivOk z
def sp_law_drawn : Sp := fun vs H Q _ => ∃ c p zs f, vs = [.int c, .ref p, .bl f] ∧ H p = some (.lst (zs.map V.int)) ∧ Sizes zs ∧ zs.length ≤ 100 ∧
  ∀ n m H' q, Same H H' → H' q = some (.lst ((digs zs n ++ [m]).map V.int)) → Q (.ref q) H'
theorem digs_len : ∀ (zs : List Int) (n : Int), (digs zs n).length = zs.length
  | [], _ => rfl
  | z :: r, n => by rw [digs, List.length_cons, List.length_cons, digs_len r]
theorem ok_law_drawn (T : Txt K mg a) : FnOk P w K mg base CX0 1 a.a_law_drawn a.d_law_drawn ["_law_cell", "_law_sizes", "_law_free"] sp_law_drawn := by
  refine T.f_law_drawn.ok sc_law_drawn (fun vs H Q E h => ?_) (fun cdv A outer s H vs Q E hr h => ?_)
  · obtain ⟨_, _, _, _, rfl, _⟩ := h
    rfl
  · obtain ⟨c, p, zs, f, rfl, hp, hz, hl, k⟩ := h
    refine cut 2 (fun σ' H' => H' = H ∧ ∃ (n : Int) (o4 : Option V), σ' = [some (.int c), some (.ref p), some (.bl f), some (.int n), o4, none, none])
      ⟨_, (pss_cons (ps_set (i := 5) sc_law_drawn.nd rfl (Or.inl rfl) (pe_lst pa_nil)) (pss_cons (ps_forW PassesOwn.never rfl (pi_list (pv 1)) (pg_name (i := 6) sc_law_drawn.nd rfl (Or.inl rfl)) pss_bodyT) pss_bodyT)), ?_⟩ (fun t2 B2 R2 => ⟨_, (pss_cons (ps_set (i := 3) sc_law_drawn.nd rfl (Or.inl rfl) (pe_callB call_abs rfl T.n_abs bt_abs (@pa_cons _ _ _ _ _ (pv 0) pa_nil (by rfl)))) (pss_cons (ps_if (pt_not (pt_val (pv 2))) (pss_cons (ps_set (i := 4) sc_law_drawn.nd rfl (Or.inl rfl) (pe_op op_mod (pe_op op_mul (pe_op op_add (pv 0) pe_int) pe_int) pe_int)) (pss_cons (ps_set (i := 4) sc_law_drawn.nd rfl (Or.inl rfl) (pe_op op_mul (pe_op op_mul (pe_op op_mul (pe_op op_mul (pe_op op_mul (pv 4) (pv 4)) (pv 4)) (pv 4)) (pv 4)) pe_int)) (pss_one (ps_set (i := 3) sc_law_drawn.nd rfl (Or.inl rfl) (pe_op op_add (pe_op op_mod (pe_op op_mul (pv 0) pe_int) pe_int) (pe_op op_mul pe_int (pv 4))))))) pss_nil) B2)), ?_⟩)
    · rintro σ' H' ⟨rfl, n0, o4, rfl⟩
      dsimp! []
      refine fun q hq => ?_
      have npq : p ≠ q := ne_of_none hp hq
      refine ⟨⟨_, SqL.of (by rw [upd_ne npq]; exact hp)⟩, fw_list (zs.map V.int) (fun i σ H2 => ∃ (n : Int) (l : List Int) (o6 : Option V),
        σ = [some (.int c), some (.ref p), some (.bl f), some (.int n), o4, some (.ref q), o6] ∧ H2 = upd H' q (.lst (l.map V.int)) ∧ l.length = i ∧ l ++ digs (zs.drop i) n = digs zs n0)
        ⟨n0, [], none, rfl, rfl, rfl, rfl⟩ ?_ ?_ ?_⟩
      · rintro i σ H2 _ ⟨n, l, o6, rfl, rfl, _⟩
        exact SqL.of (by rw [upd_ne npq]; exact hp)
      · rintro i x σ H2 hi ⟨n, l, o6, rfl, rfl, hl2, e⟩
        rw [List.getElem?_map] at hi
        cases ez : zs[i]? with
        | none =>
          rw [ez] at hi
          cases hi
        | some z =>
          rw [ez] at hi
          cases hi
          obtain ⟨hlt, ez2⟩ := List.getElem?_eq_some_iff.mp ez
          have hd2 : zs.drop i = z :: zs.drop (i + 1) := by rw [List.drop_eq_getElem_cons hlt, ez2]
          rw [hd2] at e
          have hzz := hz z (List.mem_of_getElem? ez)
          refine bodyT.of (@pss_cons _ _ _ _ _ (ps_expr (@pe_bm _ _ _ _ _ _ _ _ _ _ _ _ PySem.F.plainAttrs_list PySem.F.slot_list_append PySem.F.type_list_append mt_append (pv 5) (@pa_cons _ _ _ _ _ (@pe_op _ _ _ _ _ _ _ _ op_mod (pv 3) (pv 6)) pa_nil (by rfl)) (by rfl) (by rfl) (by rfl) (by rfl) (by rfl))) (@pss_one _ _ _ (ps_set (i := 3) sc_law_drawn.nd rfl (Or.inl rfl) (@pe_op _ _ _ _ _ _ _ _ op_fdivL (pv 3) (pv 6))))) ?_
          dsimp! []
          refine ⟨.inl ⟨rfl, _, SqL.of upd_same⟩, hzz.1, q, l.map V.int, _, rfl, rfl, upd_same, small1000 (by rw [List.length_map]; omega), hzz, l ++ [n % z], ?_, by simp [hl2], ?_⟩
          · rw [upd_upd, List.map_append]
            all_goals rfl
          · rw [← e]
            simp [digs]
      · rintro σ H2 ⟨n, l, o6, rfl, rfl, hl2, e⟩
        rw [List.length_map, List.drop_length] at e
        have e2 : l = digs zs n0 := by simpa [digs] using e
        rw [e2]
        have sq := Same.put (o := .lst ((digs zs n0).map V.int)) hq
        have hq2 : upd H' q (HO.lst ((digs zs n0).map V.int)) q = some (.lst ((digs zs n0).map V.int)) := upd_same
        generalize upd H' q (HO.lst ((digs zs n0).map V.int)) = H4 at sq hq2
        refine bodyT.of (@pss_one _ _ _ (@ps_ret _ _ _ _ (@pe_op _ _ _ _ _ _ _ _ op_catS (pv 5) (pe_lst (@pa_cons _ _ _ _ _ (pv 3) pa_nil (by rfl)))))) ?_
        dsimp! []
        refine ⟨by decide, fun r hr2 => ?_⟩
        have s5 := Same.put (o := .lst [V.int n]) hr2
        have hl3 : (digs zs n0).length = zs.length := digs_len zs n0
        refine ⟨q, r, _, _, rfl, rfl, .of (s5 q _ hq2), .of upd_same, Nat.le_of_lt (small1000 (by rw [List.length_map, hl3]; simp; omega)), fun z hz2 => ?_⟩
        exact k n0 n _ z ((sq.trans s5).trans (.put hz2)) (by rw [upd_same, List.map_append]; rfl)
    · cases f
      · dsimp! []
        have o1 := Int.emod_nonneg ((c + 7) * 69621) (show (2147483629 : Int) ≠ 0 by decide)
        have o2 := Int.emod_lt_of_pos ((c + 7) * 69621) (show (0 : Int) < 2147483629 by decide)
        generalize (c + 7) * 69621 % 2147483629 = o at o1 o2 ⊢
        exact ⟨.inr ⟨by decide, by decide⟩, by decide, .inr ⟨by omega, by omega⟩, .inr ⟨by omega, by omega⟩, .inr ⟨by omega, by omega⟩, .inr ⟨by omega, by omega⟩, .inr ⟨by decide, by decide⟩, .inr ⟨by decide, by decide⟩, by decide, .inl ⟨by decide, by decide⟩, R2 _ _ ⟨rfl, _, _, rfl⟩⟩
      · dsimp! []
        exact R2 _ _ ⟨rfl, _, _, rfl⟩
theorem Shw.flat {x : V} (h : Shw x) : flatV x = true := by
  rcases h with ⟨n, hn, rfl⟩ | ⟨z, hz, rfl⟩ <;> rfl
def Fit (s : Str) (x : V) : Prop := (s = "root" ∧ ∃ k : Nat, k < 26 ∧ x = .str ⟨#[97 + k]⟩) ∨ (s = "number" ∧ ∃ n : Nat, n < 10 ^ 60 ∧ x = .int (n : Int)) ∨ (s = "fields" ∧ ∃ n : Nat, n ≤ 8 ∧ x = .int (n : Int))
structure Deed (w0 : Str) (xs : List V) (ss : List Str) : Prop where
  at_ : partsAt w0 = some ss
  len : xs.length = ss.length
  fit : ∀ (i : Nat) x s, xs[i]? = some x → ss[i]? = some s → Fit s x
theorem root_sign {k : Nat} (h : k < 26) : rootB ⟨#[97 + k]⟩ = true := (by decide +kernel : ∀ k < 26, rootB ⟨#[97 + k]⟩ = true) k h
theorem Fit.shw {s : Str} {x : V} (h : Fit s x) : Shw x := by
  rcases h with ⟨_, k, hk, rfl⟩ | ⟨_, n, hn, rfl⟩ | ⟨_, n, hn, rfl⟩
  · exact .inr ⟨⟨#[97 + k]⟩, (by decide : 1 ≤ 100), rfl⟩
  · exact .inl ⟨n, hn, rfl⟩
  · exact .inl ⟨n, by have : (8 : Nat) < 10 ^ 60 := by decide
                      omega, rfl⟩
theorem Fit.back {s : Str} {x : V} (h : Fit s x) : partV (shv x) s = x := by
  rcases h with ⟨rfl, k, hk, rfl⟩ | ⟨rfl, n, hn, rfl⟩ | ⟨rfl, n, hn, rfl⟩
  · unfold partV
    rw [if_pos rfl]
    show (if rootB ⟨#[97 + k]⟩ = true then _ else _) = _
    rw [if_pos (root_sign hk)]
    rfl
  · have e : shv (.int (n : Int)) = nt n := rfl
    unfold partV
    rw [e, if_neg (by decide), if_pos (numB_nt hn), if_neg (fun e => absurd e.1 (by decide)), numV_nt]
  · have hn' : n < 10 ^ 60 := by
      have : (8 : Nat) < 10 ^ 60 := by decide
      omega
    have e : shv (.int (n : Int)) = nt n := rfl
    unfold partV
    rw [e, if_neg (by decide), if_pos (numB_nt hn'), if_neg (fun e => absurd e.2 (by rw [numV_nt]; omega)), numV_nt]
theorem Fit.signs {s : Str} {x : V} (h : Fit s x) : asc (shv x) ∧ 32 ∉ (shv x).cps.toList ∧ 10 ∉ (shv x).cps.toList := by
  have num : ∀ n : Nat, asc (shv (.int (n : Int))) ∧ 32 ∉ (shv (.int (n : Int))).cps.toList ∧ 10 ∉ (shv (.int (n : Int))).cps.toList := fun n => ⟨asc_nt n, nt_free n 32 (by decide), nt_free n 10 (by decide)⟩
  rcases h with ⟨_, k, hk, rfl⟩ | ⟨_, n, hn, rfl⟩ | ⟨_, n, hn, rfl⟩
  · exact (by decide +kernel : ∀ k < 26, ((⟨#[97 + k]⟩ : Str).cps.all fun x => decide (x < 128)) = true ∧ 32 ∉ (⟨#[97 + k]⟩ : Str).cps.toList ∧ 10 ∉ (⟨#[97 + k]⟩ : Str).cps.toList) k hk
  · exact num n
  · exact num n
def rowT (w0 : Str) (xs : List V) : Str := PySem.Txt.join " " (w0 :: xs.map shv)
theorem Deed.word {w0 : Str} {xs : List V} {ss : List Str} (h : Deed w0 xs ss) : w0.length ≤ 100 ∧ 32 ∉ w0.cps.toList ∧ 10 ∉ w0.cps.toList := (by decide +kernel : ∀ p ∈ partsD, p.1.length ≤ 100 ∧ 32 ∉ p.1.cps.toList ∧ 10 ∉ p.1.cps.toList) _ (parts_mem h.at_)
theorem Deed.all {w0 : Str} {xs : List V} {ss : List Str} (h : Deed w0 xs ss) {x : V} (hx : x ∈ xs) : ∃ s, Fit s x := by
  obtain ⟨i, hi, e⟩ := List.mem_iff_getElem.mp hx
  have hl := h.len
  exact ⟨_, h.fit i x _ (by rw [List.getElem?_eq_getElem hi, e]) (List.getElem?_eq_getElem (by omega))⟩
theorem join_len (s : Str) : ∀ ts : List Str, (s.join ts).length ≤ (ts.map (·.length)).sum + ts.length * s.length
  | [] => by
    rw [Str.join.eq_1]
    exact Nat.zero_le _
  | [x] => by
    rw [Str.join.eq_2]
    simp
  | x :: y :: r => by
    have ih := join_len s (y :: r)
    rw [Str.join.eq_3 s x (y :: r) (by simp)]
    have e : (x ++ s ++ s.join (y :: r)).length = x.length + s.length + (s.join (y :: r)).length := by
      unfold Str.length
      rw [Str.cps_append, Str.cps_append, Array.size_append, Array.size_append]
    rw [e, List.map_cons, List.sum_cons, List.length_cons (a := x), Nat.succ_mul]
    omega
theorem Deed.rds {w0 : Str} {xs : List V} {ss : List Str} (h : Deed w0 xs ss) : Rds (rowT w0 xs) w0 (xs.map shv) ss := by
  have few := parts_few h.at_
  have hl := h.len
  have hall : ∀ t ∈ w0 :: xs.map shv, t.length ≤ 100 ∧ 32 ∉ t.cps.toList := fun t ht => by
    rcases List.mem_cons.mp ht with rfl | ht
    · exact ⟨h.word.1, h.word.2.1⟩
    · obtain ⟨x, hx, rfl⟩ := List.mem_map.mp ht
      obtain ⟨s, hs⟩ := h.all hx
      exact ⟨hs.shw.len, hs.signs.2.1⟩
  have e : rowT w0 xs = (⟨#[32]⟩ : Str).join (w0 :: xs.map shv) := by
    unfold rowT
    rw [txt_join]
    rfl
  refine ⟨?_, h.at_, by simp [hl], ?_, fun t ht => ?_, fun i x s hx hs => ?_⟩
  · rw [e]
    exact split_join (fun t ht => (hall t ht).2) (by simp)
  · rw [e]
    have h1 := join_len ⟨#[32]⟩ (w0 :: xs.map shv)
    have h2 := sum_len (ts := w0 :: xs.map shv) fun t ht => (hall t ht).1
    have h3 : (⟨#[32]⟩ : Str).length = 1 := rfl
    rw [h3] at h1
    rw [List.length_cons, List.length_map] at h1 h2
    omega
  · obtain ⟨x, hx, rfl⟩ := List.mem_map.mp ht
    obtain ⟨s, hs⟩ := h.all hx
    exact ⟨hs.signs.1, Nat.le_trans hs.shw.len (by decide)⟩
  · rw [List.getElem?_map, Option.map_eq_some_iff] at hx
    obtain ⟨y, hy, rfl⟩ := hx
    have f := h.fit i y s hy hs
    rw [f.back]
    rcases f with ⟨_, _, _, rfl⟩ | ⟨_, _, _, rfl⟩ | ⟨_, _, _, rfl⟩ <;> simp
theorem Deed.parts32 {w0 : Str} {xs : List V} {ss : List Str} (h : Deed w0 xs ss) {t : Str} (ht : t ∈ w0 :: xs.map shv) : 32 ∉ t.cps.toList := by
  rcases List.mem_cons.mp ht with rfl | ht
  · exact h.word.2.1
  · obtain ⟨x, hx, rfl⟩ := List.mem_map.mp ht
    exact (h.all hx).elim fun s hs => hs.signs.2.1
theorem Deed.back {w0 : Str} {xs : List V} {ss : List Str} (h : Deed w0 xs ss) : List.zipWith partV (xs.map shv) ss = xs := by
  apply List.ext_getElem?
  intro i
  rw [List.getElem?_zipWith, List.getElem?_map]
  cases hx : xs[i]? with
  | none => rfl
  | some x =>
    have hi := (List.getElem?_eq_some_iff.mp hx).1
    have hl := h.len
    have hs : ss[i]? = some ss[i] := List.getElem?_eq_getElem (by omega)
    rw [hs]
    exact congrArg some (h.fit i x _ hx hs).back
def sp_deed_by : Sp := fun vs H Q _ => ∃ c f, vs = [.int c, .bl f] ∧ ∀ H' (l : Addr) w0 xs ss, Same H H' → H' l = some (.tup (.str w0 :: xs)) → Deed w0 xs ss → Q (.ref l) H'
def wordsD : List Str := ["num", "make", "weak", "pair", "words", "put", "get", "look", "find", "copy", "drop", "tell", "same"]
theorem words_at : ∀ d < 14, ∃ wd ∈ wordsD ++ [Str.ofString "hear"], (wordsD.map V.str ++ [V.str "hear"])[d]? = some (V.str wd) := fun d hd =>
  ⟨(wordsD ++ [Str.ofString "hear"])[d]'hd, List.getElem_mem hd, by
    rw [show wordsD.map V.str ++ [V.str "hear"] = (wordsD ++ [Str.ofString "hear"]).map V.str from rfl, List.getElem?_map, List.getElem?_eq_getElem hd]
    rfl⟩
theorem sign_at {d : Nat} (h : d < 26) : atI (Str.ofString "abcdefghijklmnopqrstuvwxyz").cps.toList (d : Int) = some (97 + d) := atI_nat ((by decide +kernel : ∀ d < 26, (Str.ofString "abcdefghijklmnopqrstuvwxyz").cps.toList[d]? = some (97 + d)) d h)
theorem Deed.one {wd : Str} {x : V} {s : Str} (h : partsAt wd = some [s]) (f : Fit s x) : Deed wd [x] [s] := ⟨h, rfl, fun i y t h1 h2 => by
  rcases i with _ | i
  · cases h1; cases h2; exact f
  · cases h1⟩
theorem Deed.two {wd : Str} {x y : V} {s t : Str} (h : partsAt wd = some [s, t]) (f : Fit s x) (g : Fit t y) : Deed wd [x, y] [s, t] := ⟨h, rfl, fun i y t h1 h2 => by
  rcases i with _ | _ | i
  · cases h1; cases h2; exact f
  · cases h1; cases h2; exact g
  · cases h1⟩
theorem Deed.three {wd : Str} {x y z : V} {s t u : Str} (h : partsAt wd = some [s, t, u]) (f : Fit s x) (g : Fit t y) (k : Fit u z) : Deed wd [x, y, z] [s, t, u] := ⟨h, rfl, fun i y t h1 h2 => by
  rcases i with _ | _ | _ | i
  · cases h1; cases h2; exact f
  · cases h1; cases h2; exact g
  · cases h1; cases h2; exact k
  · cases h1⟩
theorem dw2 : ∀ wd ∈ wordsD ++ [Str.ofString "hear"], inV (V.str wd) [V.str "num", V.str "words"] = true → partsAt wd = some (["root", "number"] : List Str) := by decide +kernel
theorem dw5 : ∀ wd ∈ wordsD ++ [Str.ofString "hear"], inV (V.str wd) [V.str "pair", V.str "find"] = true → partsAt wd = some (["root", "root", "root"] : List Str) := by decide +kernel
theorem dw6 : ∀ wd ∈ wordsD ++ [Str.ofString "hear"], inV (V.str wd) [V.str "drop", V.str "tell", V.str "hear"] = true → partsAt wd = some (["root"] : List Str) := by decide +kernel
theorem dw7 : ∀ wd ∈ wordsD ++ [Str.ofString "hear"], ¬ wd = "make" → ¬ inV (V.str wd) [V.str "num", V.str "words"] = true → ¬ wd = "put" → ¬ wd = "get" → ¬ inV (V.str wd) [V.str "pair", V.str "find"] = true → ¬ inV (V.str wd) [V.str "drop", V.str "tell", V.str "hear"] = true → partsAt wd = some (["root", "root"] : List Str) := by decide +kernel
theorem iteT' {b : Bool} {x y : Prop} (h : b = true) (hx : x) : (if (if false = true then !b else b) = true then x else y) := by
  rw [h]
  exact hx
theorem iteF' {b : Bool} {x y : Prop} (h : ¬ b = true) (hy : y) : (if (if false = true then !b else b) = true then x else y) := by
  rw [Bool.eq_false_iff.mpr h]
  exact hy
theorem sizes07 : Sizes [14, 26, 26, 26, 9, 4, 10 ^ 60] := fun z hz => by
  have h : z = 14 ∨ z = 26 ∨ z = 9 ∨ z = 4 ∨ z = 10 ^ 60 := by
    simp only [List.mem_cons, List.not_mem_nil, or_false] at hz
    omega
  rcases h with rfl | rfl | rfl | rfl | rfl
  · exact .small (by decide) (by decide)
  · exact .small (by decide) (by decide)
  · exact .small (by decide) (by decide)
  · exact .small (by decide) (by decide)
  · exact ⟨by decide, .inr (by decide +kernel)⟩
theorem mod_nat (n z : Int) (h : 0 < z) : ∃ d : Nat, n % z = (d : Int) ∧ (d : Int) < z :=
  ⟨(n % z).toNat, by have := Int.emod_nonneg n (Int.ne_of_gt h); omega, by have := Int.emod_nonneg n (Int.ne_of_gt h); have := Int.emod_lt_of_pos n h; omega⟩
theorem ok_law_deed_by (T : Txt K mg a) : FnOk P w K mg base CX0 2 a.a_law_deed_by a.d_law_deed_by ["_law_cell", "_law_free"] sp_deed_by := by
  refine T.f_law_deed_by.ok sc_law_deed_by (fun vs H Q E h => ?_) (fun cdv A outer s H vs Q E hr h => ?_)
  · obtain ⟨_, _, rfl, _⟩ := h
    rfl
  · obtain ⟨c, f, rfl, q⟩ := h
    refine ⟨_, @pss_cons _ _ _ _ _ ps_stT pss_bodyT, ?_⟩
    dsimp! []
    refine stT.strs (i := 2) (ws := wordsD) sc_law_deed_by.nd rfl (.inl rfl) rfl rfl (.inl rfl) (by decide) fun l hl => ?_
    have h1 : upd H l (HO.lst (wordsD.map V.str)) l = some (.lst (wordsD.map V.str)) := upd_same
    have s1 : Same H (upd H l (HO.lst (wordsD.map V.str))) := .put hl
    generalize upd H l (HO.lst (wordsD.map V.str)) = H1 at h1 s1
    refine bodyT.of (@pss_cons _ _ _ _ _ (ps_expr (@pe_bm _ _ _ _ _ _ _ _ _ _ _ _ PySem.F.plainAttrs_list PySem.F.slot_list_append PySem.F.type_list_append mt_append (pv 2) (@pa_cons _ _ _ _ _ pe_str pa_nil (by rfl)) (by rfl) (by rfl) (by rfl) (by rfl) (by rfl))) pss_bodyT) ?_
    dsimp! []
    refine ⟨.inl ⟨rfl, _, SqL.of h1⟩, l, _, _, rfl, rfl, h1, small1000 (by decide), ?_⟩
    have h2 : upd H1 l (HO.lst (wordsD.map V.str ++ [V.str "hear"])) l = some (.lst (wordsD.map V.str ++ [V.str "hear"])) := upd_same
    have s2 : Same H (upd H1 l (HO.lst (wordsD.map V.str ++ [V.str "hear"]))) := .putD s1 hl
    generalize upd H1 l (HO.lst (wordsD.map V.str ++ [V.str "hear"])) = H2 at h2 s2
    refine bodyT.of (@pss_cons _ _ _ _ _ (ps_set (i := 3) sc_law_deed_by.nd rfl (Or.inl rfl) pe_str) pss_bodyT) ?_
    dsimp! []
    refine bodyT.of (@pss_cons _ _ _ _ _ (ps_asg (pe_call (ok_law_drawn T) (hr.mono (by decide)) rfl T.m_law_drawn T.f_law_drawn.kp T.b_law_drawn .nil pass0 (@pa_cons _ _ _ _ _ (pv 0) (@pa_cons _ _ _ _ _ (@pe_lst _ _ _ _ (@pa_cons _ _ _ _ _ pe_int (@pa_cons _ _ _ _ _ pe_int (@pa_cons _ _ _ _ _ pe_int (@pa_cons _ _ _ _ _ pe_int (@pa_cons _ _ _ _ _ pe_int (@pa_cons _ _ _ _ _ pe_int (@pa_cons _ _ _ _ _ (@pe_op _ _ _ _ _ _ _ _ op_pow pe_int pe_int) pa_nil rfl) rfl) rfl) rfl) rfl) rfl) rfl)) (@pa_cons _ _ _ _ _ (pv 1) pa_nil rfl) rfl) rfl)) (pg_lst (n := 8) rfl (pgs_cons (pg_name (i := 4) sc_law_deed_by.nd rfl (Or.inl rfl)) (pgs_cons (pg_name (i := 5) sc_law_deed_by.nd rfl (Or.inl rfl)) (pgs_cons (pg_name (i := 6) sc_law_deed_by.nd rfl (Or.inl rfl)) (pgs_cons (pg_name (i := 7) sc_law_deed_by.nd rfl (Or.inl rfl)) (pgs_cons (pg_name (i := 8) sc_law_deed_by.nd rfl (Or.inl rfl)) (pgs_cons (pg_name (i := 9) sc_law_deed_by.nd rfl (Or.inl rfl)) (pgs_cons (pg_name (i := 10) sc_law_deed_by.nd rfl (Or.inl rfl)) (pgs_cons (pg_name (i := 11) sc_law_deed_by.nd rfl (Or.inl rfl)) pgs_nil)))))))))) pss_bodyT) ?_
    dsimp! [sp_law_drawn]
    refine ⟨⟨by decide, by decide, by decide⟩, by rw [sizeLine_eq]; decide, fun p hp => ⟨[14, 26, 26, 26, 9, 4, 10 ^ 60], upd_same, sizes07, by decide, fun n m H3 r s3 hr3 => ?_⟩⟩
    refine ⟨_, SqL.of hr3, rfl, _, _, rfl, _, _, rfl, _, _, rfl, _, _, rfl, _, _, rfl, _, _, rfl, _, _, rfl, _, _, rfl, rfl, ?_⟩
    have h3 : H3 l = some (.lst (wordsD.map V.str ++ [V.str "hear"])) := s3 l _ (Same.put hp l _ h2)
    have s3 : Same H H3 := (s2.trans (.put hp)).trans s3
    obtain ⟨d1, e1, b1⟩ := mod_nat n 14 (by decide)
    obtain ⟨d2, e2, b2⟩ := mod_nat (n / 14) 26 (by decide)
    obtain ⟨d3, e3, b3⟩ := mod_nat (n / 14 / 26) 26 (by decide)
    obtain ⟨d4, e4, b4⟩ := mod_nat (n / 14 / 26 / 26) 26 (by decide)
    obtain ⟨d5, e5, b5⟩ := mod_nat (n / 14 / 26 / 26 / 26) 9 (by decide)
    obtain ⟨d6, e6, b6⟩ := mod_nat (n / 14 / 26 / 26 / 26 / 9) 4 (by decide)
    obtain ⟨d7, e7, b7⟩ := mod_nat (n / 14 / 26 / 26 / 26 / 9 / 4) (10 ^ 60) (by decide)
    rw [e1, e2, e3, e4, e5, e6, e7]
    refine bodyT.of (@pss_cons _ _ _ _ _ (ps_set (i := 12) sc_law_deed_by.nd rfl (Or.inl rfl) (pe_ix ix_list (pv 2) (pv 4) (fun _ _ => rfl))) (@pss_cons _ _ _ _ _ (ps_set (i := 5) sc_law_deed_by.nd rfl (Or.inl rfl) (pe_ix ix_str (pv 3) (pv 5) (fun _ _ => rfl))) (@pss_cons _ _ _ _ _ (ps_set (i := 6) sc_law_deed_by.nd rfl (Or.inl rfl) (pe_ix ix_str (pv 3) (pv 6) (fun _ _ => rfl))) (@pss_cons _ _ _ _ _ (ps_set (i := 13) sc_law_deed_by.nd rfl (Or.inl rfl) (pe_ix ix_list (pe_lst (@pa_cons _ _ _ _ _ (pv 8) (@pa_cons _ _ _ _ _ (pv 10) pa_nil (by rfl)) (by rfl))) (pe_callTy call_int1 rfl T.n_int bt_int (@pa_cons _ _ _ _ _ (pe_cmpR op_eq (pv 9) pe_int (nomark _)) pa_nil (by rfl))) (fun _ _ => rfl))) pss_bodyT)))) ?_
    dsimp! []
    have far : ((d5 : Nat) : Int) < 10 ^ 60 := Int.lt_trans b5 (by decide)
    obtain ⟨m, hm, em⟩ : ∃ m : Nat, m < 10 ^ 60 ∧ atI [V.int (d5 : Int), V.int (d7 : Int)] (if decide ((d6 : Int) = 0) = true then 1 else 0) = some (.int (m : Int)) := by
      by_cases c6 : (d6 : Int) = 0
      · exact ⟨d7, by exact_mod_cast b7, by rw [decide_eq_true c6]; rfl⟩
      · exact ⟨d5, by exact_mod_cast far, by rw [decide_eq_false c6]; rfl⟩
    have g2 : d2 < 26 := by omega
    have g3 : d3 < 26 := by omega
    have g4 : d4 < 26 := by omega
    have g5 : d5 ≤ 8 := by omega
    have g1 : d1 < 14 := by omega
    obtain ⟨wd, ew, hw⟩ : ∃ wd ∈ wordsD ++ [Str.ofString "hear"], (wordsD.map V.str ++ [V.str "hear"])[d1]? = some (V.str wd) := words_at d1 g1
    refine ⟨l, _, d1, .str wd, rfl, rfl, SqL.of h3, atI_nat hw, _, _, _, rfl, rfl, by rw [sizeLine_eq]; decide, sign_at g2, _, _, _, rfl, rfl, by rw [sizeLine_eq]; decide, sign_at g3, by rw [sizeLine_eq]; decide, fun p4 hp4 => ⟨p4, _, _, _, rfl, rfl, SqL.of upd_same, em, ?_⟩⟩
    have s4 : Same H (upd H3 p4 (HO.lst [V.int (d5 : Int), V.int (d7 : Int)])) := s3.trans (.put hp4)
    generalize upd H3 p4 (HO.lst [V.int (d5 : Int), V.int (d7 : Int)]) = H4 at s4
    refine bodyT.of (@pss_cons _ _ _ _ _ (ps_if (pt_cmpR op_eq (pv 12) pe_str (nomark _)) (@pss_one _ _ _ (@ps_ret _ _ _ _ (pe_tup (@pa_cons _ _ _ _ _ (pv 12) (@pa_cons _ _ _ _ _ (pv 5) (@pa_cons _ _ _ _ _ (pv 8) pa_nil (by rfl)) (by rfl)) (by rfl))))) pss_nil) (@pss_cons _ _ _ _ _ (ps_if (pt_cmpR op_in_seq (pv 12) (pe_lst (@pa_cons _ _ _ _ _ pe_str (@pa_cons _ _ _ _ _ pe_str pa_nil (by rfl)) (by rfl))) (by with_unfolding_all rfl)) (@pss_one _ _ _ (@ps_ret _ _ _ _ (pe_tup (@pa_cons _ _ _ _ _ (pv 12) (@pa_cons _ _ _ _ _ (pv 5) (@pa_cons _ _ _ _ _ (pv 13) pa_nil (by rfl)) (by rfl)) (by rfl))))) pss_nil) (@pss_cons _ _ _ _ _ (ps_if (pt_cmpR op_eq (pv 12) pe_str (nomark _)) (@pss_one _ _ _ (@ps_ret _ _ _ _ (pe_tup (@pa_cons _ _ _ _ _ (pv 12) (@pa_cons _ _ _ _ _ (pv 5) (@pa_cons _ _ _ _ _ (pv 13) (@pa_cons _ _ _ _ _ (pv 6) pa_nil (by rfl)) (by rfl)) (by rfl)) (by rfl))))) pss_nil) (@pss_cons _ _ _ _ _ (ps_if (pt_cmpR op_eq (pv 12) pe_str (nomark _)) (@pss_one _ _ _ (@ps_ret _ _ _ _ (pe_tup (@pa_cons _ _ _ _ _ (pv 12) (@pa_cons _ _ _ _ _ (pv 5) (@pa_cons _ _ _ _ _ (pv 6) (@pa_cons _ _ _ _ _ (pv 13) pa_nil (by rfl)) (by rfl)) (by rfl)) (by rfl))))) pss_nil) (@pss_cons _ _ _ _ _ (ps_if (pt_cmpR op_in_seq (pv 12) (pe_lst (@pa_cons _ _ _ _ _ pe_str (@pa_cons _ _ _ _ _ pe_str pa_nil (by rfl)) (by rfl))) (by with_unfolding_all rfl)) (@pss_one _ _ _ (@ps_ret _ _ _ _ (pe_tup (@pa_cons _ _ _ _ _ (pv 12) (@pa_cons _ _ _ _ _ (pv 5) (@pa_cons _ _ _ _ _ (pv 6) (@pa_cons _ _ _ _ _ (pe_ix ix_str (pv 3) (pv 7) (fun _ _ => rfl)) pa_nil (by rfl)) (by rfl)) (by rfl)) (by rfl))))) pss_nil) (@pss_cons _ _ _ _ _ (ps_if (pt_cmpR op_in_seq (pv 12) (pe_lst (@pa_cons _ _ _ _ _ pe_str (@pa_cons _ _ _ _ _ pe_str (@pa_cons _ _ _ _ _ pe_str pa_nil (by rfl)) (by rfl)) (by rfl))) (by with_unfolding_all rfl)) (@pss_one _ _ _ (@ps_ret _ _ _ _ (pe_tup (@pa_cons _ _ _ _ _ (pv 12) (@pa_cons _ _ _ _ _ (pv 5) pa_nil (by rfl)) (by rfl))))) pss_nil) (@pss_one _ _ _ (@ps_ret _ _ _ _ (pe_tup (@pa_cons _ _ _ _ _ (pv 12) (@pa_cons _ _ _ _ _ (pv 5) (@pa_cons _ _ _ _ _ (pv 6) pa_nil (by rfl)) (by rfl)) (by rfl))))))))))) ?_
    dsimp! []
    have r2 : Fit "root" (.str ⟨#[97 + d2]⟩) := .inl ⟨rfl, d2, g2, rfl⟩
    have r3 : Fit "root" (.str ⟨#[97 + d3]⟩) := .inl ⟨rfl, d3, g3, rfl⟩
    have r4 : Fit "root" (.str ⟨#[97 + d4]⟩) := .inl ⟨rfl, d4, g4, rfl⟩
    have rm : Fit "number" (.int (m : Int)) := .inr (.inl ⟨rfl, m, hm, rfl⟩)
    have r5 : Fit "fields" (.int (d5 : Int)) := .inr (.inr ⟨rfl, d5, g5, rfl⟩)
    have z9 : 9 ≤ sizeLine := by rw [sizeLine_eq]; decide
    have fin : ∀ H5 (xs : List V) ss, Same H H5 → Deed wd xs ss → ∀ p, H5 p = none → Q (.ref p) (upd H5 p (.tup (.str wd :: xs))) := fun H5 xs ss s5 hd p hp => q _ p wd xs ss (s5.trans (.put hp)) upd_same hd
    by_cases c1 : wd = "make"
    · rw [if_pos (decide_eq_true c1)]
      subst c1
      exact ⟨by omega, fin _ _ _ s4 (.two rfl r2 r5)⟩
    rw [if_neg (by rw [decide_eq_false c1]; decide)]
    refine ⟨by omega, fun p5 hp5 => ⟨p5, _, rfl, .inl (.of upd_same), rfl, rfl, _, rfl, ?_⟩⟩
    have s5 := s4.trans (.put (o := .lst [V.str "num", V.str "words"]) hp5)
    generalize upd H4 p5 (HO.lst [V.str (Str.ofString "num"), V.str (Str.ofString "words")]) = H5 at s5
    by_cases c2 : inV (V.str wd) [V.str "num", V.str "words"] = true
    · exact iteT' c2 ⟨by omega, fin _ _ _ s5 (.two (dw2 wd ew c2) r2 rm)⟩
    refine iteF' c2 ?_
    by_cases c3 : wd = "put"
    · rw [if_pos (decide_eq_true c3)]
      subst c3
      exact ⟨by omega, fin _ _ _ s5 (.three rfl r2 rm r3)⟩
    rw [if_neg (by rw [decide_eq_false c3]; decide)]
    by_cases c4 : wd = "get"
    · rw [if_pos (decide_eq_true c4)]
      subst c4
      exact ⟨by omega, fin _ _ _ s5 (.three rfl r2 r3 rm)⟩
    rw [if_neg (by rw [decide_eq_false c4]; decide)]
    refine ⟨by omega, fun p6 hp6 => ⟨p6, _, rfl, .inl (.of upd_same), rfl, rfl, _, rfl, ?_⟩⟩
    have s6 := s5.trans (.put (o := .lst [V.str "pair", V.str "find"]) hp6)
    generalize upd H5 p6 (HO.lst [V.str (Str.ofString "pair"), V.str (Str.ofString "find")]) = H6 at s6
    by_cases c5 : inV (V.str wd) [V.str "pair", V.str "find"] = true
    · exact iteT' c5 ⟨_, _, _, rfl, rfl, by rw [sizeLine_eq]; decide, sign_at g4, by omega, fin _ _ _ s6 (.three (dw5 wd ew c5) r2 r3 r4)⟩
    refine iteF' c5 ?_
    refine ⟨by omega, fun p7 hp7 => ⟨p7, _, rfl, .inl (.of upd_same), rfl, rfl, _, rfl, ?_⟩⟩
    have s7 := s6.trans (.put (o := .lst [V.str "drop", V.str "tell", V.str "hear"]) hp7)
    generalize upd H6 p7 (HO.lst [V.str (Str.ofString "drop"), V.str (Str.ofString "tell"), V.str (Str.ofString "hear")]) = H7 at s7
    by_cases c6 : inV (V.str wd) [V.str "drop", V.str "tell", V.str "hear"] = true
    · exact iteT' c6 ⟨by omega, fin _ _ _ s7 (.one (dw6 wd ew c6) r2)⟩
    exact iteF' c6 ⟨by omega, fin _ _ _ s7 (.two (dw7 wd ew c1 c2 c3 c4 c5 c6) r2 r3)⟩
def sp_law_cell_at (K : PySem.W.Frag) : Sp := fun vs H Q _ => ∃ (p : Addr) (ns : List Int) (k : Int), vs = [.ref p, .int k] ∧ SqL K H p (ns.map V.int) ∧ 0 ≤ k ∧ ∀ z, Q (.int z) H
theorem ok_law_cell_at (T : Txt K mg a) : FnOk P w K mg base CX0 1 a.a_law_cell_at a.d_law_cell_at ["_law_script", "_law_k"] (sp_law_cell_at K) := by
  refine T.f_law_cell_at.ok sc_law_cell_at (fun vs H Q E h => ?_) (fun cdv A outer s H vs Q E hr h => ?_)
  · obtain ⟨_, _, _, rfl, _⟩ := h
    rfl
  · obtain ⟨p, ns, k, rfl, hS, hk, q⟩ := h
    refine ⟨_, (@pss_cons _ _ _ _ _ (ps_if (pt_cmpR op_lt (pv 1) (pe_callB call_len_seq rfl T.n_len bt_len (@pa_cons _ _ _ _ _ (pv 0) pa_nil (by rfl))) (nomark _)) (@pss_one _ _ _ (@ps_ret _ _ _ _ (pe_ix ix_list (pv 0) (pv 1) (fun _ _ => rfl)))) pss_nil) (@pss_one _ _ _ (@ps_ret _ _ _ _ pe_int))), ?_⟩
    dsimp! []
    refine ⟨_, .inl hS, ite2 (fun h => ?_) fun _ => q 0⟩
    have hlt : k.toNat < ns.length := by
      have := of_decide_eq_true h
      rw [List.length_map] at this
      omega
    have e : k = ((k.toNat : Nat) : Int) := by omega
    have hx : (ns.map V.int)[k.toNat]? = some (V.int ns[k.toNat]) := by simp [hlt]
    exact ⟨p, _, k, _, rfl, rfl, hS, (congrArg (atI _) e).trans (atI_nat hx), q _⟩
theorem ej_cons (x : Str) : ∀ r : List Str, ("" : Str).join (x :: r) = x ++ ("" : Str).join r
  | [] => by
    rw [Str.join.eq_2, Str.join.eq_1]
    apply str_toList
    rw [str_app_list]
    simp [Str.empty]
  | y :: r => by
    rw [Str.join.eq_3 _ _ _ (by simp)]
    apply str_toList
    rw [str_app_list, str_app_list, str_app_list]
    simp
    rfl
theorem ej_nil : ("" : Str).join [] = "" := by
  rw [Str.join.eq_1]
  rfl
theorem nil_app (x : Str) : ("" : Str) ++ x = x := by
  apply str_toList
  rw [str_app_list]
  simp
  rfl
theorem app_nil (x : Str) : x ++ ("" : Str) = x := by
  apply str_toList
  rw [str_app_list]
  simp
  rfl
theorem app_assoc (x y z : Str) : x ++ y ++ z = x ++ (y ++ z) := by
  apply str_toList
  rw [str_app_list, str_app_list, str_app_list, str_app_list, List.append_assoc]
theorem ej_append (x y : List Str) : ("" : Str).join (x ++ y) = ("" : Str).join x ++ ("" : Str).join y := by
  induction x with
  | nil => rw [ej_nil, nil_app]; rfl
  | cons a r ih => rw [List.cons_append, ej_cons, ej_cons, ih, app_assoc]
theorem ej_flat {α : Type} (f : α → List Str) (l : List α) : ("" : Str).join (l.flatMap f) = ("" : Str).join (l.map fun x => ("" : Str).join (f x)) := by
  induction l with
  | nil => rfl
  | cons a r ih => rw [List.flatMap_cons, ej_append, List.map_cons, ej_cons, ih]
def sp1 (t : Str) : Str := (" " : Str) ++ t
theorem join_sp (w : Str) : ∀ ws : List Str, (⟨#[32]⟩ : Str).join (w :: ws) = w ++ ("" : Str).join (ws.map sp1)
  | [] => by rw [Str.join.eq_2, List.map_nil, ej_nil, app_nil]
  | y :: r => by
    rw [Str.join.eq_3 _ _ _ (by simp), join_sp y r, List.map_cons, ej_cons]
    unfold sp1
    rw [app_assoc, app_assoc]
    rfl
theorem join_two (c : Nat) (b : List Str) (hb : b ≠ []) : ∀ a : List Str, a ≠ [] → (⟨#[c]⟩ : Str).join (a ++ b) = (⟨#[c]⟩ : Str).join a ++ ⟨#[c]⟩ ++ (⟨#[c]⟩ : Str).join b
  | [], h => absurd rfl h
  | [x], _ => by rw [List.singleton_append, Str.join.eq_3 _ _ _ (by simpa using hb), Str.join.eq_2]
  | x :: y :: r, _ => by
    rw [List.cons_append, Str.join.eq_3 _ _ _ (by simp), join_two c b hb (y :: r) (by simp), Str.join.eq_3 _ _ (y :: r) (by simp)]
    simp only [app_assoc]
theorem jn_mem {c x : Nat} : ∀ {l : List (List Nat)}, x ∈ jn c l → x = c ∨ ∃ a ∈ l, x ∈ a
  | [], h => by cases h
  | [a], h => .inr ⟨a, List.mem_cons_self .., h⟩
  | a :: b :: r, h => by
    rcases List.mem_append.mp (show x ∈ a ++ c :: jn c (b :: r) from h) with h | h
    · exact .inr ⟨a, List.mem_cons_self .., h⟩
    · rcases List.mem_cons.mp h with h | h
      · exact .inl h
      · rcases jn_mem h with h | ⟨d, hd, h⟩
        · exact .inl h
        · exact .inr ⟨d, List.mem_cons_of_mem _ hd, h⟩
theorem join_mem {c x : Nat} {ws : List Str} (h : x ∈ ((⟨#[c]⟩ : Str).join ws).cps.toList) : x = c ∨ ∃ w ∈ ws, x ∈ w.cps.toList := by
  rw [join_jn] at h
  rcases jn_mem h with h | ⟨d, hd, h⟩
  · exact .inl h
  · obtain ⟨w, hw, rfl⟩ := List.mem_map.mp hd
    exact .inr ⟨w, hw, h⟩
theorem Fit.free45 {s : Str} {x : V} (h : Fit s x) : 45 ∉ (shv x).cps.toList := by
  rcases h with ⟨_, k, hk, rfl⟩ | ⟨_, n, hn, rfl⟩ | ⟨_, n, hn, rfl⟩
  · exact (by decide +kernel : ∀ k < 26, 45 ∉ (⟨#[97 + k]⟩ : Str).cps.toList) k hk
  · exact nt_free n 45 (by decide)
  · exact nt_free n 45 (by decide)
theorem Deed.row_free {w0 : Str} {xs : List V} {ss : List Str} (h : Deed w0 xs ss) : 10 ∉ (rowT w0 xs).cps.toList ∧ 45 ∉ (rowT w0 xs).cps.toList := by
  have w1 := (by decide +kernel : ∀ p ∈ partsD, 45 ∉ p.1.cps.toList) _ (parts_mem h.at_)
  have e : rowT w0 xs = (⟨#[32]⟩ : Str).join (w0 :: xs.map shv) := by
    unfold rowT
    rw [txt_join]
    rfl
  rw [e]
  refine ⟨fun z => ?_, fun z => ?_⟩
  · rcases join_mem z with z2 | ⟨t, ht, z2⟩
    · cases z2
    · rcases List.mem_cons.mp ht with rfl | ht
      · exact h.word.2.2 z2
      · obtain ⟨x, hx, rfl⟩ := List.mem_map.mp ht
        exact (h.all hx).elim fun s hs => hs.signs.2.2 z2
  · rcases join_mem z with z2 | ⟨t, ht, z2⟩
    · cases z2
    · rcases List.mem_cons.mp ht with rfl | ht
      · exact w1 z2
      · obtain ⟨x, hx, rfl⟩ := List.mem_map.mp ht
        exact (h.all hx).elim fun s hs => hs.free45 z2
def answers : List Str := ["ok", "yes", "no", "none", "thing", "nothing", "no thing", "no field", "no room"]
def AnsOk (z : Str) : Prop := z ∈ answers ∨ ∃ n : Nat, n < 10 ^ 60 ∧ z = nt n
theorem AnsOk.len {z : Str} (h : AnsOk z) : z.length ≤ 60 := by
  rcases h with h | ⟨n, hn, rfl⟩
  · exact (by decide +kernel : ∀ z ∈ answers, z.length ≤ 60) z h
  · exact nt_len hn
theorem AnsOk.free {z : Str} (h : AnsOk z) : 45 ∉ z.cps.toList ∧ 10 ∉ z.cps.toList := by
  rcases h with h | ⟨n, hn, rfl⟩
  · exact (by decide +kernel : ∀ z ∈ answers, 45 ∉ z.cps.toList ∧ 10 ∉ z.cps.toList) z h
  · exact ⟨nt_free n 45 (by decide), nt_free n 10 (by decide)⟩
inductive Row where
  | deed (w0 : Str) (xs : List V) (an : Str)
  | nums (w : Str) (ls : List (List Nat))
def barW (w : Str) : List Str := if w = "turn" then [("|" : Str)] else []
def numsW (w : Str) (ls : List (List Nat)) : List Str := ls.flatMap fun ns => barW w ++ ns.map nt
def Row.tx : Row → Str
  | .deed w0 xs an => rowT w0 xs ++ " -> " ++ an
  | .nums w ls => (⟨#[32]⟩ : Str).join (w :: numsW w ls)
def bares : List Str := ["begin", "end", "packed"]
def Row.ok : Row → Prop
  | .deed w0 xs an => (∃ ss, Deed w0 xs ss) ∧ AnsOk an
  | .nums w ls => ((w = "freed" ∧ ls.length = 1) ∨ (w = "turn" ∧ ls.length = 7) ∨ (w ∈ bares ∧ ls = [])) ∧ ∀ ns ∈ ls, ns.length ≤ 5 ∧ ∀ n ∈ ns, n < 10 ^ 60
theorem word_ok {w : Str} {n : Nat} {b : Prop} (h : (w = "freed" ∧ n = 1) ∨ (w = "turn" ∧ n = 7) ∨ (w ∈ bares ∧ b)) : w.length ≤ 60 ∧ 32 ∉ w.cps.toList ∧ 10 ∉ w.cps.toList ∧ 1 ≤ w.length := by
  rcases h with ⟨rfl, _⟩ | ⟨rfl, _⟩ | ⟨h, _⟩
  · decide +kernel
  · decide +kernel
  · exact (by decide +kernel : ∀ w ∈ bares, w.length ≤ 60 ∧ 32 ∉ w.cps.toList ∧ 10 ∉ w.cps.toList ∧ 1 ≤ w.length) w h
theorem numsW_word {w : Str} {ls : List (List Nat)} (h : ∀ ns ∈ ls, ns.length ≤ 5 ∧ ∀ n ∈ ns, n < 10 ^ 60) {t : Str} (ht : t ∈ numsW w ls) : t.length ≤ 60 ∧ 32 ∉ t.cps.toList ∧ 10 ∉ t.cps.toList := by
  obtain ⟨ns, hns, ht⟩ := List.mem_flatMap.mp ht
  rcases List.mem_append.mp ht with ht | ht
  · unfold barW at ht
    split at ht
    · have : t = "|" := by simpa using ht
      subst this
      decide +kernel
    · cases ht
  · obtain ⟨n, hn, rfl⟩ := List.mem_map.mp ht
    exact ⟨nt_len ((h ns hns).2 n hn), nt_free n 32 (by decide), nt_free n 10 (by decide)⟩
theorem numsW_len {w : Str} {ls : List (List Nat)} (h : ∀ ns ∈ ls, ns.length ≤ 5 ∧ ∀ n ∈ ns, n < 10 ^ 60) : (numsW w ls).length ≤ 6 * ls.length := by
  induction ls with
  | nil => exact Nat.zero_le _
  | cons a r ih =>
    unfold numsW at ih ⊢
    rw [List.flatMap_cons, List.length_append, List.length_append, List.length_map, List.length_cons]
    have h1 : (barW w).length ≤ 1 := by unfold barW; split <;> simp
    have h2 := (h a (List.mem_cons_self ..)).1
    have h3 := ih fun ns hns => h ns (List.mem_cons_of_mem _ hns)
    omega
theorem Row.ok.len {r : Row} (h : r.ok) : r.tx.length ≤ 5000 ∧ 1 ≤ r.tx.length := by
  match r, h with
  | .deed w0 xs an, ⟨⟨ss, hd⟩, ha⟩ =>
    have h1 := hd.rds.few
    have h2 := ha.len
    show (rowT w0 xs ++ " -> " ++ an).length ≤ 5000 ∧ 1 ≤ (rowT w0 xs ++ " -> " ++ an).length
    rw [strLen_append, strLen_append, show (Str.ofString " -> ").length = 4 from rfl]
    omega
  | .nums w ls, ⟨hw, hn⟩ =>
    have w1 := word_ok hw
    have h1 := numsW_len (w := w) hn
    have hl : ls.length ≤ 7 := by
      rcases hw with ⟨_, e⟩ | ⟨_, e⟩ | ⟨_, e⟩
      · omega
      · omega
      · rw [e]; exact Nat.zero_le _
    have h2 := join_len ⟨#[32]⟩ (w :: numsW w ls)
    have h3 := sum_len (ts := w :: numsW w ls) fun t ht => by
      rcases List.mem_cons.mp ht with rfl | ht
      · exact Nat.le_trans w1.1 (by decide : 60 ≤ 100)
      · exact Nat.le_trans (numsW_word hn ht).1 (by decide : 60 ≤ 100)
    rw [show (⟨#[32]⟩ : Str).length = 1 from rfl] at h2
    rw [List.length_cons] at h2 h3
    show ((⟨#[32]⟩ : Str).join (w :: numsW w ls)).length ≤ 5000 ∧ _
    refine ⟨by omega, ?_⟩
    show 1 ≤ ((⟨#[32]⟩ : Str).join (w :: numsW w ls)).length
    rw [join_sp, strLen_append]
    omega
theorem Row.ok.line {r : Row} (h : r.ok) : 10 ∉ r.tx.cps.toList := by
  match r, h with
  | .deed w0 xs an, ⟨⟨ss, hd⟩, ha⟩ =>
    show 10 ∉ (rowT w0 xs ++ " -> " ++ an).cps.toList
    rw [str_app_list, str_app_list]
    intro z
    rcases List.mem_append.mp z with z | z
    · rcases List.mem_append.mp z with z | z
      · exact hd.row_free.1 z
      · exact absurd z (by decide +kernel)
    · exact ha.free.2 z
  | .nums w ls, ⟨hw, hn⟩ =>
    intro z
    rcases join_mem z with z2 | ⟨t, ht, z2⟩
    · cases z2
    · rcases List.mem_cons.mp ht with rfl | ht
      · exact (word_ok hw).2.2.1 z2
      · exact (numsW_word hn ht).2.2 z2
theorem nums_split {w : Str} {ls : List (List Nat)} (h : (Row.nums w ls).ok) : PySem.Txt.split (Row.nums w ls).tx " " = w :: numsW w ls :=
  split_join (c := 32) (fun t ht => by
    rcases List.mem_cons.mp ht with rfl | ht
    · exact (word_ok h.1).2.1
    · exact (numsW_word h.2 ht).2.1) (by simp)
theorem deed_words {w0 : Str} {xs : List V} {an : Str} (h : (Row.deed w0 xs an).ok) : ∃ y r, PySem.Txt.split (Row.deed w0 xs an).tx " " = w0 :: y :: r := by
  obtain ⟨⟨ss, hd⟩, ha⟩ := h
  have ne : PySem.Txt.split an " " ≠ [] := fun e => by
    have := PyProof.Rows.len_of_split (l := (PySem.Txt.split an " ").map fun w => (w, 0)) (x := an) (y := " ") (by rw [List.map_map]; exact List.map_id _)
    rw [List.length_map, e] at this
    exact absurd this (by decide)
  have e : (Row.deed w0 xs an).tx = (⟨#[32]⟩ : Str).join ((w0 :: xs.map shv) ++ ((Str.ofString "->") :: PySem.Txt.split an " ")) := by
    rw [join_two 32 _ (by simp) _ (by simp), Str.join.eq_3 _ _ _ ne]
    have := StrLaws.join_split an " "
    rw [show (⟨#[32]⟩ : Str) = " " from rfl, this]
    show rowT w0 xs ++ " -> " ++ an = _
    unfold rowT
    rw [txt_join, show (Str.ofString " -> ") = Str.ofString " " ++ (Str.ofString "->" ++ Str.ofString " ") from str_toList (by rw [str_app_list, str_app_list]; rfl)]
    simp only [app_assoc]
  rw [e]
  have this : PySem.Txt.split ((⟨#[32]⟩ : Str).join ((w0 :: xs.map shv) ++ ((Str.ofString "->") :: PySem.Txt.split an " "))) " " = (w0 :: xs.map shv) ++ ((Str.ofString "->") :: PySem.Txt.split an " ") := split_join (c := 32) (ws := (w0 :: xs.map shv) ++ ((Str.ofString "->") :: PySem.Txt.split an " ")) (fun t ht => by
    rcases List.mem_append.mp ht with ht | ht
    · exact hd.parts32 ht
    · rcases List.mem_cons.mp ht with rfl | ht
      · decide +kernel
      · exact StrLaws.split_free an 32 t ht) (by simp)
  rw [this]
  cases xs with
  | nil => exact ⟨_, _, rfl⟩
  | cons x r => exact ⟨_, _, rfl⟩
theorem Row.bare {r : Row} (h : r.ok) : r.tx ∈ bares ↔ ∃ w, w ∈ bares ∧ r = .nums w [] := by
  constructor
  · intro m
    have e : ∀ z ∈ bares, PySem.Txt.split z " " = [z] := by decide +kernel
    have e1 := e _ m
    match r, h with
    | .deed w0 xs an, h =>
      obtain ⟨y, r, e2⟩ := deed_words h
      rw [e2] at e1
      injection e1 with _ e3
      cases e3
    | .nums w ls, h =>
      rw [nums_split h] at e1
      injection e1 with e1 e2
      rw [← e1] at m
      refine ⟨w, m, ?_⟩
      rcases h.1 with ⟨rfl, _⟩ | ⟨rfl, _⟩ | ⟨_, e3⟩
      · exact absurd m (by decide +kernel)
      · exact absurd m (by decide +kernel)
      · rw [e3]
  · rintro ⟨w, m, rfl⟩
    show (⟨#[32]⟩ : Str).join (w :: numsW w []) ∈ bares
    rw [show numsW w [] = [] from rfl, Str.join.eq_2]
    exact m
def nI (ns : List Nat) : List V := ns.map fun n : Nat => V.int (n : Int)
def RowAt (F H : Hp) (p : Addr) : Row → Prop
  | .deed w0 xs an => ∃ d, H p = some (.tup [.str "deed", .ref d, .str an]) ∧ H d = some (.tup (.str w0 :: xs))
  | .nums w ls => ∃ qs : List Addr, H p = some (.tup (.str w :: qs.map .ref)) ∧ qs.length = ls.length ∧ ∀ (i : Nat) q ns, qs[i]? = some q → ls[i]? = some ns → H q = some (.lst (nI ns)) ∧ F q = none
theorem RowAt.same {F H H' : Hp} {p : Addr} {r : Row} (h : RowAt F H p r) (s : Same H H') : RowAt F H' p r := by
  match r, h with
  | .deed w0 xs an, ⟨d, h1, h2⟩ => exact ⟨d, s _ _ h1, s _ _ h2⟩
  | .nums w ls, ⟨qs, h1, h2, h3⟩ => exact ⟨qs, s _ _ h1, h2, fun i q ns e1 e2 => ⟨s _ _ (h3 i q ns e1 e2).1, (h3 i q ns e1 e2).2⟩⟩
theorem RowAt.old {F F' H : Hp} {p : Addr} {r : Row} (h : RowAt F H p r) (s : Same F' F) : RowAt F' H p r := by
  match r, h with
  | .deed w0 xs an, ⟨d, h1, h2⟩ => exact ⟨d, h1, h2⟩
  | .nums w ls, ⟨qs, h1, h2, h3⟩ => exact ⟨qs, h1, h2, fun i q ns e1 e2 => ⟨(h3 i q ns e1 e2).1, s.free (h3 i q ns e1 e2).2⟩⟩
def H0 : Hp := fun _ => none
theorem RowAt.any {F H : Hp} {p : Addr} {r : Row} (h : RowAt F H p r) : RowAt H0 H p r := h.old fun _ _ e => by cases e
theorem nums_tx (w : Str) (ls : List (List Nat)) : (Row.nums w ls).tx = w ++ ("" : Str).join (ls.map fun ns => ("" : Str).join ((barW w ++ ns.map nt).map sp1)) := by
  show (⟨#[32]⟩ : Str).join (w :: numsW w ls) = _
  rw [join_sp]
  unfold numsW
  rw [List.map_flatMap, ej_flat]
def numT (ns : List Nat) : Str := ("" : Str).join ((ns.map nt).map sp1)
theorem numT_len {ns : List Nat} (h : ns.length ≤ 5) (hn : ∀ n ∈ ns, n < 10 ^ 60) : (numT ns).length ≤ 500 := by
  have h1 := join_len "" ((ns.map nt).map sp1)
  have h2 := sum_len (ts := (ns.map nt).map sp1) fun t ht => by
    obtain ⟨t2, ht2, rfl⟩ := List.mem_map.mp ht
    obtain ⟨n, hn2, rfl⟩ := List.mem_map.mp ht2
    unfold sp1
    rw [strLen_append]
    have := nt_len (hn n hn2)
    have : (Str.ofString " ").length = 1 := rfl
    omega
  rw [show (Str.ofString "").length = 0 from rfl] at h1
  rw [List.length_map, List.length_map] at h1 h2
  unfold numT
  omega
def sp_serials_shown : Sp := fun vs H Q _ => ∃ l ns, vs = [.ref l] ∧ H l = some (.lst (nI ns)) ∧ ns.length ≤ 5 ∧ (∀ n ∈ ns, n < 10 ^ 60) ∧ ∀ H', Same H H' → Q (.str (numT ns)) H'
theorem ok_serials_shown (T : Txt K mg a) : FnOk P w K mg base CX0 2 a.a_serials_shown a.d_serials_shown ["serials"] sp_serials_shown := by
  refine T.f_serials_shown.ok sc_serials_shown (fun vs H Q E h => ?_) (fun cdv A outer s H vs Q E hr h => ?_)
  · obtain ⟨_, _, rfl, _⟩ := h
    rfl
  · obtain ⟨l, ns, rfl, hl, h5, hn, q⟩ := h
    refine ⟨_, (@pss_one _ _ _ (@ps_ret _ _ _ _ (@pe_bm _ _ _ _ _ _ _ _ _ _ _ _ PySem.F.plainAttrs_str PySem.F.slot_str_join PySem.F.type_str_join mt_join pe_str (@pa_cons _ _ _ _ _ (pe_lc rfl (lcok (x := "serial") (ns := []) (fr := []) rfl (by decide +kernel) rfl (by decide +kernel) rfl (List.forall_mem_nil _) rfl rfl (List.forall_mem_nil _) (by decide +kernel)) (pi_list (pv 0)) (fun _ _ _ _ => (pe_fstr (pv 0))) (fun _ _ _ _ => .nil)) pa_nil (by rfl)) (by rfl) (by rfl) (by rfl) (by rfl) (by rfl)))), ?_⟩
    dsimp! []
    refine ⟨rfl, ⟨_, SqL.of hl⟩, fun D hD => lc_lstS (((ns.map nt).map sp1).map V.str) hD (.of hl) (by simp [nI]) (by simp [nI]; omega) (fun i x y H2 R h1 h2 h3 h => ?_) fun H2 h1 h2 => ⟨_, .of h2, ?_, ?_⟩⟩
    · dsimp! [lcSlots]
      unfold nI at h1
      rw [List.getElem?_map, Option.map_eq_some_iff] at h1
      obtain ⟨n, h1, rfl⟩ := h1
      rw [List.getElem?_map, List.getElem?_map, List.getElem?_map, h1] at h2
      cases h2
      have hn2 := hn n (List.mem_of_getElem? h1)
      have hl2 := nt_len hn2
      refine ⟨by rw [sizeLine_eq]; decide, _, rfl, log60 hn2, ?_, h H2 (.refl H2)⟩
      have : (Str.ofString " " ++ nt n).length = 1 + (nt n).length := strLen_append _ _
      exact Nat.le_trans (Nat.le_of_eq this) (by rw [sizeLine_eq]; omega)
    · have h2 := sum_len (ts := (ns.map nt).map sp1) fun t ht => by
        obtain ⟨t2, ht2, rfl⟩ := List.mem_map.mp ht
        obtain ⟨n, hn2, rfl⟩ := List.mem_map.mp ht2
        unfold sp1
        rw [strLen_append]
        have := nt_len (hn n hn2)
        have : (Str.ofString " ").length = 1 := rfl
        omega
      rw [show (Str.ofString "").length = 0 from rfl]
      rw [List.length_map, List.length_map] at h2 ⊢
      omega
    · rw [txt_join]
      exact q _ h1
theorem sum_lenB {b : Nat} {ts : List Str} (h : ∀ t ∈ ts, t.length ≤ b) : (ts.map (·.length)).sum ≤ b * ts.length := by
  induction ts with
  | nil => exact Nat.zero_le _
  | cons t ts ih =>
    have h1 := h t (List.mem_cons_self ..)
    have h2 := ih fun x hx => h x (List.mem_cons_of_mem _ hx)
    simp only [List.map_cons, List.sum_cons, List.length_cons, Nat.mul_succ]
    omega
def sp_row_shown : Sp := fun vs H Q _ => ∃ p r, vs = [.ref p] ∧ RowAt H0 H p r ∧ r.ok ∧ ∀ H', Same H H' → Q (.str r.tx) H'
theorem ok_row_shown (T : Txt K mg a) : FnOk P w K mg base CX0 4 a.a_row_shown a.d_row_shown ["row"] sp_row_shown := by
  refine T.f_row_shown.ok sc_row_shown (fun vs H Q E h => ?_) (fun cdv A outer s H vs Q E hr h => ?_)
  · obtain ⟨_, _, rfl, _⟩ := h
    rfl
  · obtain ⟨p, r, rfl, hp, ho, q⟩ := h
    refine ⟨_, (@pss_cons _ _ _ _ _ (ps_if (pt_cmpR op_eq (pe_ix ix_tup (pv 0) pe_int (fun _ _ => rfl)) pe_str (nomark _)) (@pss_one _ _ _ (@ps_ret _ _ _ _ (@pe_op _ _ _ _ _ _ _ _ op_add_str (@pe_op _ _ _ _ _ _ _ _ op_add_str (pe_call (ok_deed_shown T) (hr.mono (by decide)) rfl T.m_deed_shown T.f_deed_shown.kp T.b_deed_shown .nil pass0 (@pa_cons _ _ _ _ _ (pe_ix ix_tup (pv 0) pe_int (fun _ _ => rfl)) pa_nil (by rfl))) (pe_glob (v := .str " -> ") rfl T.c_ARROW ⟨_, rfl⟩)) (pe_ix ix_tup (pv 0) pe_int (fun _ _ => rfl))))) pss_nil) (@pss_cons _ _ _ _ _ (ps_if (pt_cmpR op_eq (pe_ix ix_tup (pv 0) pe_int (fun _ _ => rfl)) pe_str (nomark _)) (@pss_one _ _ _ (@ps_ret _ _ _ _ (@pe_op _ _ _ _ _ _ _ _ op_add_str pe_str (pe_call (ok_serials_shown T) (hr.mono (by decide)) rfl T.m_serials_shown T.f_serials_shown.kp T.b_serials_shown .nil pass0 (@pa_cons _ _ _ _ _ (pe_ix ix_tup (pv 0) pe_int (fun _ _ => rfl)) pa_nil (by rfl)))))) pss_nil) (@pss_cons _ _ _ _ _ (ps_if (pt_cmpR op_eq (pe_ix ix_tup (pv 0) pe_int (fun _ _ => rfl)) pe_str (nomark _)) (@pss_one _ _ _ (@ps_ret _ _ _ _ (@pe_op _ _ _ _ _ _ _ _ op_add_str pe_str (@pe_bm _ _ _ _ _ _ _ _ _ _ _ _ PySem.F.plainAttrs_str PySem.F.slot_str_join PySem.F.type_str_join mt_join pe_str (@pa_cons _ _ _ _ _ (pe_lc rfl (lcok (x := "serials") (ns := []) (fr := []) rfl (by decide +kernel) rfl (by decide +kernel) rfl (List.forall_mem_nil _) rfl rfl (List.forall_mem_nil _) (by decide +kernel)) (pi_tup (pe_slice sl_tup (pv 0) (po_some pe_int) po_none)) (fun _ _ _ _ => (@pe_op _ _ _ _ _ _ _ _ op_add_str pe_str (pe_call (ok_serials_shown T) (hr.mono (by decide)) rfl T.m_serials_shown T.f_serials_shown.kp T.b_serials_shown .nil pass0 (@pa_cons _ _ _ _ _ (pv 0) pa_nil (by rfl))))) (fun _ _ _ _ => .nil)) pa_nil (by rfl)) (by rfl) (by rfl) (by rfl) (by rfl) (by rfl))))) pss_nil) (@pss_one _ _ _ (@ps_ret _ _ _ _ (pe_ix ix_tup (pv 0) pe_int (fun _ _ => rfl))))))), ?_⟩
    dsimp! [sp_deed_shown, sp_serials_shown]
    match r, hp, ho, q with
    | .deed w0 xs an, ⟨d, hp, hd⟩, ⟨⟨ss, hD⟩, ha⟩, q =>
      have few := parts_few hD.at_
      have hln := hD.len
      have sh0 : ∀ x ∈ V.str w0 :: xs, Shw x := fun x hx => by
        rcases List.mem_cons.mp hx with rfl | hx
        · exact .inr ⟨w0, hD.word.1, rfl⟩
        · exact (hD.all hx).elim fun s hs => hs.shw
      have l1 := hD.rds.few
      have l2 := ha.len
      refine ⟨p, _, 0, .str "deed", rfl, rfl, .of hp, atI_nat (j := 0) rfl, rfl, ?_⟩
      rw [if_pos (decide_eq_true rfl)]
      refine ⟨p, _, 1, .ref d, rfl, rfl, .of hp, atI_nat (j := 1) rfl, d, rfl, _, .of hd, by rw [List.length_cons]; omega, sh0, fun H1 s1 => ?_⟩
      have e1 : (Str.ofString " -> ").length = 4 := rfl
      have e2 : (Txt.join (Str.ofString " ") (List.map shv (V.str w0 :: xs))).length ≤ 1000 := l1
      refine ⟨by rw [sizeLine_eq]; omega, p, _, 2, .str an, rfl, rfl, .of (s1 p _ hp), atI_nat (j := 2) rfl, an, rfl, ?_, q _ s1⟩
      rw [strLen_append, sizeLine_eq]
      omega
    | .nums w ls, ⟨qs, hp, hql, hqs⟩, ⟨hw, hn⟩, q =>
      refine ⟨p, _, 0, .str w, rfl, rfl, .of hp, atI_nat (j := 0) rfl, rfl, ?_⟩
      rw [nums_tx] at q
      rcases hw with ⟨rfl, h1⟩ | ⟨rfl, h7⟩ | ⟨hb, rfl⟩
      · rw [if_neg (by decide +kernel)]
        refine ⟨p, _, 0, .str "freed", rfl, rfl, .of hp, atI_nat (j := 0) rfl, rfl, ?_⟩
        rw [if_pos (decide_eq_true rfl)]
        obtain ⟨ns, rfl⟩ : ∃ ns, ls = [ns] := List.length_eq_one_iff.mp h1
        obtain ⟨q1, rfl⟩ : ∃ q1, qs = [q1] := List.length_eq_one_iff.mp hql
        have h2 := hqs 0 q1 ns rfl rfl
        have h3 := hn ns (List.mem_cons_self ..)
        refine ⟨p, _, 1, .ref q1, rfl, rfl, .of hp, atI_nat (j := 1) rfl, q1, rfl, ns, h2.1, h3.1, h3.2, fun H1 s1 => ⟨?_, ?_⟩⟩
        · have := numT_len h3.1 h3.2
          rw [sizeLine_eq]
          have : (Str.ofString "freed").length = 5 := rfl
          omega
        · have := q _ s1
          rw [List.map_cons, List.map_nil, ej_cons, ej_nil, app_nil] at this
          exact this
      · rw [if_neg (by decide +kernel)]
        refine ⟨p, _, 0, .str "turn", rfl, rfl, .of hp, atI_nat (j := 0) rfl, rfl, ?_⟩
        rw [if_neg (by decide +kernel)]
        refine ⟨p, _, 0, .str "turn", rfl, rfl, .of hp, atI_nat (j := 0) rfl, rfl, ?_⟩
        rw [if_pos (decide_eq_true rfl)]
        refine ⟨rfl, p, _, rfl, .of hp, ?_, fun p2 hp2 => ?_⟩
        · rw [HT.sIx_none, show (some (1 : Int)) = some ((1 : Nat) : Int) from rfl, HT.sIx_nat]
          simp
        rw [cut_tail]
        have h2 : upd H p2 (HO.tup (qs.map V.ref)) p2 = some (.tup (qs.map V.ref)) := upd_same
        have s2 : Same H (upd H p2 (HO.tup (qs.map V.ref))) := .put hp2
        generalize upd H p2 (HO.tup (qs.map V.ref)) = H2 at h2 s2
        have e1 : (Str.ofString " |").length = 2 := rfl
        refine ⟨p2, rfl, ⟨_, .of h2⟩, fun D hD => lc_tupS ((ls.map fun ns => Str.ofString " |" ++ numT ns).map V.str) hD (.of h2) (by simp [hql]) (by simp [hql]; omega) (fun i x y H3 R e1 e2 s3 h => ?_) fun H3 s3 hD3 => ⟨_, .of hD3, ?_, ?_, ?_⟩⟩
        · dsimp! [lcSlots, sp_serials_shown]
          rw [List.getElem?_map, Option.map_eq_some_iff] at e1
          obtain ⟨q1, e1, rfl⟩ := e1
          rw [List.getElem?_map, List.getElem?_map, Option.map_map, Option.map_eq_some_iff] at e2
          obtain ⟨ns, e2, rfl⟩ := e2
          have h3 := hn ns (List.mem_of_getElem? e2)
          refine ⟨q1, rfl, ns, s3 _ _ (s2 _ _ (hqs i q1 ns e1 e2).1), h3.1, h3.2, fun H4 s4 => ⟨?_, h H4 s4⟩⟩
          have := numT_len h3.1 h3.2
          rw [sizeLine_eq]
          omega
        · have h2 := sum_lenB (b := 502) (ts := ls.map fun ns => Str.ofString " |" ++ numT ns) fun t ht => by
            obtain ⟨ns, hns, rfl⟩ := List.mem_map.mp ht
            rw [strLen_append]
            have := numT_len (hn ns hns).1 (hn ns hns).2
            omega
          rw [show (Str.ofString "").length = 0 from rfl]
          rw [List.length_map] at h2 ⊢
          omega
        · have h1 := join_len "" (ls.map fun ns => Str.ofString " |" ++ numT ns)
          have h2 := sum_lenB (b := 502) (ts := ls.map fun ns => Str.ofString " |" ++ numT ns) fun t ht => by
            obtain ⟨ns, hns, rfl⟩ := List.mem_map.mp ht
            rw [strLen_append]
            have := numT_len (hn ns hns).1 (hn ns hns).2
            omega
          rw [txt_join, sizeLine_eq]
          have : (Str.ofString "turn").length = 4 := rfl
          rw [show (Str.ofString "").length = 0 from rfl] at h1
          rw [List.length_map] at h1 h2
          omega
        · rw [txt_join]
          have := q _ (s2.trans s3)
          have e3 : (ls.map fun ns => ("" : Str).join ((barW "turn" ++ ns.map nt).map sp1)) = ls.map fun ns => Str.ofString " |" ++ numT ns := by
            apply List.map_congr_left
            intro ns _
            rw [List.map_append, ej_append]
            rfl
          rw [e3] at this
          exact this
      · have hd := (by decide +kernel : ∀ w ∈ bares, w ≠ "deed" ∧ w ≠ "freed" ∧ w ≠ "turn") w hb
        rw [if_neg (by rw [decide_eq_false (fun e => hd.1 (V.str.inj e))]; decide)]
        refine ⟨p, _, 0, .str w, rfl, rfl, .of hp, atI_nat (j := 0) rfl, rfl, ?_⟩
        rw [if_neg (by rw [decide_eq_false (fun e => hd.2.1 (V.str.inj e))]; decide)]
        refine ⟨p, _, 0, .str w, rfl, rfl, .of hp, atI_nat (j := 0) rfl, rfl, ?_⟩
        rw [if_neg (by rw [decide_eq_false (fun e => hd.2.2 (V.str.inj e))]; decide)]
        refine ⟨p, _, 0, .str w, rfl, rfl, .of hp, atI_nat (j := 0) rfl, ?_⟩
        have := q _ (.refl H)
        rw [List.map_nil, ej_nil, app_nil] at this
        exact this
def RowsAt (F H : Hp) (ps : List Addr) (rs : List Row) : Prop := ps.length = rs.length ∧ ∀ (i : Nat) p r, ps[i]? = some p → rs[i]? = some r → RowAt F H p r
theorem RowsAt.same {F H H' : Hp} {ps : List Addr} {rs : List Row} (h : RowsAt F H ps rs) (s : Same H H') : RowsAt F H' ps rs := ⟨h.1, fun i p r e1 e2 => (h.2 i p r e1 e2).same s⟩
theorem RowsAt.any {F H : Hp} {ps : List Addr} {rs : List Row} (h : RowsAt F H ps rs) : RowsAt H0 H ps rs := ⟨h.1, fun i p r e1 e2 => (h.2 i p r e1 e2).any⟩
def logT (rs : List Row) : Str := (⟨#[10]⟩ : Str).join (rs.map Row.tx)
theorem logT_sum {rs : List Row} (h : ∀ r ∈ rs, r.ok) : ((rs.map Row.tx).map (·.length)).sum ≤ 5000 * rs.length := by
  have h2 := sum_lenB (b := 5000) (ts := rs.map Row.tx) fun t ht => by
    obtain ⟨r, hr, rfl⟩ := List.mem_map.mp ht
    exact (h r hr).len.1
  rw [List.length_map] at h2
  exact h2
def sp_log_shown : Sp := fun vs H Q _ => ∃ l ps rs, vs = [.ref l] ∧ H l = some (.lst (ps.map V.ref)) ∧ RowsAt H0 H ps rs ∧ rs.length ≤ 100 ∧ (∀ r ∈ rs, r.ok) ∧ ∀ H', Same H H' → Q (.str (logT rs)) H'
theorem ok_log_shown (T : Txt K mg a) : FnOk P w K mg base CX0 6 a.a_log_shown a.d_log_shown ["log"] sp_log_shown := by
  refine T.f_log_shown.ok sc_log_shown (fun vs H Q E h => ?_) (fun cdv A outer s H vs Q E hr h => ?_)
  · obtain ⟨_, _, _, rfl, _⟩ := h
    rfl
  · obtain ⟨l, ps, rs, rfl, hl, hR, hz, ho, q⟩ := h
    refine ⟨_, (@pss_one _ _ _ (@ps_ret _ _ _ _ (@pe_bm _ _ _ _ _ _ _ _ _ _ _ _ PySem.F.plainAttrs_str PySem.F.slot_str_join PySem.F.type_str_join mt_join pe_str (@pa_cons _ _ _ _ _ (pe_lc rfl (lcok (x := "row") (ns := []) (fr := []) rfl (by decide +kernel) rfl (by decide +kernel) rfl (List.forall_mem_nil _) rfl rfl (List.forall_mem_nil _) (by decide +kernel)) (pi_list (pv 0)) (fun _ _ _ _ => (pe_call (ok_row_shown T) (hr.mono (by decide)) rfl T.m_row_shown T.f_row_shown.kp T.b_row_shown .nil pass0 (@pa_cons _ _ _ _ _ (pv 0) pa_nil (by rfl)))) (fun _ _ _ _ => .nil)) pa_nil (by rfl)) (by rfl) (by rfl) (by rfl) (by rfl) (by rfl)))), ?_⟩
    dsimp! []
    have hpl := hR.1
    refine ⟨rfl, ⟨_, .of hl⟩, fun D hD => lc_lstS ((rs.map Row.tx).map V.str) hD (.of hl) (by simp [hpl]) (by simp [hpl]; omega) (fun i x y H3 R e1 e2 s3 h => ?_) fun H3 s3 hD3 => ⟨_, .of hD3, ?_, ?_⟩⟩
    · dsimp! [lcSlots, sp_row_shown]
      rw [List.getElem?_map, Option.map_eq_some_iff] at e1
      obtain ⟨p, e1, rfl⟩ := e1
      rw [List.getElem?_map, List.getElem?_map, Option.map_map, Option.map_eq_some_iff] at e2
      obtain ⟨r, e2, rfl⟩ := e2
      exact ⟨p, rfl, r, (hR.2 i p r e1 e2).same s3, ho r (List.mem_of_getElem? e2), fun H4 s4 => h H4 s4⟩
    · have := logT_sum ho
      rw [show (Str.ofString "\n").length = 1 from rfl, List.length_map]
      omega
    · rw [txt_join]
      exact q _ s3
def sp_serials_read (K : PySem.W.Frag) : Sp := fun vs H Q _ => ∃ l ns, vs = [.ref l] ∧ SqL K H l ((ns.map nt).map V.str) ∧ ns.length ≤ 100 ∧ (∀ n ∈ ns, n < 10 ^ 60) ∧ ∀ H' q, Same H H' → H q = none → H' q = some (.lst (nI ns)) → Q (.ref q) H'
theorem ok_serials_read (T : Txt K mg a) : FnOk P w K mg base CX0 4 a.a_serials_read a.d_serials_read ["words"] (sp_serials_read K) := by
  refine T.f_serials_read.ok sc_serials_read (fun vs H Q E h => ?_) (fun cdv A outer s H vs Q E hr h => ?_)
  · obtain ⟨_, _, rfl, _⟩ := h
    rfl
  · obtain ⟨l, ns, rfl, hl, h5, hn, q⟩ := h
    refine ⟨_, (@pss_cons _ _ _ _ _ (ps_if (pt_not (pt_val (pe_callB (call_allL rfl) rfl T.n_all bt_all (@pa_cons _ _ _ _ _ (pe_lc rfl (lcok (x := "word") (ns := []) (fr := []) rfl (by decide +kernel) rfl (by decide +kernel) rfl (List.forall_mem_nil _) rfl rfl (List.forall_mem_nil _) (by decide +kernel)) (pi_list (pv 0)) (fun _ _ _ _ => (pe_call (ok_is_number T) (hr.mono (by decide)) rfl T.m_is_number T.f_is_number.kp T.b_is_number .nil pass0 (@pa_cons _ _ _ _ _ (pv 0) pa_nil (by rfl)))) (fun _ _ _ _ => .nil)) pa_nil (by rfl))))) (@pss_one _ _ _ (@ps_ret _ _ _ _ pe_non)) pss_nil) (@pss_one _ _ _ (@ps_ret _ _ _ _ (pe_lc rfl (lcok (x := "word") (ns := []) (fr := []) rfl (by decide +kernel) rfl (by decide +kernel) rfl (List.forall_mem_nil _) rfl rfl (List.forall_mem_nil _) (by decide +kernel)) (pi_list (pv 0)) (fun _ _ _ _ => (pe_callTy call_intT rfl T.n_int bt_int (@pa_cons _ _ _ _ _ (pv 0) pa_nil (by rfl)))) (fun _ _ _ _ => .nil))))), ?_⟩
    dsimp! []
    refine ⟨⟨_, hl⟩, fun D hD => lc_lstS (ns.map fun _ => V.bl true) hD hl (by simp) (by simp; omega) (fun i x y H3 R e1 e2 s3 h => ?_) fun H3 s3 hD3 => ⟨ns.map fun _ => true, ?_, ?_⟩⟩
    · dsimp! [lcSlots, sp_is_number]
      rw [List.getElem?_map, List.getElem?_map, Option.map_map, Option.map_eq_some_iff] at e1
      obtain ⟨n, e1, rfl⟩ := e1
      rw [List.getElem?_map, e1] at e2
      cases e2
      have hn2 := hn n (List.mem_of_getElem? e1)
      refine ⟨_, rfl, asc_nt n, Nat.le_trans (nt_len hn2) (by decide), fun H4 s4 => ?_⟩
      rw [numB_nt hn2]
      exact h H4 s4
    · refine .of ?_
      rw [hD3, List.map_map]
      rfl
    · rw [if_neg (by simp)]
      have hl3 := s3.seq hl
      refine ⟨⟨_, hl3⟩, fun D2 hD2 => lc_lstS (nI ns) hD2 hl3 (by simp [nI]) (by simp; omega) (fun i x y H4 R e1 e2 s4 h => ?_) fun H4 s4 hD4 => q _ _ (s3.trans s4) (s3.free hD2) hD4⟩
      dsimp! [lcSlots]
      rw [List.getElem?_map, List.getElem?_map, Option.map_map, Option.map_eq_some_iff] at e1
      obtain ⟨n, e1, rfl⟩ := e1
      unfold nI at e2
      rw [List.getElem?_map, e1] at e2
      cases e2
      have hn2 := hn n (List.mem_of_getElem? e1)
      refine ⟨_, rfl, _, numB_int (numB_nt hn2), Nat.le_trans (nt_len hn2) (by decide), ?_⟩
      rw [numV_nt]
      exact h H4 (.refl H4)
def sp_deed_row_read : Sp := fun vs H Q _ => ∃ w0 xs an, vs = [.str (Row.deed w0 xs an).tx] ∧ (Row.deed w0 xs an).ok ∧ ∀ H' p, Same H H' → RowAt H H' p (.deed w0 xs an) → Q (.ref p) H'
theorem ok_deed_row_read (T : Txt K mg a) : FnOk P w K mg base CX0 6 a.a_deed_row_read a.d_deed_row_read ["row"] sp_deed_row_read := by
  refine T.f_deed_row_read.ok sc_deed_row_read (fun vs H Q E h => ?_) (fun cdv A outer s H vs Q E hr h => ?_)
  · obtain ⟨_, _, _, rfl, _⟩ := h
    rfl
  · obtain ⟨w0, xs, an, rfl, ho, q⟩ := h
    refine ⟨_, (@pss_cons _ _ _ _ _ (ps_set (i := 1) sc_deed_row_read.nd rfl (Or.inl rfl) (@pe_bm _ _ _ _ _ _ _ _ _ _ _ _ PySem.F.plainAttrs_str PySem.F.slot_str_partition PySem.F.type_str_partition mt_partition (pv 0) (@pa_cons _ _ _ _ _ (pe_glob (v := .str " -> ") rfl T.c_ARROW ⟨_, rfl⟩) pa_nil (by rfl)) (by rfl) (by rfl) (by rfl) (by rfl) (by rfl))) (@pss_cons _ _ _ _ _ (ps_if (PW.pt (pw_and (pt_cmpR op_notIn_seq (pe_ix ix_tup (pv 1) pe_int (fun _ _ => rfl)) (pe_glob (v := .ref a.t_ANSWERS) rfl T.c_ANSWERS rfl) (by with_unfolding_all rfl)) (pw_and1 (pt_not (pt_val (pe_call (ok_is_number T) (hr.mono (by decide)) rfl T.m_is_number T.f_is_number.kp T.b_is_number .nil pass0 (@pa_cons _ _ _ _ _ (pe_ix ix_tup (pv 1) pe_int (fun _ _ => rfl)) pa_nil (by rfl)))))))) (@pss_one _ _ _ (@ps_ret _ _ _ _ pe_non)) pss_nil) (@pss_cons _ _ _ _ _ (ps_tryC (fun _ _ h => h) (@pss_one _ _ _ (ps_set (i := 2) sc_deed_row_read.nd rfl (Or.inl rfl) (pe_call (ok_deed_read T) (hr.mono (by decide)) rfl T.m_deed_read T.f_deed_read.kp T.b_deed_read .nil pass0 (@pa_cons _ _ _ _ _ (pe_ix ix_tup (pv 1) pe_int (fun _ _ => rfl)) pa_nil (by rfl)))))) (@pss_one _ _ _ (@ps_ret _ _ _ _ (pe_tup (@pa_cons _ _ _ _ _ pe_str (@pa_cons _ _ _ _ _ (pv 2) (@pa_cons _ _ _ _ _ (pe_ix ix_tup (pv 1) pe_int (fun _ _ => rfl)) pa_nil (by rfl)) (by rfl)) (by rfl)))))))), ?_⟩
    dsimp! [sp_is_number, sp_deed_read]
    have hl := ho.len.1
    obtain ⟨⟨ss, hD⟩, ha⟩ := ho
    refine ⟨rfl, rfl, by rw [sizeLine_eq]; omega, _, arrow_at hD.row_free.2 ha.free.1, fun l hl0 => ?_⟩
    rw [show Builtin.Str.strSub (Row.deed w0 xs an).tx 0 (rowT w0 xs).length = rowT w0 xs from arrow_left, show Builtin.Str.strSub (Row.deed w0 xs an).tx ((rowT w0 xs).length + (Str.ofString " -> ").length) (Row.deed w0 xs an).tx.length = an from arrow_right]
    have h1 : upd H l (HO.tup [V.str (rowT w0 xs), V.str (Str.ofString " -> "), V.str an]) l = some (.tup [V.str (rowT w0 xs), V.str (Str.ofString " -> "), V.str an]) := upd_same
    have s1 : Same H (upd H l (HO.tup [V.str (rowT w0 xs), V.str (Str.ofString " -> "), V.str an])) := .put hl0
    generalize upd H l (HO.tup [V.str (rowT w0 xs), V.str (Str.ofString " -> "), V.str an]) = H1 at h1 s1
    have fin : ∀ H2, Same H1 H2 → ∀ (H' : Hp) (l_1 : Addr), Same H2 H' → H' l_1 = some (HO.tup (V.str w0 :: List.zipWith partV (xs.map shv) ss)) → rIxT K (V.ref l) (V.int 2) H' fun x H1 => 3 ≤ sizeLine ∧ ∀ (p : Addr), H1 p = none → Q (V.ref p) (upd H1 p (HO.tup [V.str (Str.ofString "deed"), V.ref l_1, x])) := fun H2 s2 H3 l3 s3 h3 => by
      rw [hD.back] at h3
      refine ⟨l, _, 2, .str an, rfl, rfl, .of (s3 l _ (s2 l _ h1)), atI_nat (j := 2) rfl, by rw [sizeLine_eq]; decide, fun p hp => q _ p (((s1.trans s2).trans s3).trans (.put hp)) ⟨l3, upd_same, Same.put hp _ _ h3⟩⟩
    refine ⟨l, _, 2, .str an, rfl, rfl, .of h1, atI_nat (j := 2) rfl, a.t_ANSWERS, _, rfl, .inr (T.q_ANSWERS _), rfl, rfl, _, rfl, ?_⟩
    by_cases c : an ∈ answers
    · rw [if_neg (by have := (by decide +kernel : ∀ an ∈ answers, ¬ (if true = true then !inV (V.str an) [V.str "ok", V.str "yes", V.str "no", V.str "none", V.str "thing", V.str "nothing", V.str "no thing", V.str "no field", V.str "no room"] else inV (V.str an) [V.str "ok", V.str "yes", V.str "no", V.str "none", V.str "thing", V.str "nothing", V.str "no thing", V.str "no field", V.str "no room"]) = true) an c; exact this)]
      exact ⟨l, _, 0, _, rfl, rfl, .of h1, atI_nat (j := 0) rfl, _, rfl, w0, _, ss, hD.rds, fin H1 (.refl _)⟩
    · obtain ⟨n, hn, rfl⟩ : ∃ n : Nat, n < 10 ^ 60 ∧ an = nt n := ha.elim (fun z => absurd z c) id
      refine ite2 (fun _ => ?_) fun _ => ⟨l, _, 0, _, rfl, rfl, .of h1, atI_nat (j := 0) rfl, _, rfl, w0, _, ss, hD.rds, fin H1 (.refl _)⟩
      refine ⟨l, _, 2, .str _, rfl, rfl, .of h1, atI_nat (j := 2) rfl, _, rfl, asc_nt n, Nat.le_trans (nt_len hn) (by decide), fun H2 s2 => ?_⟩
      rw [numB_nt hn, if_neg (by decide)]
      exact ⟨l, _, 0, _, rfl, rfl, .of (s2 l _ h1), atI_nat (j := 0) rfl, _, rfl, w0, _, ss, hD.rds, fin H2 s2⟩
def pstep (st : List (List Str)) (w : Str) : List (List Str) := if w = "|" then st ++ [[]] else st.dropLast ++ [st.getLastD [] ++ [w]]
theorem nt_bar (n : Nat) : nt n ≠ "|" := fun e => by
  have h : 124 ∈ (nt n).cps.toList := by rw [e]; decide +kernel
  rw [nt_list] at h
  have := dg_all n 124 h
  omega
theorem pstep_nums (st : List (List Str)) : ∀ (ns : List Nat) (acc : List Str), (ns.map nt).foldl pstep (st ++ [acc]) = st ++ [acc ++ ns.map nt]
  | [], acc => by simp
  | n :: r, acc => by
    rw [List.map_cons, List.foldl_cons]
    have e : pstep (st ++ [acc]) (nt n) = st ++ [acc ++ [nt n]] := by
      unfold pstep
      rw [if_neg (nt_bar n), List.dropLast_concat, List.getLastD_concat]
    rw [e, pstep_nums st r (acc ++ [nt n]), List.append_assoc]
    rfl
theorem pstep_all : ∀ (ls : List (List Nat)) (st : List (List Str)), (numsW "turn" ls).foldl pstep st = st ++ ls.map fun ns => ns.map nt
  | [], st => by simp [numsW]
  | ns :: r, st => by
    have e : numsW "turn" (ns :: r) = (Str.ofString "|") :: (ns.map nt ++ numsW "turn" r) := rfl
    rw [e, List.foldl_cons, List.foldl_append]
    have e2 : pstep st (Str.ofString "|") = st ++ [[]] := by
      unfold pstep
      rw [if_pos rfl]
    rw [e2, pstep_nums, pstep_all r, List.append_assoc]
    rfl
theorem pstep_len {st : List (List Str)} {w : Str} {k : Nat} (h : st.length ≤ k) (h2 : ∀ t ∈ st, t.length ≤ k) (h3 : w = "|" ∨ st ≠ []) : (pstep st w).length ≤ k + 1 ∧ ∀ t ∈ pstep st w, t.length ≤ k + 1 := by
  unfold pstep
  split
  · refine ⟨by rw [List.length_append]; simp; omega, fun t ht => ?_⟩
    rcases List.mem_append.mp ht with ht | ht
    · exact Nat.le_succ_of_le (h2 t ht)
    · rw [List.mem_singleton.mp ht]
      exact Nat.zero_le _
  · next c =>
    obtain ⟨s0, t0, rfl⟩ : ∃ s0 t0, st = s0 ++ [t0] := ⟨st.dropLast, st.getLast (h3.resolve_left c), (List.dropLast_concat_getLast _).symm⟩
    rw [List.dropLast_concat, List.getLastD_concat]
    rw [List.length_append] at h ⊢
    refine ⟨by simp at h ⊢; omega, fun t ht => ?_⟩
    rcases List.mem_append.mp ht with ht | ht
    · exact Nat.le_succ_of_le (h2 t (List.mem_append_left _ ht))
    · rw [List.mem_singleton.mp ht, List.length_append]
      have := h2 t0 (List.mem_append_right _ (List.mem_singleton_self _))
      simp
      omega
structure PartAt (H : Hp) (p : Addr) (H' : Hp) (qs : List Addr) (st : List (List Str)) : Prop where
  at_ : H' p = some (.lst (qs.map V.ref))
  len : qs.length = st.length
  nd : qs.Nodup
  free : ∀ q ∈ qs, q ≠ p ∧ H q = none
  pf : H p = none
  is : ∀ (j : Nat) q t, qs[j]? = some q → st[j]? = some t → H' q = some (.lst (t.map V.str))
  same : Same H H'
theorem PartAt.new {H H' : Hp} {p : Addr} {qs : List Addr} {st : List (List Str)} (h : PartAt H p H' qs st) {q : Addr} (hq : H' q = none) : PartAt H p (upd (upd H' q (.lst [])) p (.lst (qs.map V.ref ++ [.ref q]))) (qs ++ [q]) (st ++ [[]]) := by
  have npq : p ≠ q := ne_of_none h.at_ hq
  refine ⟨by rw [upd_same, List.map_append]; rfl, by rw [List.length_append, List.length_append, h.len]; rfl, ?_, fun x hx => ?_, h.pf, fun j x t e1 e2 => ?_, ?_⟩
  · rw [List.nodup_append]
    refine ⟨h.nd, by simp, fun x hx y hy e => ?_⟩
    rw [List.mem_singleton.mp hy] at e
    obtain ⟨j, hj, ej⟩ := List.mem_iff_getElem.mp hx
    have hl := h.len
    have := h.is j x _ (by rw [List.getElem?_eq_getElem hj, ej]) (List.getElem?_eq_getElem (by omega))
    rw [e, hq] at this
    cases this
  · rcases List.mem_append.mp hx with hx | hx
    · exact h.free x hx
    · rw [List.mem_singleton.mp hx]
      exact ⟨npq.symm, h.same.free hq⟩
  · have hl := h.len
    by_cases c : j < qs.length
    · rw [List.getElem?_append_left c] at e1
      rw [List.getElem?_append_left (by omega)] at e2
      have h1 := h.is j x t e1 e2
      rw [upd_ne (h.free x (List.mem_of_getElem? e1)).1, upd_ne (ne_of_none h1 hq)]
      exact h1
    · rw [List.getElem?_append_right (by omega)] at e1 e2
      have hj := (List.getElem?_eq_some_iff.mp e1).1
      have e0 : j - qs.length = 0 := by simp at hj; omega
      rw [e0] at e1
      rw [show j - st.length = 0 by omega] at e2
      cases e1
      cases e2
      rw [upd_ne npq.symm, upd_same]
      rfl
  · exact Same.putD (h.same.trans (.put hq)) h.pf
theorem PartAt.more {H H' : Hp} {p : Addr} {qs : List Addr} {st : List (List Str)} {t0 : List Str} (h : PartAt H p H' qs (st ++ [t0])) (w : Str) : ∃ q, atI (qs.map V.ref) (-1) = some (.ref q) ∧ H' q = some (.lst (t0.map V.str)) ∧ PartAt H p (upd H' q (.lst (t0.map V.str ++ [.str w]))) qs (st ++ [t0 ++ [w]]) := by
  have hl := h.len
  rw [List.length_append, List.length_singleton] at hl
  have hq : qs[st.length]? = some (qs[st.length]'(by omega)) := List.getElem?_eq_getElem (by omega)
  generalize qs[st.length]'(by omega) = q at hq
  have ht : (st ++ [t0])[st.length]? = some t0 := by rw [List.getElem?_append_right (Nat.le_refl _), Nat.sub_self]; rfl
  have h1 := h.is _ q t0 hq ht
  have hf := h.free q (List.mem_of_getElem? hq)
  refine ⟨q, ?_, h1, ⟨by rw [upd_ne hf.1.symm]; exact h.at_, by rw [List.length_append, hl]; rfl, h.nd, h.free, h.pf, fun j x t e1 e2 => ?_, Same.putD h.same hf.2⟩⟩
  · have e : qs = qs.take st.length ++ [q] := by
      have e1 := (List.take_append_drop st.length qs).symm
      rw [List.drop_eq_getElem_cons (by omega), List.drop_of_length_le (by omega)] at e1
      have e2 : qs[st.length]'(by omega) = q := by
        have := List.getElem?_eq_getElem (l := qs) (i := st.length) (by omega)
        rw [hq] at this
        exact (Option.some.inj this).symm
      rw [e2] at e1
      exact e1
    rw [e, List.map_append]
    exact atI_last _ _
  · by_cases c : j = st.length
    · subst c
      rw [hq] at e1
      cases e1
      rw [List.getElem?_append_right (Nat.le_refl _), Nat.sub_self] at e2
      cases e2
      rw [upd_same, List.map_append]
      rfl
    · have hj : j < qs.length := (List.getElem?_eq_some_iff.mp e1).1
      have c2 : j < st.length := by omega
      rw [List.getElem?_append_left c2] at e2
      have h2 := h.is j x t e1 (by rw [List.getElem?_append_left c2]; exact e2)
      have nx : x ≠ q := fun e => by
        rw [e] at e1
        exact c ((List.getElem?_inj hj h.nd).mp (e1.trans hq.symm))
      rw [upd_ne nx]
      exact h2
def sp_parted (K : PySem.W.Frag) : Sp := fun vs H Q _ => ∃ l ls, vs = [.ref l] ∧ SqL K H l ((numsW "turn" ls).map V.str) ∧ ls.length = 7 ∧ (∀ ns ∈ ls, ns.length ≤ 5 ∧ ∀ n ∈ ns, n < 10 ^ 60) ∧
  ∀ H' m (qs : List Addr), Same H H' → H' m = some (.lst (qs.map V.ref)) → qs.length = 7 → (∀ (i : Nat) p ns, qs[i]? = some p → ls[i]? = some ns → H' p = some (.lst ((ns.map nt).map V.str))) → Q (.ref m) H'
theorem ok_parted (T : Txt K mg a) : FnOk P w K mg base CX0 1 a.a_parted a.d_parted ["words"] (sp_parted K) := by
  refine T.f_parted.ok sc_parted (fun vs H Q E h => ?_) (fun cdv A outer s H vs Q E hr h => ?_)
  · obtain ⟨_, _, rfl, _⟩ := h
    rfl
  · obtain ⟨l, ls, rfl, hl, h7, hn, q⟩ := h
    refine ⟨_, (@pss_cons _ _ _ _ _ (ps_if (PW.pt (pw_or (pt_cmpR op_eq (pe_callB call_len_seq rfl T.n_len bt_len (@pa_cons _ _ _ _ _ (pv 0) pa_nil (by rfl))) pe_int (nomark _)) (pw_or1 (pt_cmpR op_ne (pe_ix ix_list (pv 0) pe_int (fun _ _ => rfl)) pe_str (nomark _))))) (@pss_one _ _ _ (@ps_ret _ _ _ _ (pe_lst pa_nil))) pss_nil) (@pss_cons _ _ _ _ _ (ps_set (i := 1) sc_parted.nd rfl (Or.inl rfl) (pe_lst pa_nil)) (@pss_cons _ _ _ _ _ (ps_forW PassesOwn.never rfl (pi_list (pv 0)) (pg_name (i := 2) sc_parted.nd rfl (Or.inl rfl)) pss_bodyT) pss_bodyT))), ?_⟩
    dsimp! []
    obtain ⟨r0, ew⟩ : ∃ r0, numsW "turn" ls = (Str.ofString "|") :: r0 := by
      match ls, h7 with
      | ns :: r, _ => exact ⟨_, rfl⟩
    have wl := numsW_len (w := "turn") hn
    have fin := pstep_all ls []
    generalize numsW "turn" ls = W at hl ew wl fin
    subst ew
    refine ⟨_, .inl hl, ?_⟩
    rw [if_neg (by simp; omega)]
    refine ⟨l, _, 0, .str "|", rfl, rfl, hl, atI_nat (j := 0) rfl, rfl, ?_⟩
    rw [if_neg (by decide +kernel)]
    refine fun p hp => ⟨⟨_, (Same.put hp).seq hl⟩, ?_⟩
    refine fw_list ((Str.ofString "|" :: r0).map V.str) (fun i σ' H' => ∃ st qs o, σ' = [some (.ref l), some (.ref p), o] ∧ st = ((Str.ofString "|" :: r0).take i).foldl pstep [] ∧ (i = 0 ∨ st ≠ []) ∧ PartAt H p H' qs st ∧ st.length ≤ i ∧ ∀ t ∈ st, t.length ≤ i)
      ⟨[], [], none, rfl, rfl, .inl rfl, ⟨upd_same, rfl, List.nodup_nil, (fun _ h => nomatch h), hp, (fun _ _ _ h => nomatch h), .put hp⟩, Nat.le_refl _, (fun _ h => nomatch h)⟩ ?_ ?_ ?_
    · rintro i σ' H' _ ⟨st, qs, o, rfl, _, _, PA, _⟩
      exact PA.same.seq hl
    · rintro i x σ' H' hi ⟨st, qs, o, rfl, hst, hi0, PA, hs1, hs2⟩
      have hil := (List.getElem?_eq_some_iff.mp hi).1
      rw [List.getElem?_map, Option.map_eq_some_iff] at hi
      obtain ⟨wd, hi, rfl⟩ := hi
      have e1 : ((Str.ofString "|" :: r0).take (i + 1)).foldl pstep [] = pstep st wd := by
        rw [List.take_add_one, hi, List.foldl_append, ← hst]
        rfl
      have h3 : wd = "|" ∨ st ≠ [] := by
        rcases hi0 with rfl | h
        · cases hi
          exact .inl rfl
        · exact .inr h
      have pl := pstep_len (w := wd) hs1 hs2 h3
      have hq := PA.len
      have hi43 : i < 43 := by simp at hil wl; omega
      refine bodyT.of (@pss_one _ _ _ (ps_if (pt_cmpR op_eq (pv 2) pe_str (nomark _)) (@pss_one _ _ _ (ps_expr (@pe_bm _ _ _ _ _ _ _ _ _ _ _ _ PySem.F.plainAttrs_list PySem.F.slot_list_append PySem.F.type_list_append mt_append (pv 1) (@pa_cons _ _ _ _ _ (pe_lst pa_nil) pa_nil (by rfl)) (by rfl) (by rfl) (by rfl) (by rfl) (by rfl)))) (@pss_one _ _ _ (ps_expr (@pe_bm _ _ _ _ _ _ _ _ _ _ _ _ PySem.F.plainAttrs_list PySem.F.slot_list_append PySem.F.type_list_append mt_append (pe_ix ix_list (pv 1) (pe_un un_neg pe_int) (fun _ _ => rfl)) (@pa_cons _ _ _ _ _ (pv 2) pa_nil (by rfl)) (by rfl) (by rfl) (by rfl) (by rfl) (by rfl)))))) ?_
      dsimp! []
      rw [e1]
      by_cases c : wd = "|"
      · rw [if_pos (decide_eq_true c)]
        have e2 : pstep st wd = st ++ [[]] := by
          unfold pstep
          rw [if_pos c]
        rw [e2] at pl ⊢
        refine ⟨.inl ⟨rfl, _, .of PA.at_⟩, fun q1 hq1 => ⟨p, _, _, rfl, rfl, Same.put hq1 _ _ PA.at_, small1000 (by rw [List.length_map]; omega), by simp, _, PA.new hq1, pl.1, pl.2⟩⟩
      · rw [if_neg (by rw [decide_eq_false c]; decide)]
        have ne := h3.resolve_left c
        obtain ⟨s0, t0, est⟩ : ∃ s0 t0, st = s0 ++ [t0] := ⟨st.dropLast, st.getLast ne, (List.dropLast_concat_getLast _).symm⟩
        have e2 : pstep st wd = s0 ++ [t0 ++ [wd]] := by
          unfold pstep
          rw [if_neg c, est, List.dropLast_concat, List.getLastD_concat]
        rw [e2] at pl ⊢
        have ht0 := hs2 t0 (by rw [est]; exact List.mem_append_right _ (List.mem_singleton_self _))
        rw [est] at PA
        obtain ⟨q1, hx, h1, PA2⟩ := PA.more wd
        exact ⟨p, _, _, _, rfl, rfl, .of PA.at_, hx, .inl ⟨rfl, _, .of h1⟩, q1, _, _, rfl, rfl, h1, small1000 (by rw [List.length_map]; omega), by simp, _, PA2, pl.1, pl.2⟩
    · rintro σ' H' ⟨st, qs, o, rfl, hst, hi0, PA, hs1, hs2⟩
      rw [List.length_map, List.take_length, fin, List.nil_append] at hst
      refine bodyT.of (@pss_one _ _ _ (@ps_ret _ _ _ _ (pv 1))) ?_
      dsimp! []
      have hq := PA.len
      refine q _ p qs PA.same PA.at_ (by rw [hq, hst, List.length_map, h7]) fun i p2 ns e1 e2 => PA.is i p2 _ e1 ?_
      rw [hst, List.getElem?_map, e2]
      rfl
def sp_freed_read (K : PySem.W.Frag) : Sp := fun vs H Q _ => ∃ l ns, vs = [.ref l] ∧ SqL K H l ((ns.map nt).map V.str) ∧ ns.length ≤ 5 ∧ (∀ n ∈ ns, n < 10 ^ 60) ∧ ∀ H' p, Same H H' → RowAt H H' p (.nums "freed" [ns]) → Q (.ref p) H'
theorem ok_freed_read (T : Txt K mg a) : FnOk P w K mg base CX0 5 a.a_freed_read a.d_freed_read ["words"] (sp_freed_read K) := by
  refine T.f_freed_read.ok sc_freed_read (fun vs H Q E h => ?_) (fun cdv A outer s H vs Q E hr h => ?_)
  · obtain ⟨_, _, rfl, _⟩ := h
    rfl
  · obtain ⟨l, ns, rfl, hl, h5, hn, q⟩ := h
    refine ⟨_, (@pss_cons _ _ _ _ _ (ps_set (i := 1) sc_freed_read.nd rfl (Or.inl rfl) (pe_call (ok_serials_read T) (hr.mono (by decide)) rfl T.m_serials_read T.f_serials_read.kp T.b_serials_read .nil pass0 (@pa_cons _ _ _ _ _ (pv 0) pa_nil (by rfl)))) (@pss_one _ _ _ (@ps_ret _ _ _ _ (pe_ifExp (pt_cmpR op_isN (pv 1) pe_non (nomark _)) pe_non (pe_tup (@pa_cons _ _ _ _ _ pe_str (@pa_cons _ _ _ _ _ (pv 1) pa_nil (by rfl)) (by rfl))))))), ?_⟩
    dsimp! [sp_serials_read]
    refine ⟨ns, hl, by omega, hn, fun H1 q1 s1 hq1 h1 => ⟨by rw [sizeLine_eq]; decide, fun p hp => q _ p (s1.trans (.put hp)) ⟨[q1], upd_same, rfl, fun i q2 ns2 e1 e2 => ?_⟩⟩⟩
    rcases i with _ | i
    · cases e1
      cases e2
      exact ⟨Same.put hp _ _ h1, hq1⟩
    · cases e1
theorem refs_of : ∀ ys : List V, (∀ (j : Nat) y, ys[j]? = some y → ∃ q, y = .ref q) → ∃ qs : List Addr, ys = qs.map V.ref ∧ True
  | [], _ => ⟨[], rfl, trivial⟩
  | y :: r, h => by
    obtain ⟨q, rfl⟩ := h 0 y rfl
    obtain ⟨qs, e, _⟩ := refs_of r fun j z e => h (j + 1) z e
    exact ⟨q :: qs, by rw [e]; rfl, trivial⟩
theorem inV_strs (z : Str) : ∀ ws : List Str, inV (V.str z) (ws.map V.str) = decide (z ∈ ws)
  | [] => rfl
  | x :: r => by
    have ih := inV_strs z r
    unfold inV at ih ⊢
    rw [List.map_cons, List.any_cons, ih]
    by_cases c : z = x
    · subst c
      simp [eqV]
    · simp [eqV, c, Ne.symm c]
def sp_turn_read (K : PySem.W.Frag) : Sp := fun vs H Q _ => ∃ l ls, vs = [.ref l] ∧ SqL K H l ((numsW "turn" ls).map V.str) ∧ ls.length = 7 ∧ (∀ ns ∈ ls, ns.length ≤ 5 ∧ ∀ n ∈ ns, n < 10 ^ 60) ∧ ∀ H' p, Same H H' → RowAt H H' p (.nums "turn" ls) → Q (.ref p) H'
theorem ok_turn_read (T : Txt K mg a) : FnOk P w K mg base CX0 6 a.a_turn_read a.d_turn_read ["words"] (sp_turn_read K) := by
  refine T.f_turn_read.ok sc_turn_read (fun vs H Q E h => ?_) (fun cdv A outer s H vs Q E hr h => ?_)
  · obtain ⟨_, _, rfl, _⟩ := h
    rfl
  · obtain ⟨l, ls, rfl, hl, h7, hn, q⟩ := h
    refine ⟨_, (@pss_cons _ _ _ _ _ (ps_lc (j := 1) rfl sc_turn_read.nd rfl rfl (lcok (x := "some") (ns := []) (fr := []) rfl (by decide +kernel) rfl (by decide +kernel) rfl (List.forall_mem_nil _) rfl rfl (List.forall_mem_nil _) (by decide +kernel)) (pi_list (pe_call (ok_parted T) (hr.mono (by decide)) rfl T.m_parted T.f_parted.kp T.b_parted .nil pass0 (@pa_cons _ _ _ _ _ (pv 0) pa_nil (by rfl)))) (fun _ _ _ _ => (pe_call (ok_serials_read T) (hr.mono (by decide)) rfl T.m_serials_read T.f_serials_read.kp T.b_serials_read .nil pass0 (@pa_cons _ _ _ _ _ (pv 0) pa_nil (by rfl)))) (fun _ _ _ _ => .nil)) (@pss_cons _ _ _ _ _ (ps_if (PW.pt (pw_or (pt_cmpR op_ne (pe_callB call_len_seq rfl T.n_len bt_len (@pa_cons _ _ _ _ _ (pv 1) pa_nil (by rfl))) (pe_glob (v := .int 7) rfl T.c_LISTS_OF_A_TURN ⟨_, rfl⟩) (nomark _)) (pw_or1 (pt_val (pe_callB (call_anyL rfl) rfl T.n_any bt_any (@pa_cons _ _ _ _ _ (pe_lc rfl (lcok (x := "serials") (ns := []) (fr := []) rfl (by decide +kernel) rfl (by decide +kernel) rfl (List.forall_mem_nil _) rfl rfl (List.forall_mem_nil _) (by decide +kernel)) (pi_list (pv 1)) (fun _ _ _ _ => (pe_cmpR op_isN (pv 0) pe_non (nomark _))) (fun _ _ _ _ => .nil)) pa_nil (by rfl))))))) (@pss_one _ _ _ (@ps_ret _ _ _ _ pe_non)) pss_nil) (@pss_one _ _ _ (@ps_ret _ _ _ _ (pe_callTy call_tuple_of rfl T.n_tuple bt_tuple (@pa_cons _ _ _ _ _ (@pe_op _ _ _ _ _ _ _ _ op_catS (pe_lst (@pa_cons _ _ _ _ _ pe_str pa_nil (by rfl))) (pv 1)) pa_nil (by rfl))))))), ?_⟩
    dsimp! [sp_parted]
    refine ⟨ls, hl, h7, hn, fun H1 m qs s1 hm hq7 hqs => ⟨⟨_, .of hm⟩, fun D hD => lc_lstR (fun i y H2 => ∃ q1 ns, y = .ref q1 ∧ ls[i]? = some ns ∧ H2 q1 = some (.lst (nI ns)) ∧ H q1 = none) (fun i y H2 H3 h s => ?_) hD (.of hm) (by rw [List.length_map]; omega) (fun i x H2 zs R ex s2 hD2 h => ?_) fun H2 ys s2 hD2 hyl hr => ?_⟩⟩
    · obtain ⟨q1, ns, e1, e2, e3, e4⟩ := h
      exact ⟨q1, ns, e1, e2, s _ _ e3, e4⟩
    · dsimp! [lcSlots, sp_serials_read]
      rw [List.getElem?_map, Option.map_eq_some_iff] at ex
      obtain ⟨p1, ex, rfl⟩ := ex
      have hi := (List.getElem?_eq_some_iff.mp ex).1
      have en : ls[i]? = some (ls[i]'(by omega)) := List.getElem?_eq_getElem (by omega)
      generalize ls[i]'(by omega) = ns at en
      have hn2 := hn ns (List.mem_of_getElem? en)
      exact ⟨p1, rfl, ns, .of (s2 _ _ (hqs i p1 ns ex en)), by omega, hn2.2, fun H3 q1 s3 hq1 h3 => h (.ref q1) H3 s3 ⟨q1, ns, rfl, en, by rw [hid_ne (ne_of_none hD2 hq1).symm]; exact h3, (s1.trans s2).free hq1⟩⟩
    · rw [List.length_map] at hyl
      obtain ⟨qs2, rfl, hq2⟩ := refs_of ys fun j y e => (hr j y e).imp fun q1 h => h.elim fun ns h => h.1
      rw [List.length_map] at hyl
      refine ⟨_, .inl (.of hD2), ?_⟩
      rw [if_neg (by rw [List.length_map, hyl, hq7]; decide)]
      refine ⟨⟨_, .of hD2⟩, fun D2 hD3 => lc_lstS (qs2.map fun _ => V.bl false) hD3 (.of hD2) (by simp) (by simp; omega) (fun i x y H4 R e1 e2 s4 h => ?_) fun H4 s4 hD4 => ⟨qs2.map fun _ => false, ?_, ?_⟩⟩
      · dsimp! [lcSlots]
        rw [List.getElem?_map, Option.map_eq_some_iff] at e1
        obtain ⟨q1, e1, rfl⟩ := e1
        rw [List.getElem?_map, e1] at e2
        cases e2
        exact h H4 (.refl H4)
      · refine .of ?_
        rw [hD4, List.map_map]
        rfl
      · rw [if_neg (by simp)]
        refine ⟨by rw [sizeLine_eq]; decide, fun p2 hp2 => ?_⟩
        have s5 := Same.put (o := .lst [V.str (Str.ofString "turn")]) hp2
        refine ⟨p2, D, _, _, rfl, rfl, .of upd_same, .of (s5 _ _ (s4 _ _ hD2)), Nat.le_of_lt (small1000 (by simp; omega)), fun p3 hp3 => ⟨p3, rfl, _, .inl ⟨.of upd_same, fun p4 hp4 => ?_⟩⟩⟩
        have s6 := (s5.trans (.put hp3)).trans (Same.put (o := .tup ([V.str (Str.ofString "turn")] ++ List.map V.ref qs2)) hp4)
        refine q _ p4 (((s1.trans s2).trans s4).trans s6) ⟨qs2, upd_same, by omega, fun i q1 ns e1 e2 => ?_⟩
        obtain ⟨q3, ns3, e3, e4, e5, e6⟩ := hr i (.ref q1) (by rw [List.getElem?_map, e1]; rfl)
        cases e3
        rw [e2] at e4
        cases e4
        exact ⟨s6 _ _ (s4 _ _ e5), e6⟩
def sp_row_read : Sp := fun vs H Q _ => ∃ r : Row, vs = [.str r.tx] ∧ r.ok ∧ ∀ H' p, Same H H' → RowAt H H' p r → Q (.ref p) H'
theorem ok_row_read (T : Txt K mg a) : FnOk P w K mg base CX0 7 a.a_row_read a.d_row_read ["row"] sp_row_read := by
  refine T.f_row_read.ok sc_row_read (fun vs H Q E h => ?_) (fun cdv A outer s H vs Q E hr h => ?_)
  · obtain ⟨_, rfl, _⟩ := h
    rfl
  · obtain ⟨r, rfl, ho, q⟩ := h
    refine ⟨_, (@pss_cons _ _ _ _ _ (ps_if (pt_cmpR op_in_seq (pv 0) (pe_glob (v := .ref a.t_BARE) rfl T.c_BARE rfl) (by with_unfolding_all rfl)) (@pss_one _ _ _ (@ps_ret _ _ _ _ (pe_tup (@pa_cons _ _ _ _ _ (pv 0) pa_nil (by rfl))))) pss_nil) (@pss_cons _ _ _ _ _ (ps_set (i := 1) sc_row_read.nd rfl (Or.inl rfl) (@pe_bm _ _ _ _ _ _ _ _ _ _ _ _ PySem.F.plainAttrs_str PySem.F.slot_str_split PySem.F.type_str_split mt_split (pv 0) (@pa_cons _ _ _ _ _ pe_str pa_nil (by rfl)) (by rfl) (by rfl) (by rfl) (by rfl) (by rfl))) (@pss_cons _ _ _ _ _ (ps_if (pt_cmpR op_eq (pe_ix ix_list (pv 1) pe_int (fun _ _ => rfl)) pe_str (nomark _)) (@pss_one _ _ _ (@ps_ret _ _ _ _ (pe_call (ok_freed_read T) (hr.mono (by decide)) rfl T.m_freed_read T.f_freed_read.kp T.b_freed_read .nil pass0 (@pa_cons _ _ _ _ _ (pe_slice sl_list (pv 1) (po_some pe_int) po_none) pa_nil (by rfl))))) pss_nil) (@pss_cons _ _ _ _ _ (ps_if (pt_cmpR op_eq (pe_ix ix_list (pv 1) pe_int (fun _ _ => rfl)) pe_str (nomark _)) (@pss_one _ _ _ (@ps_ret _ _ _ _ (pe_call (ok_turn_read T) (hr.mono (by decide)) rfl T.m_turn_read T.f_turn_read.kp T.b_turn_read .nil pass0 (@pa_cons _ _ _ _ _ (pe_slice sl_list (pv 1) (po_some pe_int) po_none) pa_nil (by rfl))))) pss_nil) (@pss_one _ _ _ (@ps_ret _ _ _ _ (pe_call (ok_deed_row_read T) (hr.mono (by decide)) rfl T.m_deed_row_read T.f_deed_row_read.kp T.b_deed_row_read .nil pass0 (@pa_cons _ _ _ _ _ (pv 0) pa_nil (by rfl))))))))), ?_⟩
    dsimp! [sp_freed_read, sp_turn_read, sp_deed_row_read]
    have hl := ho.len.1
    have hb := Row.bare ho
    refine ⟨a.t_BARE, _, rfl, .inr (T.q_BARE _), rfl, rfl, _, rfl, ?_⟩
    have eb : inV (V.str r.tx) [V.str "begin", V.str "end", V.str "packed"] = decide (r.tx ∈ bares) := inV_strs r.tx bares
    by_cases c : r.tx ∈ bares
    · rw [if_pos (by rw [if_neg (by decide), eb]; exact decide_eq_true c)]
      obtain ⟨w1, hw1, rfl⟩ := hb.mp c
      refine ⟨by rw [sizeLine_eq]; decide, fun p hp => q _ p (.put hp) ⟨[], ?_, rfl, (fun _ _ _ h => nomatch h)⟩⟩
      rw [upd_same]
      show some (HO.tup [V.str ((⟨#[32]⟩ : Str).join (w1 :: numsW w1 []))]) = _
      rw [show numsW w1 [] = [] from rfl, Str.join.eq_2]
      rfl
    rw [if_neg (by rw [if_neg (by decide), eb]; exact fun h => c (of_decide_eq_true h))]
    refine ⟨rfl, by decide, by rw [sizeLine_eq]; omega, fun l hl0 => ?_⟩
    match r, ho, q, c, hl with
    | .deed w0 xs an, ho, q, c, hl =>
      obtain ⟨y, r0, e⟩ := deed_words ho
      rw [e]
      obtain ⟨⟨ss, hD⟩, ha⟩ := ho
      have hw := (by decide +kernel : ∀ p ∈ partsD, p.1 ≠ "freed" ∧ p.1 ≠ "turn") _ (parts_mem hD.at_)
      refine ⟨l, _, 0, .str w0, rfl, rfl, .of upd_same, atI_nat (j := 0) rfl, rfl, ?_⟩
      rw [if_neg (by rw [decide_eq_false (fun e => hw.1 (V.str.inj e))]; decide)]
      refine ⟨l, _, 0, .str w0, rfl, rfl, .of upd_same, atI_nat (j := 0) rfl, rfl, ?_⟩
      rw [if_neg (by rw [decide_eq_false (fun e => hw.2 (V.str.inj e))]; decide)]
      exact ⟨w0, xs, an, rfl, ⟨⟨ss, hD⟩, ha⟩, fun H' p s' h' => q H' p ((Same.put hl0).trans s') (h'.old (.put hl0))⟩
    | .nums w1 ls, ho, q, c, hl =>
      rw [nums_split ho]
      have sn := fun (o : HO) => Same.put (o := o) hl0
      rcases ho.1 with ⟨rfl, h1⟩ | ⟨rfl, h7⟩ | ⟨hw, rfl⟩
      · obtain ⟨ns, rfl⟩ : ∃ ns, ls = [ns] := List.length_eq_one_iff.mp h1
        refine ⟨l, _, 0, .str "freed", rfl, rfl, .of upd_same, atI_nat (j := 0) rfl, rfl, ?_⟩
        rw [if_pos (decide_eq_true rfl)]
        refine ⟨l, _, rfl, .of upd_same, fun p2 hp2 => ⟨p2, rfl, ns, .of ?_, (ho.2 ns (List.mem_cons_self ..)).1, (ho.2 ns (List.mem_cons_self ..)).2, fun H' p s' h' => q H' p (((sn _).trans (.put hp2)).trans s') (h'.old ((sn _).trans (.put hp2)))⟩⟩
        rw [upd_same, List.map_cons, cut_tail]
        unfold numsW
        rw [List.flatMap_cons, List.flatMap_nil, List.append_nil]
        rfl
      · refine ⟨l, _, 0, .str "turn", rfl, rfl, .of upd_same, atI_nat (j := 0) rfl, rfl, ?_⟩
        rw [if_neg (by decide +kernel)]
        refine ⟨l, _, 0, .str "turn", rfl, rfl, .of upd_same, atI_nat (j := 0) rfl, rfl, ?_⟩
        rw [if_pos (decide_eq_true rfl)]
        refine ⟨l, _, rfl, .of upd_same, fun p2 hp2 => ⟨p2, rfl, ls, .of ?_, h7, ho.2, fun H' p s' h' => q H' p (((sn _).trans (.put hp2)).trans s') (h'.old ((sn _).trans (.put hp2)))⟩⟩
        rw [upd_same, List.map_cons, cut_tail]
      · exact absurd ((Row.bare ho).mpr ⟨w1, hw, rfl⟩) c
theorem RowAt.hid {H H2 H3 : Hp} {p q : Addr} {zs : List V} {r : Row} (h : RowAt H2 H3 q r) (hp : H2 p = some (.lst zs)) (s : Same H2 H3) (s2 : Same H H2) : RowAt H (hid p H3) q r := by
  have h3 := s _ _ hp
  match r, h with
  | .deed w0 xs an, ⟨d, h1, h2⟩ =>
    exact ⟨d, by rw [hid_ne (ne_of h1 h3 (by simp))]; exact h1, by rw [hid_ne (ne_of h2 h3 (by simp))]; exact h2⟩
  | .nums w1 ls, ⟨qs, h1, h2, h4⟩ =>
    refine ⟨qs, by rw [hid_ne (ne_of h1 h3 (by simp))]; exact h1, h2, fun i x ns e1 e2 => ?_⟩
    obtain ⟨h5, h6⟩ := h4 i x ns e1 e2
    exact ⟨by rw [hid_ne (ne_of_none hp h6).symm]; exact h5, s2.free h6⟩
theorem join_ge (s x : Str) : ∀ r : List Str, x.length ≤ (s.join (x :: r)).length
  | [] => by
    rw [Str.join.eq_2]
    exact Nat.le_refl _
  | y :: r => by
    rw [Str.join.eq_3 _ _ _ (by simp), strLen_append, strLen_append]
    omega
theorem logT_len {rs : List Row} (h : ∀ r ∈ rs, r.ok) : (logT rs).length ≤ 5001 * rs.length := by
  have h1 := join_len ⟨#[10]⟩ (rs.map Row.tx)
  have h2 := logT_sum h
  rw [show (⟨#[10]⟩ : Str).length = 1 from rfl, List.length_map] at h1
  unfold logT
  omega
def sp_log_read : Sp := fun vs H Q _ => ∃ rs : List Row, vs = [.str (logT rs)] ∧ rs.length ≤ 100 ∧ (∀ r ∈ rs, r.ok) ∧ ∀ H' l (ps : List Addr), Same H H' → H l = none → H' l = some (.lst (ps.map V.ref)) → RowsAt H (hid l H') ps rs → Q (.ref l) H'
theorem ok_log_read (T : Txt K mg a) : FnOk P w K mg base CX0 8 a.a_log_read a.d_log_read ["text"] sp_log_read := by
  refine T.f_log_read.ok sc_log_read (fun vs H Q E h => ?_) (fun cdv A outer s H vs Q E hr h => ?_)
  · obtain ⟨_, rfl, _⟩ := h
    rfl
  · obtain ⟨rs, rfl, hz, ho, q⟩ := h
    refine ⟨_, (@pss_cons _ _ _ _ _ (ps_if (pt_cmpR op_eq (pv 0) pe_str (nomark _)) (@pss_one _ _ _ (@ps_ret _ _ _ _ (pe_lst pa_nil))) pss_nil) (@pss_cons _ _ _ _ _ (ps_set (i := 1) sc_log_read.nd rfl (Or.inl rfl) (pe_lst pa_nil)) (@pss_cons _ _ _ _ _ (ps_forW PassesOwn.never rfl (pi_enum rfl T.n_enumerate (@pe_bm _ _ _ _ _ _ _ _ _ _ _ _ PySem.F.plainAttrs_str PySem.F.slot_str_split PySem.F.type_str_split mt_split (pv 0) (@pa_cons _ _ _ _ _ pe_str pa_nil (by rfl)) (by rfl) (by rfl) (by rfl) (by rfl) (by rfl)) pe_int) (pg_tup (n := 2) rfl (pgs_cons (pg_name (i := 2) sc_log_read.nd rfl (Or.inl rfl)) (pgs_cons (pg_name (i := 3) sc_log_read.nd rfl (Or.inl rfl)) pgs_nil))) pss_bodyT) pss_bodyT))), ?_⟩
    dsimp! []
    by_cases c : rs = []
    · subst c
      rw [if_pos (by decide +kernel)]
      exact fun p hp => q _ p [] (.put hp) hp upd_same ⟨rfl, (fun _ _ _ h => nomatch h)⟩
    have hne : logT rs ≠ "" := fun e => by
      match rs, c, ho with
      | r :: rs, _, ho =>
        have h1 := (ho r (List.mem_cons_self ..)).len.2
        have h2 := join_ge ⟨#[10]⟩ r.tx (rs.map Row.tx)
        have h3 : ((⟨#[10]⟩ : Str).join (r.tx :: rs.map Row.tx)).length = 0 := by
          have := congrArg Str.length e
          exact this
        omega
    rw [if_neg (fun h => hne (of_decide_eq_true h))]
    have hll := logT_len ho
    have esp : Txt.split (logT rs) (Str.ofString "\n") = rs.map Row.tx := split_join (c := 10) (fun t ht => by
      obtain ⟨r, hr, rfl⟩ := List.mem_map.mp ht
      exact (ho r hr).line) (by simpa using c)
    refine fun p hp => ⟨rfl, by decide, by rw [sizeLine_eq]; omega, fun l hl0 => ?_⟩
    rw [esp]
    have s1 := (Same.put (o := .lst []) hp).trans (Same.put (o := .lst ((rs.map Row.tx).map V.str)) hl0)
    have npl : p ≠ l := ne_of_none upd_same hl0
    have h1 : upd (upd H p (HO.lst [])) l (HO.lst ((rs.map Row.tx).map V.str)) p = some (.lst []) := by rw [upd_ne npl, upd_same]
    have h2 : upd (upd H p (HO.lst [])) l (HO.lst ((rs.map Row.tx).map V.str)) l = some (.lst ((rs.map Row.tx).map V.str)) := upd_same
    have s0 : Same (hid p (upd (upd H p (HO.lst [])) l (HO.lst ((rs.map Row.tx).map V.str)))) (upd (upd H p (HO.lst [])) l (HO.lst ((rs.map Row.tx).map V.str))) := hid_same _ _
    generalize upd (upd H p (HO.lst [])) l (HO.lst ((rs.map Row.tx).map V.str)) = H1 at h1 h2 s1 s0
    refine ⟨1, rfl, ⟨_, .of h2⟩, by decide, fw_enum ((rs.map Row.tx).map V.str) (fun j σ' H' => ∃ (o2 o3 o4 : Option V) (ps : List Addr), σ' = [some (.str (logT rs)), some (.ref p), o2, o3, o4] ∧ Same H H' ∧ H' p = some (.lst (ps.map V.ref)) ∧ H' l = some (.lst ((rs.map Row.tx).map V.str)) ∧ ps.length = j ∧ ∀ (i : Nat) x r, ps[i]? = some x → rs[i]? = some r → RowAt H (hid p H') x r)
      ⟨none, none, none, [], rfl, s1, h1, h2, rfl, (fun _ _ _ h => nomatch h)⟩ ?_ ?_ ?_⟩
    · rintro j σ' H' _ ⟨o2, o3, o4, ps, rfl, _, _, h, _⟩
      exact .of h
    · rintro j x t σ' H' hx ⟨o2, o3, o4, ps, rfl, s2, hp2, hl2, hpl, hR⟩ ht
      have hjl := (List.getElem?_eq_some_iff.mp hx).1
      rw [List.length_map, List.length_map] at hjl
      rw [List.getElem?_map, List.getElem?_map, Option.map_map, Option.map_eq_some_iff] at hx
      obtain ⟨r, hx, rfl⟩ := hx
      have s3 := Same.put (o := .tup [V.int ((1 + j : Nat) : Int), (V.str ∘ Row.tx) r]) ht
      refine ⟨t, _, rfl, SqT.of upd_same, rfl, ?_⟩
      generalize upd H' t (.tup [V.int ((1 + j : Nat) : Int), (V.str ∘ Row.tx) r]) = H3 at s3
      dsimp! []
      refine bodyT.of (@pss_cons _ _ _ _ _ (ps_set (i := 4) sc_log_read.nd rfl (Or.inl rfl) (pe_call (ok_row_read T) (hr.mono (by decide)) rfl T.m_row_read T.f_row_read.kp T.b_row_read .nil pass0 (@pa_cons _ _ _ _ _ (pv 3) pa_nil (by rfl)))) (@pss_cons _ _ _ _ _ (ps_if (pt_cmpR op_isN (pv 4) pe_non (nomark _)) (@pss_one _ _ _ ps_never) pss_nil) (@pss_one _ _ _ (ps_expr (@pe_bm _ _ _ _ _ _ _ _ _ _ _ _ PySem.F.plainAttrs_list PySem.F.slot_list_append PySem.F.type_list_append mt_append (pv 1) (@pa_cons _ _ _ _ _ (pv 4) pa_nil (by rfl)) (by rfl) (by rfl) (by rfl) (by rfl) (by rfl)))))) ?_
      dsimp! [sp_row_read]
      refine ⟨r, rfl, ho r (List.mem_of_getElem? hx), fun H4 p4 s4 h4 => ?_⟩
      have hp4 := s4 _ _ (s3 _ _ hp2)
      refine ⟨.inl ⟨rfl, _, .of hp4⟩, p, _, _, rfl, rfl, hp4, small1000 (by rw [List.length_map]; omega), .putD ((s2.trans s3).trans s4) hp, ps ++ [p4], by rw [upd_same, List.map_append]; rfl, by rw [upd_ne npl.symm]; exact s4 _ _ (s3 _ _ hl2), by rw [List.length_append, hpl]; rfl, fun i x r2 e1 e2 => ?_⟩
      by_cases ci : i < ps.length
      · rw [List.getElem?_append_left ci] at e1
        exact (hR i x r2 e1 e2).same ((s3.trans s4).hid.trans (hid_upd _ _ _))
      · rw [List.getElem?_append_right (by omega)] at e1
        have hi := (List.getElem?_eq_some_iff.mp e1).1
        have e0 : i - ps.length = 0 := by simp at hi; omega
        rw [e0] at e1
        cases e1
        have : i = j := by omega
        subst this
        rw [hx] at e2
        cases e2
        exact (h4.hid (s3 _ _ hp2) s4 (s2.trans s3)).same (hid_upd _ _ _)
    · rintro σ' H' ⟨o2, o3, o4, ps, rfl, s2, hp2, hl2, hpl, hR⟩
      refine bodyT.of (@pss_one _ _ _ (@ps_ret _ _ _ _ (pv 1))) ?_
      dsimp! []
      rw [List.length_map, List.length_map] at hpl
      exact q _ p ps s2 hp hp2 ⟨hpl, hR⟩
def sp_numbers : Sp := fun vs H Q _ => ∃ (n : Int) (k : Nat), vs = [.int n, .int k] ∧ k ≤ 5 ∧ ∀ H' t q m (ns : List Nat), Same H H' → H' t = some (.tup [.ref q, .int m]) → H' q = some (.lst (nI ns)) → H q = none → ns.length = k → (∀ n ∈ ns, n < 10 ^ 60) → Q (.ref t) H'
theorem ok_law_numbers (T : Txt K mg a) : FnOk P w K mg base CX0 1 a.a_law_numbers a.d_law_numbers ["_law_number", "_law_many"] sp_numbers := by
  refine T.f_law_numbers.ok sc_law_numbers (fun vs H Q E h => ?_) (fun cdv A outer s H vs Q E hr h => ?_)
  · obtain ⟨_, _, rfl, _⟩ := h
    rfl
  · obtain ⟨n, k, rfl, hk, q⟩ := h
    refine ⟨_, (@pss_cons _ _ _ _ _ (ps_set (i := 2) sc_law_numbers.nd rfl (Or.inl rfl) (pe_lst pa_nil)) (@pss_cons _ _ _ _ _ (ps_forW PassesOwn.never rfl (pi_range1 rfl T.n_range (@pa_cons _ _ _ _ _ (pv 1) pa_nil (by rfl))) (pg_name (i := 3) sc_law_numbers.nd rfl (Or.inl rfl)) pss_bodyT) pss_bodyT)), ?_⟩
    dsimp! []
    refine fun p hp => ⟨by omega, by omega, ?_⟩
    refine fw_range (fun i σ' H' => ∃ (n1 : Int) (ns : List Nat) (o : Option V), σ' = [some (.int n1), some (.int (k : Int)), some (.ref p), o] ∧ Same H H' ∧ H' p = some (.lst (nI ns)) ∧ ns.length = i ∧ ∀ n ∈ ns, n < 10 ^ 60) ⟨n, [], none, rfl, .put hp, upd_same, rfl, (fun _ h => nomatch h)⟩ ?_ ?_
    · rintro i σ' H' hi ⟨n1, ns, o, rfl, s1, h1, hl, hn⟩
      refine bodyT.of (@pss_cons _ _ _ _ _ (ps_expr (@pe_bm _ _ _ _ _ _ _ _ _ _ _ _ PySem.F.plainAttrs_list PySem.F.slot_list_append PySem.F.type_list_append mt_append (pv 2) (@pa_cons _ _ _ _ _ (pe_ix ix_list (pe_lst (@pa_cons _ _ _ _ _ (@pe_op _ _ _ _ _ _ _ _ op_mod (pv 0) pe_int) (@pa_cons _ _ _ _ _ (@pe_op _ _ _ _ _ _ _ _ op_mod (pv 0) (@pe_op _ _ _ _ _ _ _ _ op_pow pe_int pe_int)) pa_nil (by rfl)) (by rfl))) (pe_callTy call_int1 rfl T.n_int bt_int (@pa_cons _ _ _ _ _ (pe_cmpR op_eq (@pe_op _ _ _ _ _ _ _ _ op_mod (@pe_op _ _ _ _ _ _ _ _ op_fdivL (pv 0) pe_int) pe_int) pe_int (nomark _)) pa_nil (by rfl))) (fun _ _ => rfl)) pa_nil (by rfl)) (by rfl) (by rfl) (by rfl) (by rfl) (by rfl))) (@pss_one _ _ _ (ps_set (i := 0) sc_law_numbers.nd rfl (Or.inl rfl) (@pe_op _ _ _ _ _ _ _ _ op_fdivL (pv 0) pe_int)))) ?_
      dsimp! []
      obtain ⟨d1, e1, b1⟩ := mod_nat n1 20 (by decide)
      obtain ⟨d2, e2, b2⟩ := mod_nat n1 (10 ^ Int.toNat 60) (by decide +kernel)
      rw [e1, e2]
      have far : ((d1 : Nat) : Int) < 10 ^ 60 := Int.lt_trans b1 (by decide)
      have b2 : (d2 : Int) < 10 ^ 60 := b2
      obtain ⟨m, hm, em⟩ : ∃ m : Nat, m < 10 ^ 60 ∧ atI [V.int (d1 : Int), V.int (d2 : Int)] (if decide (n1 / 20 % 9 = 8) = true then 1 else 0) = some (.int (m : Int)) := by
        by_cases c6 : n1 / 20 % 9 = 8
        · exact ⟨d2, by exact_mod_cast b2, by rw [decide_eq_true c6]; rfl⟩
        · exact ⟨d1, by exact_mod_cast far, by rw [decide_eq_false c6]; rfl⟩
      have hi : i < 5 := by omega
      refine ⟨.inl ⟨rfl, _, .of h1⟩, by decide, ⟨by decide, by decide, by decide⟩, by decide +kernel, by rw [sizeLine_eq]; decide, fun p1 hp1 => ⟨.small (by decide) (by decide), by decide, p1, _, _, _, rfl, rfl, .of upd_same, em, p, _, _, rfl, rfl, Same.put hp1 _ _ h1, small1000 (by unfold nI; rw [List.length_map]; omega), .small (by decide) (by decide), .putD (s1.trans (.put hp1)) hp, ns ++ [m], ?_, by rw [List.length_append, hl]; rfl, fun x hx => ?_⟩⟩
      · rw [upd_same]
        unfold nI
        rw [List.map_append]
        rfl
      · rcases List.mem_append.mp hx with hx | hx
        · exact hn x hx
        · rw [List.mem_singleton.mp hx]
          exact hm
    · rintro σ' H' ⟨n1, ns, o, rfl, s1, h1, hl, hn⟩
      refine bodyT.of (@pss_one _ _ _ (@ps_ret _ _ _ _ (pe_tup (@pa_cons _ _ _ _ _ (pv 2) (@pa_cons _ _ _ _ _ (pv 0) pa_nil (by rfl)) (by rfl))))) ?_
      dsimp! []
      exact ⟨by rw [sizeLine_eq]; decide, fun t ht => q _ t p n1 ns (s1.trans (.put ht)) upd_same (Same.put ht _ _ h1) hp (by simpa using hl) hn⟩
theorem sizes80 : Sizes [12, 6, 12] := fun z hz => by
  simp only [List.mem_cons, List.not_mem_nil, or_false] at hz
  rcases hz with rfl | rfl | rfl <;> exact .small (by decide) (by decide)
def answersD : List Str := ["ok", "yes", "no", "none", "thing", "nothing", "no thing", "no field", "no room", "0"]
theorem ans_at {a1 a2 : Nat} (h1 : a1 < 10 ^ 60) (h2 : a2 < 10 ^ 60) (d : Nat) (hd : d < 12) : ∃ an, (answersD.map V.str ++ [V.str (nt a1), V.str (nt a2)])[d]? = some (.str an) ∧ AnsOk an := by
  by_cases c : d < 10
  · rw [List.getElem?_append_left (by simpa [answersD] using c), List.getElem?_map]
    have hd2 : d < answersD.length := c
    refine ⟨answersD[d], by rw [List.getElem?_eq_getElem hd2]; rfl, ?_⟩
    have := (by decide +kernel : ∀ x ∈ answersD, x ∈ answers ∨ x = nt 0) _ (List.getElem_mem hd2)
    exact this.imp id fun e => ⟨0, by decide, e⟩
  · rw [List.getElem?_append_right (by simpa [answersD] using c)]
    have e : d - (answersD.map V.str).length = d - 10 := rfl
    rw [e]
    rcases (by omega : d = 10 ∨ d = 11) with rfl | rfl
    · exact ⟨_, rfl, .inr ⟨a1, h1, rfl⟩⟩
    · exact ⟨_, rfl, .inr ⟨a2, h2, rfl⟩⟩
def sp_log_row : Sp := fun vs H Q _ => ∃ (c : Int) (f : Bool), vs = [.int c, .bl f] ∧ ∀ H' p r, Same H H' → RowAt H H' p r → r.ok → Q (.ref p) H'
theorem ok_law_log_row (T : Txt K mg a) : FnOk P w K mg base CX0 3 a.a_law_log_row a.d_law_log_row ["_law_cell", "_law_free"] sp_log_row := by
  refine T.f_law_log_row.ok sc_law_log_row (fun vs H Q E h => ?_) (fun cdv A outer s H vs Q E hr h => ?_)
  · obtain ⟨_, _, rfl, _⟩ := h
    rfl
  · obtain ⟨c, f, rfl, q⟩ := h
    refine ⟨_, (@pss_cons _ _ _ _ _ (ps_asg (pe_call (ok_law_drawn T) (hr.mono (by decide)) rfl T.m_law_drawn T.f_law_drawn.kp T.b_law_drawn .nil pass0 (@pa_cons _ _ _ _ _ (pv 0) (@pa_cons _ _ _ _ _ (pe_lst (@pa_cons _ _ _ _ _ pe_int (@pa_cons _ _ _ _ _ pe_int (@pa_cons _ _ _ _ _ pe_int pa_nil (by rfl)) (by rfl)) (by rfl))) (@pa_cons _ _ _ _ _ (pv 1) pa_nil (by rfl)) (by rfl)) (by rfl))) (pg_lst (n := 4) rfl (pgs_cons (pg_name (i := 2) sc_law_log_row.nd rfl (Or.inl rfl)) (pgs_cons (pg_name (i := 3) sc_law_log_row.nd rfl (Or.inl rfl)) (pgs_cons (pg_name (i := 4) sc_law_log_row.nd rfl (Or.inl rfl)) (pgs_cons (pg_name (i := 5) sc_law_log_row.nd rfl (Or.inl rfl)) pgs_nil)))))) pss_bodyT), ?_⟩
    dsimp! [sp_law_drawn]
    refine ⟨by rw [sizeLine_eq]; decide, fun p0 hp0 => ⟨[12, 6, 12], upd_same, sizes80, by decide, fun n m H1 r1 s1 hr1 => ?_⟩⟩
    refine ⟨_, .of hr1, rfl, _, _, rfl, _, _, rfl, _, _, rfl, _, _, rfl, rfl, ?_⟩
    have s1 : Same H H1 := (Same.put hp0).trans s1
    obtain ⟨d1, e1, b1⟩ := mod_nat n 12 (by decide)
    obtain ⟨d2, e2, b2⟩ := mod_nat (n / 12) 6 (by decide)
    obtain ⟨d3, e3, b3⟩ := mod_nat (n / 12 / 6) 12 (by decide)
    rw [e1, e2, e3]
    have g2 : d2 ≤ 5 := by omega
    have g3 : d3 < 12 := by omega
    refine bodyT.of (@pss_cons _ _ _ _ _ (ps_if (pt_cmpR op_lt (pv 2) pe_int (nomark _)) (@pss_cons _ _ _ _ _ ps_stT pss_bodyT) pss_nil) pss_bodyT) ?_
    dsimp! []
    refine ite2 (fun c1 => ?_) fun c1 => ?_
    · refine stT.strs (i := 6) (ws := answersD) sc_law_log_row.nd rfl (.inl rfl) rfl rfl (.inl rfl) (by decide) fun l1 hl1 => ?_
      have h1 : upd H1 l1 (HO.lst (answersD.map V.str)) l1 = some (.lst (answersD.map V.str)) := upd_same
      have s2 : Same H (upd H1 l1 (HO.lst (answersD.map V.str))) := s1.trans (.put hl1)
      generalize upd H1 l1 (HO.lst (answersD.map V.str)) = H2 at h1 s2
      refine bodyT.of (@pss_cons _ _ _ _ _ (ps_set (i := 6) sc_law_log_row.nd rfl (Or.inl rfl) (@pe_op _ _ _ _ _ _ _ _ op_catS (pv 6) (pe_lst (@pa_cons _ _ _ _ _ (pe_callTy call_strA rfl T.n_str bt_str (@pa_cons _ _ _ _ _ (@pe_op _ _ _ _ _ _ _ _ op_mod (pv 5) pe_int) pa_nil (by rfl))) (@pa_cons _ _ _ _ _ (pe_callTy call_strA rfl T.n_str bt_str (@pa_cons _ _ _ _ _ (@pe_op _ _ _ _ _ _ _ _ op_mod (pv 5) (@pe_op _ _ _ _ _ _ _ _ op_pow pe_int pe_int)) pa_nil (by rfl))) pa_nil (by rfl)) (by rfl))))) (@pss_one _ _ _ (@ps_ret _ _ _ _ (pe_tup (@pa_cons _ _ _ _ _ pe_str (@pa_cons _ _ _ _ _ (pe_call (ok_law_deed_by T) (hr.mono (by decide)) rfl T.m_law_deed_by T.f_law_deed_by.kp T.b_law_deed_by .nil pass0 (@pa_cons _ _ _ _ _ (@pe_op _ _ _ _ _ _ _ _ op_fdivL (pv 5) pe_int) (@pa_cons _ _ _ _ _ pe_bl pa_nil (by rfl)) (by rfl))) (@pa_cons _ _ _ _ _ (pe_ix ix_list (pv 6) (pv 4) (fun _ _ => rfl)) pa_nil (by rfl)) (by rfl)) (by rfl)))))) ?_
      dsimp! [sp_deed_by]
      obtain ⟨a1, ea1, ba1⟩ := mod_nat m 1000 (by decide)
      obtain ⟨a2, ea2, ba2⟩ := mod_nat m (10 ^ Int.toNat 60) (by decide +kernel)
      rw [ea1, ea2]
      have ba1 : a1 < 10 ^ 60 := by
        have : ((a1 : Nat) : Int) < 10 ^ 60 := Int.lt_trans ba1 (by decide)
        exact_mod_cast this
      have ba2 : a2 < 10 ^ 60 := by
        have : ((a2 : Nat) : Int) < 10 ^ 60 := ba2
        exact_mod_cast this
      refine ⟨by decide, log60 ba1, ⟨by decide, by decide, by decide⟩, by decide +kernel, log60 ba2, by rw [sizeLine_eq]; decide, fun l2 hl2 => ?_⟩
      have s3 := Same.put (o := .lst [V.str (nt a1), V.str (nt a2)]) hl2
      refine ⟨l1, l2, _, _, rfl, rfl, .of (s3 _ _ h1), .of upd_same, Nat.le_of_lt (small1000 (by simp [answersD])), fun l3 hl3 => ⟨.small (by decide) (by decide), fun H4 d w0 xs ss s4 h4 hD => ?_⟩⟩
      obtain ⟨an, ha, hok⟩ := ans_at ba1 ba2 d3 g3
      have h3 : H4 l3 = some (.lst (answersD.map V.str ++ [V.str (nt a1), V.str (nt a2)])) := s4 _ _ upd_same
      refine ⟨l3, _, _, .str an, rfl, rfl, .of h3, atI_nat ha, by rw [sizeLine_eq]; decide, fun p hp => q _ p (.deed w0 xs an) ((((s2.trans s3).trans (.put hl3)).trans s4).trans (.put hp)) ⟨d, upd_same, Same.put hp _ _ h4⟩ ⟨⟨ss, hD⟩, hok⟩⟩
    refine bodyT.of (@pss_cons _ _ _ _ _ (ps_if (pt_cmpR op_lt (pv 2) pe_int (nomark _)) (@pss_one _ _ _ (@ps_ret _ _ _ _ (pe_tup (@pa_cons _ _ _ _ _ pe_str (@pa_cons _ _ _ _ _ (pe_ix ix_tup (pe_call (ok_law_numbers T) (hr.mono (by decide)) rfl T.m_law_numbers T.f_law_numbers.kp T.b_law_numbers .nil pass0 (@pa_cons _ _ _ _ _ (pv 5) (@pa_cons _ _ _ _ _ (pv 3) pa_nil (by rfl)) (by rfl))) pe_int (fun _ _ => rfl)) pa_nil (by rfl)) (by rfl))))) pss_nil) pss_bodyT) ?_
    dsimp! [sp_numbers]
    refine ite2 (fun c2 => ?_) fun c2 => ?_
    · refine ⟨d2, rfl, g2, fun H2 t2 q2 m2 ns s2 ht hq2 hf hl hn => ⟨t2, _, 0, .ref q2, rfl, rfl, .of ht, atI_nat (j := 0) rfl, by rw [sizeLine_eq]; decide, fun p hp => q _ p (.nums "freed" [ns]) ((s1.trans s2).trans (.put hp)) ⟨[q2], upd_same, rfl, fun i x n2 e1 e2 => ?_⟩ ⟨.inl ⟨rfl, rfl⟩, fun n2 h2 => ?_⟩⟩⟩
      · rcases i with _ | i
        · cases e1
          cases e2
          exact ⟨Same.put hp _ _ hq2, s1.free hf⟩
        · cases e1
      · rw [List.mem_singleton.mp h2]
        exact ⟨by omega, hn⟩
    refine bodyT.of (@pss_cons _ _ _ _ _ (ps_if (pt_cmpR op_eq (pv 2) pe_int (nomark _)) (@pss_one _ _ _ (@ps_ret _ _ _ _ (pe_tup (@pa_cons _ _ _ _ _ (pe_ix ix_list (pe_lst (@pa_cons _ _ _ _ _ pe_str (@pa_cons _ _ _ _ _ pe_str (@pa_cons _ _ _ _ _ pe_str pa_nil (by rfl)) (by rfl)) (by rfl))) (@pe_op _ _ _ _ _ _ _ _ op_mod (pv 3) pe_int) (fun _ _ => rfl)) pa_nil (by rfl))))) pss_nil) pss_bodyT) ?_
    dsimp! []
    refine ite2 (fun c3 => ?_) fun c3 => ?_
    · refine ⟨by rw [sizeLine_eq]; decide, fun l1 hl1 => ⟨by decide, ?_⟩⟩
      obtain ⟨d4, e4, b4⟩ := mod_nat (d2 : Int) 3 (by decide)
      rw [e4]
      have g4 : d4 < 3 := by omega
      obtain ⟨w1, hw1, ew⟩ : ∃ w1 ∈ bares, ([V.str "begin", V.str "end", V.str "packed"] : List V)[d4]? = some (.str w1) := by
        rcases d4 with _ | _ | _ | d4
        · exact ⟨_, List.mem_cons_self .., rfl⟩
        · exact ⟨"end", by decide +kernel, rfl⟩
        · exact ⟨"packed", by decide +kernel, rfl⟩
        · omega
      refine ⟨l1, _, _, .str w1, rfl, rfl, .of upd_same, atI_nat ew, by rw [sizeLine_eq]; decide, fun p hp => q _ p (.nums w1 []) ((s1.trans (.put hl1)).trans (.put hp)) ⟨[], upd_same, rfl, (fun _ _ _ h => nomatch h)⟩ ⟨.inr (.inr ⟨hw1, rfl⟩), (fun _ h => nomatch h)⟩⟩
    refine bodyT.of (@pss_cons _ _ _ _ _ (ps_set (i := 7) sc_law_log_row.nd rfl (Or.inl rfl) (pe_lst pa_nil)) (@pss_cons _ _ _ _ _ (ps_forW PassesOwn.never rfl (pi_range1 rfl T.n_range (@pa_cons _ _ _ _ _ pe_int pa_nil (by rfl))) (pg_name (i := 8) sc_law_log_row.nd rfl (Or.inl rfl)) pss_bodyT) pss_bodyT)) ?_
    dsimp! []
    refine fun p hp => ⟨by decide, by decide, ?_⟩
    refine fw_range (fun i σ' H' => ∃ (m1 : Int) (o8 o9 : Option V) (qs : List Addr) (ls : List (List Nat)), σ' = [some (.int c), some (.bl f), some (.int (d1 : Int)), some (.int (d2 : Int)), some (.int (d3 : Int)), some (.int m1), none, some (.ref p), o8, o9] ∧ Same H H' ∧ H' p = some (.lst (qs.map V.ref)) ∧ qs.length = i ∧ ls.length = i ∧ (∀ (j : Nat) x ns, qs[j]? = some x → ls[j]? = some ns → hid p H' x = some (.lst (nI ns)) ∧ H x = none) ∧ ∀ ns ∈ ls, ns.length ≤ 5 ∧ ∀ n ∈ ns, n < 10 ^ 60)
      ⟨m, none, none, [], [], rfl, s1.trans (.put hp), upd_same, rfl, rfl, (fun _ _ _ h => nomatch h), (fun _ h => nomatch h)⟩ ?_ ?_
    · rintro i σ' H' hi ⟨m1, o8, o9, qs, ls, rfl, s2, h2, hql, hll, hR, hok⟩
      refine bodyT.of (@pss_cons _ _ _ _ _ (ps_asg (pe_call (ok_law_numbers T) (hr.mono (by decide)) rfl T.m_law_numbers T.f_law_numbers.kp T.b_law_numbers .nil pass0 (@pa_cons _ _ _ _ _ (@pe_op _ _ _ _ _ _ _ _ op_fdivL (pv 5) pe_int) (@pa_cons _ _ _ _ _ (pe_ix ix_list (pe_lst (@pa_cons _ _ _ _ _ (@pe_op _ _ _ _ _ _ _ _ op_mod (pv 5) pe_int) (@pa_cons _ _ _ _ _ pe_int pa_nil (by rfl)) (by rfl))) (@pe_op _ _ _ _ _ _ _ _ op_mod (pv 2) pe_int) (fun _ _ => rfl)) pa_nil (by rfl)) (by rfl))) (pg_tup (n := 2) rfl (pgs_cons (pg_name (i := 9) sc_law_log_row.nd rfl (Or.inl rfl)) (pgs_cons (pg_name (i := 5) sc_law_log_row.nd rfl (Or.inl rfl)) pgs_nil)))) (@pss_one _ _ _ (ps_expr (@pe_bm _ _ _ _ _ _ _ _ _ _ _ _ PySem.F.plainAttrs_list PySem.F.slot_list_append PySem.F.type_list_append mt_append (pv 7) (@pa_cons _ _ _ _ _ (pv 9) pa_nil (by rfl)) (by rfl) (by rfl) (by rfl) (by rfl) (by rfl))))) ?_
      dsimp! [sp_numbers]
      obtain ⟨d6, e6, b6⟩ := mod_nat m1 6 (by decide)
      obtain ⟨d7, e7, b7⟩ := mod_nat (d1 : Int) 2 (by decide)
      rw [e6, e7]
      obtain ⟨x1, hx1, ex1⟩ : ∃ x1 : Nat, x1 ≤ 5 ∧ ([V.int (d6 : Int), V.int 0] : List V)[d7]? = some (.int (x1 : Int)) := by
        rcases d7 with _ | _ | d7
        · exact ⟨d6, by omega, rfl⟩
        · exact ⟨0, by omega, rfl⟩
        · omega
      refine ⟨.small (by decide) (by decide), by decide, by rw [sizeLine_eq]; decide, fun p1 hp1 => ⟨by decide, p1, _, _, _, rfl, rfl, .of upd_same, atI_nat ex1, x1, rfl, hx1, fun H4 t4 q4 m4 ns s4 ht4 hq4 hf4 hl4 hn4 => ?_⟩⟩
      have s3 : Same H' H4 := (Same.put hp1).trans s4
      have h4 := s3 _ _ h2
      have npq : q4 ≠ p := (ne_of_none (Same.put hp1 _ _ h2) hf4).symm
      have hi7 : i < 7 := hi
      refine ⟨_, .of ht4, rfl, _, _, rfl, _, _, rfl, rfl, .inl ⟨rfl, _, .of h4⟩, p, _, _, rfl, rfl, h4, small1000 (by rw [List.length_map]; omega), m4, rfl, .putD (s2.trans s3) (s1.free hp), qs ++ [q4], by rw [upd_same, List.map_append]; rfl, by rw [List.length_append, hql]; rfl, ls ++ [ns], by rw [List.length_append, hll]; rfl, fun j x n2 e1 e2 => ?_, fun n2 h2 => ?_⟩
      · by_cases ci : j < qs.length
        · rw [List.getElem?_append_left ci] at e1
          rw [List.getElem?_append_left (by omega)] at e2
          exact ⟨(s3.hid.trans (hid_upd _ _ _)) _ _ (hR j x n2 e1 e2).1, (hR j x n2 e1 e2).2⟩
        · rw [List.getElem?_append_right (by omega)] at e1 e2
          have hj := (List.getElem?_eq_some_iff.mp e1).1
          have e0 : j - qs.length = 0 := by simp at hj; omega
          rw [e0] at e1
          rw [show j - ls.length = 0 by omega] at e2
          cases e1
          cases e2
          refine ⟨hid_upd _ _ _ _ _ (by rw [hid_ne npq]; exact hq4), (s2.trans (.put hp1)).free hf4⟩
      · rcases List.mem_append.mp h2 with h2 | h2
        · exact hok n2 h2
        · rw [List.mem_singleton.mp h2]
          exact ⟨by omega, hn4⟩
    · rintro σ' H' ⟨m1, o8, o9, qs, ls, rfl, s2, h2, hql, hll, hR, hok⟩
      refine bodyT.of (@pss_one _ _ _ (@ps_ret _ _ _ _ (@pe_op _ _ _ _ _ _ _ _ op_catT (pe_tup (@pa_cons _ _ _ _ _ pe_str pa_nil (by rfl))) (pe_callTy call_tuple_of rfl T.n_tuple bt_tuple (@pa_cons _ _ _ _ _ (pv 7) pa_nil (by rfl)))))) ?_
      dsimp! []
      have hq7 : qs.length = 7 := hql
      have hl7 : ls.length = 7 := hll
      refine ⟨by rw [sizeLine_eq]; decide, fun p1 hp1 => ⟨_, .inl ⟨.of (Same.put hp1 _ _ h2), fun p2 hp2 => ?_⟩⟩⟩
      have s3 := (Same.put (o := .tup [V.str "turn"]) hp1).trans (Same.put (o := .tup (qs.map V.ref)) hp2)
      refine ⟨p1, p2, _, _, rfl, rfl, .of (Same.put hp2 _ _ upd_same), .of upd_same, by simp, Nat.le_of_lt (small1000 (by simp; omega)), fun e => ?_, fun _ p3 hp3 => ?_⟩
      · rw [List.map_eq_nil_iff.mp e] at hq7
        cases hq7
      have s4 := s3.trans (Same.put (o := .tup ([V.str "turn"] ++ qs.map V.ref)) hp3)
      exact q _ p3 (.nums "turn" ls) (s2.trans s4) ⟨qs, upd_same, by omega, fun i x ns e1 e2 => ⟨s4 _ _ (hid_same _ _ _ _ (hR i x ns e1 e2).1), (hR i x ns e1 e2).2⟩⟩ ⟨.inr (.inl ⟨rfl, hl7⟩), hok⟩
theorem join_snoc (w1 : Str) (W : List Str) (t : Str) : (⟨#[32]⟩ : Str).join (w1 :: (W ++ [t])) = (⟨#[32]⟩ : Str).join (w1 :: W) ++ ⟨#[32]⟩ ++ t := by
  have := join_two 32 [t] (by simp) (w1 :: W) (by simp)
  rw [Str.join.eq_2] at this
  exact this
theorem join_bound {w1 : Str} {W : List Str} (h : ∀ t ∈ w1 :: W, t.length ≤ 60) (h2 : W.length ≤ 60) : ((⟨#[32]⟩ : Str).join (w1 :: W)).length ≤ 7000 := by
  have h1 := join_len ⟨#[32]⟩ (w1 :: W)
  have h3 := sum_len (ts := w1 :: W) fun t ht => Nat.le_trans (h t ht) (by decide : 60 ≤ 100)
  rw [show (⟨#[32]⟩ : Str).length = 1 from rfl] at h1
  rw [List.length_cons] at h1 h3
  omega
theorem numsW_snoc (w1 : Str) (ls : List (List Nat)) {i : Nat} {ns : List Nat} (h : ls[i]? = some ns) : numsW w1 (ls.take (i + 1)) = numsW w1 (ls.take i) ++ (barW w1 ++ ns.map nt) := by
  unfold numsW
  rw [List.take_add_one, h, List.flatMap_append]
  rw [show (some ns).toList = [ns] from rfl, List.flatMap_cons, List.flatMap_nil, List.append_nil]
def sp_log_text : Sp := fun vs H Q _ => ∃ p r, vs = [.ref p] ∧ RowAt H0 H p r ∧ r.ok ∧ ∀ H', Same H H' → Q (.str r.tx) H'
theorem ok_law_log_text (T : Txt K mg a) : FnOk P w K mg base CX0 2 a.a_law_log_text a.d_law_log_text ["_law_row_here"] sp_log_text := by
  refine T.f_law_log_text.ok sc_law_log_text (fun vs H Q E h => ?_) (fun cdv A outer s H vs Q E hr h => ?_)
  · obtain ⟨_, _, rfl, _⟩ := h
    rfl
  · obtain ⟨p, r, rfl, hp, ho, q⟩ := h
    refine ⟨_, (@pss_cons _ _ _ _ _ (ps_if (pt_cmpR op_eq (pe_ix ix_tup (pv 0) pe_int (fun _ _ => rfl)) pe_str (nomark _)) (@pss_one _ _ _ (@ps_ret _ _ _ _ (@pe_op _ _ _ _ _ _ _ _ op_add_str (@pe_op _ _ _ _ _ _ _ _ op_add_str (pe_call (ok_law_row T) (hr.mono (by decide)) rfl T.m_law_row T.f_law_row.kp T.b_law_row .nil pass0 (@pa_cons _ _ _ _ _ (pe_ix ix_tup (pv 0) pe_int (fun _ _ => rfl)) pa_nil (by rfl))) pe_str) (pe_ix ix_tup (pv 0) pe_int (fun _ _ => rfl))))) pss_nil) (@pss_cons _ _ _ _ _ (ps_set (i := 1) sc_law_log_text.nd rfl (Or.inl rfl) (pe_ix ix_tup (pv 0) pe_int (fun _ _ => rfl))) (@pss_cons _ _ _ _ _ (ps_forW PassesOwn.never rfl (pi_tup (pe_slice sl_tup (pv 0) (po_some pe_int) po_none)) (pg_name (i := 2) sc_law_log_text.nd rfl (Or.inl rfl)) pss_bodyT) pss_bodyT))), ?_⟩
    dsimp! [sp_row]
    match r, hp, ho, q with
    | .deed w0 xs an, ⟨d, hp, hd⟩, ⟨⟨ss, hD⟩, ha⟩, q =>
      have few := parts_few hD.at_
      have hln := hD.len
      have l1 := hD.rds.few
      have l2 := ha.len
      refine ⟨p, _, 0, .str "deed", rfl, rfl, .of hp, atI_nat (j := 0) rfl, rfl, ?_⟩
      rw [if_pos (decide_eq_true rfl)]
      refine ⟨p, _, 1, .ref d, rfl, rfl, .of hp, atI_nat (j := 1) rfl, d, rfl, w0, xs, .of hd, by omega, hD.word.1, fun x hx => (hD.all hx).elim fun s hs => hs.shw, fun H1 s1 => ?_⟩
      have e1 : (Str.ofString " -> ").length = 4 := rfl
      have e2 : (Txt.join (Str.ofString " ") (w0 :: List.map shv xs)).length ≤ 1000 := l1
      refine ⟨by rw [sizeLine_eq]; omega, p, _, 2, .str an, rfl, rfl, .of (s1 p _ hp), atI_nat (j := 2) rfl, an, rfl, ?_, q _ s1⟩
      rw [strLen_append, sizeLine_eq]
      omega
    | .nums w1 ls, ⟨qs, hp, hql, hqs⟩, ⟨hw, hn⟩, q =>
      have nd : w1 ≠ "deed" := by
        rcases hw with ⟨rfl, _⟩ | ⟨rfl, _⟩ | ⟨hb, _⟩
        · decide +kernel
        · decide +kernel
        · exact (by decide +kernel : ∀ w ∈ bares, w ≠ "deed") w1 hb
      have wl := (word_ok hw).1
      have l7 : ls.length ≤ 7 := by
        rcases hw with ⟨_, e⟩ | ⟨_, e⟩ | ⟨_, e⟩
        · omega
        · omega
        · rw [e]; exact Nat.zero_le _
      refine ⟨p, _, 0, .str w1, rfl, rfl, .of hp, atI_nat (j := 0) rfl, rfl, ?_⟩
      rw [if_neg (by rw [decide_eq_false (fun e => nd (V.str.inj e))]; decide)]
      refine ⟨p, _, 0, .str w1, rfl, rfl, .of hp, atI_nat (j := 0) rfl, p, _, rfl, .of hp, ?_, fun p2 hp2 => ?_⟩
      · rw [HT.sIx_none, show (some (1 : Int)) = some ((1 : Nat) : Int) from rfl, HT.sIx_nat]
        simp
      rw [cut_tail]
      have h2 : upd H p2 (HO.tup (qs.map V.ref)) p2 = some (.tup (qs.map V.ref)) := upd_same
      have s2 : Same H (upd H p2 (HO.tup (qs.map V.ref))) := .put hp2
      generalize upd H p2 (HO.tup (qs.map V.ref)) = H2 at h2 s2
      have bd : ∀ (i j : Nat) (ns : List Nat), ls[i]? = some ns → ∀ W, W = numsW w1 (ls.take i) ++ (barW w1 ++ (ns.take j).map nt) ∨ W = numsW w1 (ls.take i) → ((⟨#[32]⟩ : Str).join (w1 :: W)).length ≤ 7000 := fun i j ns hi W hW => by
        have hn1 : ∀ x ∈ ls.take i, x.length ≤ 5 ∧ ∀ n ∈ x, n < 10 ^ 60 := fun x hx => hn x (List.mem_of_mem_take hx)
        have hn2 := hn ns (List.mem_of_getElem? hi)
        have k1 := numsW_len (w := w1) hn1
        have k2 : (ls.take i).length ≤ 7 := by rw [List.length_take]; omega
        have k3 : (barW w1).length ≤ 1 := by unfold barW; split <;> simp
        have k4 : ∀ t ∈ barW w1, t.length ≤ 60 := fun t ht => by
          unfold barW at ht
          split at ht
          · rw [List.mem_singleton.mp ht]; decide
          · cases ht
        have k5 : ((ns.take j).map nt).length ≤ 5 := by rw [List.length_map, List.length_take]; omega
        rcases hW with rfl | rfl
        · refine join_bound (fun t ht => ?_) (by rw [List.length_append, List.length_append]; omega)
          rcases List.mem_cons.mp ht with rfl | ht
          · exact wl
          · rcases List.mem_append.mp ht with ht | ht
            · exact (numsW_word hn1 ht).1
            · rcases List.mem_append.mp ht with ht | ht
              · exact k4 t ht
              · obtain ⟨n, hn3, rfl⟩ := List.mem_map.mp ht
                exact nt_len (hn2.2 n (List.mem_of_mem_take hn3))
        · refine join_bound (fun t ht => ?_) (by omega)
          rcases List.mem_cons.mp ht with rfl | ht
          · exact wl
          · exact (numsW_word hn1 ht).1
      refine ⟨p2, rfl, ⟨_, .of h2⟩, fw_tup (qs.map V.ref) (fun i σ' H' => H' = H2 ∧ ∃ o2 o3 : Option V, σ' = [some (.ref p), some (.str ((⟨#[32]⟩ : Str).join (w1 :: numsW w1 (ls.take i)))), o2, o3]) ⟨rfl, none, none, ?_⟩ ?_ ?_ ?_⟩
      · rw [List.take_zero, show numsW w1 [] = [] from rfl, Str.join.eq_2]
      · rintro i σ' H' hi ⟨rfl, _⟩
        exact .of h2
      · rintro i x σ' H' hi ⟨rfl, o2, o3, rfl⟩
        rw [List.getElem?_map, Option.map_eq_some_iff] at hi
        obtain ⟨q1, hi, rfl⟩ := hi
        have hil := (List.getElem?_eq_some_iff.mp hi).1
        have en : ls[i]? = some (ls[i]'(by omega)) := List.getElem?_eq_getElem (by omega)
        generalize ls[i]'(by omega) = ns at en
        have hq1 := s2 _ _ (hqs i q1 ns hi en).1
        have hn2 := hn ns (List.mem_of_getElem? en)
        refine gN ?_
        refine bodyT.of (@pss_cons _ _ _ _ _ ps_stT pss_bodyT) ?_
        dsimp! []
        refine joinW (fun σ2 H3 => H3 = H' ∧ σ2 = [some (.ref p), some (.str ((⟨#[32]⟩ : Str).join (w1 :: (numsW w1 (ls.take i) ++ barW w1)))), some (.ref q1), o3]) (stT.of (ps_if (pt_cmpR op_eq (pe_ix ix_tup (pv 0) pe_int (fun _ _ => rfl)) pe_str (nomark _)) (@pss_one _ _ _ (ps_set (i := 1) sc_law_log_text.nd rfl (Or.inl rfl) (@pe_op _ _ _ _ _ _ _ _ op_add_str (pv 1) pe_str))) pss_nil) ?_) ?_
        · dsimp! []
          refine ⟨p, _, 0, .str w1, rfl, rfl, .of (s2 _ _ hp), atI_nat (j := 0) rfl, rfl, ?_⟩
          by_cases c : w1 = "turn"
          · rw [if_pos (decide_eq_true (congrArg V.str c))]
            refine ⟨?_, rfl, ?_⟩
            · have := bd i 0 ns en _ (.inr rfl)
              have e1 : (Str.ofString " |").length = 2 := rfl
              rw [sizeLine_eq]
              omega
            · rw [show barW w1 = [Str.ofString "|"] from by unfold barW; rw [if_pos c], join_snoc, app_assoc]
              rfl
          · rw [if_neg (by rw [decide_eq_false (fun e => c (V.str.inj e))]; decide)]
            refine ⟨rfl, ?_⟩
            rw [show barW w1 = [] from by unfold barW; rw [if_neg c], List.append_nil]
        · rintro σ2 H3 ⟨rfl, rfl⟩
          refine bodyT.of (@pss_one _ _ _ (ps_forW PassesOwn.never rfl (pi_list (pv 2)) (pg_name (i := 3) sc_law_log_text.nd rfl (Or.inl rfl)) pss_bodyT)) ?_
          dsimp! []
          refine ⟨⟨_, .of hq1⟩, fw_list (nI ns) (fun j σ3 H4 => H4 = H3 ∧ ∃ o3 : Option V, σ3 = [some (.ref p), some (.str ((⟨#[32]⟩ : Str).join (w1 :: (numsW w1 (ls.take i) ++ (barW w1 ++ (ns.take j).map nt))))), some (.ref q1), o3]) ⟨rfl, o3, by rw [List.take_zero, List.map_nil, List.append_nil]⟩ ?_ ?_ ?_⟩
          · rintro j σ3 H4 _ ⟨rfl, _⟩
            exact .of hq1
          · rintro j x σ3 H4 hj ⟨rfl, o4, rfl⟩
            unfold nI at hj
            rw [List.getElem?_map, Option.map_eq_some_iff] at hj
            obtain ⟨n, hj, rfl⟩ := hj
            have hn3 := hn2.2 n (List.mem_of_getElem? hj)
            have k1 := bd i j ns en _ (.inl rfl)
            have k2 := nt_len hn3
            refine gN ?_
            refine bodyT.of (@pss_one _ _ _ (ps_set (i := 1) sc_law_log_text.nd rfl (Or.inl rfl) (@pe_op _ _ _ _ _ _ _ _ op_add_str (@pe_op _ _ _ _ _ _ _ _ op_add_str (pv 1) pe_str) (pe_callTy call_strA rfl T.n_str bt_str (@pa_cons _ _ _ _ _ (pv 3) pa_nil (by rfl)))))) ?_
            dsimp! []
            have e1 : (Str.ofString " ").length = 1 := rfl
            have k3 : (Str.ofString (toString (n : Int))).length ≤ 60 := k2
            refine ⟨by rw [sizeLine_eq]; omega, log60 hn3, by rw [strLen_append, sizeLine_eq]; omega, ?_, _, rfl⟩
            have e5 : numsW w1 (ls.take i) ++ (barW w1 ++ (ns.take (j + 1)).map nt) = (numsW w1 (ls.take i) ++ (barW w1 ++ (ns.take j).map nt)) ++ [nt n] := by
              rw [List.take_add_one, hj, List.map_append]
              simp
            rw [e5, join_snoc]
            rfl
          · rintro σ3 H4 ⟨rfl, o4, rfl⟩
            refine ⟨rfl, some (.ref q1), o4, ?_⟩
            rw [show (nI ns).length = ns.length from List.length_map .., List.take_length, numsW_snoc w1 ls en]
      · rintro σ' H' ⟨rfl, o2, o3, rfl⟩
        refine bodyT.of (@pss_one _ _ _ (@ps_ret _ _ _ _ (pv 1))) ?_
        dsimp! []
        rw [List.length_map, hql, List.take_length]
        exact q _ s2
def rowD : Row → D
  | .deed w0 xs an => .tup [.str "deed", .tup (.str w0 :: xs.map fD), .str an]
  | .nums w1 ls => .tup (.str w1 :: ls.map fun ns => .lst ((nI ns).map fD))
def logD (rs : List Row) : D := .lst (rs.map rowD)
theorem nI_flat (ns : List Nat) : ∀ x ∈ nI ns, flatV x = true := fun x hx => by
  obtain ⟨n, _, rfl⟩ := List.mem_map.mp hx
  rfl
theorem deps_all {ds : List D} {k : Nat} (h : ∀ d ∈ ds, d.dep ≤ k) : deps ds ≤ k := by
  induction ds with
  | nil => exact Nat.zero_le _
  | cons d r ih =>
    rw [deps]
    exact Nat.max_le.mpr ⟨h d (List.mem_cons_self ..), ih fun e he => h e (List.mem_cons_of_mem _ he)⟩
theorem rowD_dep (r : Row) : (rowD r).dep ≤ 5 := by
  match r with
  | .deed w0 xs an =>
    unfold rowD D.dep
    refine Nat.succ_le_succ (deps_all (k := 4) fun d hd => ?_)
    simp only [List.mem_cons, List.not_mem_nil, or_false] at hd
    rcases hd with rfl | rfl | rfl
    · exact Nat.zero_le _
    · unfold D.dep
      refine Nat.succ_le_succ (deps_all (k := 3) fun d hd => ?_)
      rcases List.mem_cons.mp hd with rfl | hd
      · exact Nat.zero_le _
      · obtain ⟨x, _, rfl⟩ := List.mem_map.mp hd
        rw [dep_flat]
        exact Nat.zero_le _
    · exact Nat.zero_le _
  | .nums w1 ls =>
    unfold rowD D.dep
    refine Nat.succ_le_succ (deps_all (k := 4) fun d hd => ?_)
    rcases List.mem_cons.mp hd with rfl | hd
    · exact Nat.zero_le _
    · obtain ⟨ns, _, rfl⟩ := List.mem_map.mp hd
      unfold D.dep
      rw [deps_flat]
      decide
theorem logD_dep (rs : List Row) : (logD rs).dep ≤ 60 := by
  unfold logD D.dep
  refine Nat.le_trans (Nat.succ_le_succ (deps_all (k := 5) fun d hd => ?_)) (by decide : 6 ≤ 60)
  obtain ⟨r, _, rfl⟩ := List.mem_map.mp hd
  exact rowD_dep r
theorem RowAt.isD {F H : Hp} {p : Addr} {r : Row} (h : RowAt F H p r) (ho : r.ok) : IsD K H (.ref p) (rowD r) := by
  match r, h, ho with
  | .deed w0 xs an, ⟨d, h1, h2⟩, ⟨⟨ss, hD⟩, _⟩ =>
    refine .tup (.of h1) rfl fun i x e e1 e2 => ?_
    rcases i with _ | _ | _ | i
    · cases e1; cases e2; exact .str _
    · cases e1; cases e2
      exact .flatT (xs := .str w0 :: xs) (.of h2) fun x hx => by
        rcases List.mem_cons.mp hx with rfl | hx
        · rfl
        · exact (hD.all hx).elim fun s hs => hs.shw.flat
    · cases e1; cases e2; exact .str _
    · cases e1
  | .nums w1 ls, ⟨qs, h1, h2, h3⟩, _ =>
    refine .tup (.of h1) (by simp [h2]) fun i x e e1 e2 => ?_
    rcases i with _ | i
    · cases e1; cases e2; exact .str _
    · rw [List.getElem?_cons_succ, List.getElem?_map, Option.map_eq_some_iff] at e1 e2
      obtain ⟨q, e1, rfl⟩ := e1
      obtain ⟨ns, e2, rfl⟩ := e2
      exact .flatL (.of (h3 i q ns e1 e2).1) (nI_flat ns)
theorem RowsAt.isD {F H : Hp} {l : Addr} {ps : List Addr} {rs : List Row} (h : RowsAt F H ps rs) (hl : H l = some (.lst (ps.map V.ref))) (ho : ∀ r ∈ rs, r.ok) : IsD K H (.ref l) (logD rs) := by
  refine .lst (.of hl) (by simp [h.1]) fun i x e e1 e2 => ?_
  rw [List.getElem?_map, Option.map_eq_some_iff] at e1 e2
  obtain ⟨q, e1, rfl⟩ := e1
  obtain ⟨r, e2, rfl⟩ := e2
  exact (h.2 i q r e1 e2).isD (ho r (List.mem_of_getElem? e2))
def PartV (F H : Hp) (w1 : Str) (v : V) : Prop := (∃ q ns, v = .ref q ∧ H q = some (.lst (nI ns)) ∧ F q = none ∧ ns.length ≤ 5 ∧ (w1 = "turn" ∨ w1 = "freed")) ∨ (w1 = "deed" ∧ ((∃ d xs, v = .ref d ∧ H d = some (.tup xs)) ∨ ∃ z, v = .str z))
theorem PartV.same {F H H' : Hp} {w1 : Str} {v : V} (h : PartV F H w1 v) (s : Same H H') : PartV F H' w1 v := by
  rcases h with ⟨q, ns, e, h1, h2⟩ | ⟨h0, ⟨d, xs, e, h1⟩ | h1⟩
  · exact .inl ⟨q, ns, e, s _ _ h1, h2⟩
  · exact .inr ⟨h0, .inl ⟨d, xs, e, s _ _ h1⟩⟩
  · exact .inr ⟨h0, .inr h1⟩
theorem RowAt.parts {F H : Hp} {p : Addr} {r : Row} (h : RowAt F H p r) (ho : r.ok) : ∃ w1 vs, H p = some (.tup (.str w1 :: vs)) ∧ vs.length ≤ 7 ∧ ∀ v ∈ vs, PartV F H w1 v := by
  match r, h, ho with
  | .deed w0 xs an, ⟨d, h1, h2⟩, _ =>
    refine ⟨_, _, h1, (by decide : 2 ≤ 7), fun v hv => ?_⟩
    simp only [List.mem_cons, List.not_mem_nil, or_false] at hv
    rcases hv with rfl | rfl
    · exact .inr ⟨rfl, .inl ⟨d, _, rfl, h2⟩⟩
    · exact .inr ⟨rfl, .inr ⟨an, rfl⟩⟩
  | .nums w1 ls, ⟨qs, h1, h2, h3⟩, ⟨hw, hn⟩ =>
    have l7 : ls.length ≤ 7 := by
      rcases hw with ⟨_, e⟩ | ⟨_, e⟩ | ⟨_, e⟩
      · omega
      · omega
      · rw [e]; exact Nat.zero_le _
    refine ⟨w1, _, h1, by rw [List.length_map]; omega, fun v hv => ?_⟩
    obtain ⟨q, hq, rfl⟩ := List.mem_map.mp hv
    obtain ⟨i, hi, e⟩ := List.mem_iff_getElem.mp hq
    have en : ls[i]? = some (ls[i]'(by omega)) := List.getElem?_eq_getElem (by omega)
    have h4 := h3 i q _ (by rw [List.getElem?_eq_getElem hi, e]) en
    refine .inl ⟨q, _, rfl, h4.1, h4.2, (hn _ (List.mem_of_getElem? en)).1, ?_⟩
    rcases hw with ⟨e, _⟩ | ⟨e, _⟩ | ⟨_, e⟩
    · exact .inr e
    · exact .inl e
    · rw [e] at h2
      rw [h2] at hi
      cases hi
def sp_form (K : PySem.W.Frag) : Sp := fun vs H Q _ => ∃ l ps rs, vs = [.ref l] ∧ H l = some (.lst (ps.map V.ref)) ∧ RowsAt H0 H ps rs ∧ (∀ r ∈ rs, r.ok) ∧ rs.length ≤ 100 ∧ ∀ H', Same H H' → Q (.bl true) H'
theorem ok_law_form (T : Txt K mg a) : FnOk P w K mg base CX0 3 a.a_law_form a.d_law_form ["_law_found"] (sp_form K) := by
  refine T.f_law_form.ok sc_law_form (fun vs H Q E h => ?_) (fun cdv A outer s H vs Q E hr h => ?_)
  · obtain ⟨_, _, _, rfl, _⟩ := h
    rfl
  · obtain ⟨l, ps, rs, rfl, hl, hR, ho, hz, q⟩ := h
    refine ⟨_, (@pss_cons _ _ _ _ _ (ps_forW PassesOwn.never rfl (pi_list (pv 0)) (pg_name (i := 1) sc_law_form.nd rfl (Or.inl rfl)) pss_bodyT) pss_bodyT), ?_⟩
    dsimp! []
    have hpl := hR.1
    refine ⟨⟨_, .of hl⟩, fw_list (ps.map V.ref) (fun i σ' H' => Same H H' ∧ ∃ o1 o2 : Option V, σ' = [some (.ref l), o1, o2]) ⟨.refl H, none, none, rfl⟩ ?_ ?_ ?_⟩
    · rintro i σ' H' _ ⟨s1, _⟩
      exact .of (s1 _ _ hl)
    · rintro i x σ' H' hi ⟨s1, o1, o2, rfl⟩
      rw [List.getElem?_map, Option.map_eq_some_iff] at hi
      obtain ⟨p, hi, rfl⟩ := hi
      have hil := (List.getElem?_eq_some_iff.mp hi).1
      have en : rs[i]? = some (rs[i]'(by omega)) := List.getElem?_eq_getElem (by omega)
      generalize rs[i]'(by omega) = r at en
      have hr1 := (hR.2 i p r hi en).same s1
      have hok := ho r (List.mem_of_getElem? en)
      refine gN ?_
      refine bodyT.of (@pss_cons _ _ _ _ _ (ps_if (pt_not (pt_val (pe_callB call_isinst rfl T.n_isinstance bt_isinstance (@pa_cons _ _ _ _ _ (pv 1) (@pa_cons _ _ _ _ _ (pe_bltn (v := .ty "tuple") rfl T.n_tuple bt_tuple rfl) pa_nil (by rfl)) (by rfl))))) (@pss_one _ _ _ (@ps_ret _ _ _ _ pe_bl)) pss_nil) (@pss_one _ _ _ (ps_forW PassesOwn.never rfl (pi_tup (pe_slice sl_tup (pv 1) (po_some pe_int) po_none)) (pg_name (i := 2) sc_law_form.nd rfl (Or.inl rfl)) pss_bodyT))) ?_
      dsimp! []
      obtain ⟨w1, vs, hp, hv7, hvs⟩ := hr1.parts hok
      refine ⟨_, .tup hp, true, kit_same K _, ?_⟩
      rw [if_neg (by decide)]
      refine ⟨p, _, rfl, .of hp, ?_, fun p2 hp2 => ?_⟩
      · rw [HT.sIx_none, show (some (1 : Int)) = some ((1 : Nat) : Int) from rfl, HT.sIx_nat]
        simp
      rw [cut_tail]
      have h2 : upd H' p2 (HO.tup vs) p2 = some (.tup vs) := upd_same
      have s2 : Same H' (upd H' p2 (HO.tup vs)) := .put hp2
      generalize upd H' p2 (HO.tup vs) = H2 at h2 s2
      refine ⟨p2, rfl, ⟨_, .of h2⟩, fw_tup vs (fun j σ2 H3 => Same H2 H3 ∧ ∃ o2 : Option V, σ2 = [some (.ref l), some (.ref p), o2]) ⟨.refl _, o2, rfl⟩ ?_ ?_ ?_⟩
      · rintro j σ2 H3 _ ⟨s3, _⟩
        exact .of (s3 _ _ h2)
      · rintro j x σ2 H3 hj ⟨s3, o3, rfl⟩
        have pq := (hvs x (List.mem_of_getElem? hj)).same (s2.trans s3)
        have hp3 := s3 _ _ (s2 _ _ hp)
        refine gN ?_
        refine bodyT.of (@pss_one _ _ _ (ps_if (pt_cmpR op_in_seq (pe_ix ix_tup (pv 1) pe_int (fun _ _ => rfl)) (pe_lst (@pa_cons _ _ _ _ _ pe_str (@pa_cons _ _ _ _ _ pe_str pa_nil (by rfl)) (by rfl))) (by with_unfolding_all rfl)) (@pss_one _ _ _ (ps_if (PW.pt (pw_or (pt_not (pt_val (pe_callB call_isinst rfl T.n_isinstance bt_isinstance (@pa_cons _ _ _ _ _ (pv 2) (@pa_cons _ _ _ _ _ (pe_bltn (v := .ty "list") rfl T.n_list bt_list rfl) pa_nil (by rfl)) (by rfl))))) (pw_or1 (pt_cmpR (op_neD hr.units) (pe_lc rfl (lcok (x := "_law_number") (ns := []) (fr := []) rfl (by decide +kernel) rfl (by decide +kernel) rfl (List.forall_mem_nil _) rfl rfl (List.forall_mem_nil _) (by decide +kernel)) (pi_list (pv 2)) (fun _ _ _ _ => (pv 0)) (fun _ _ _ _ => (.one (pt_not (pt_val (pe_call (ok_law_whole T) (hr.mono (by decide)) rfl T.m_law_whole T.f_law_whole.kp T.b_law_whole .nil pass0 (@pa_cons _ _ _ _ _ (pv 0) pa_nil (by rfl)))))))) (pe_lst pa_nil) (nomark _))))) (@pss_one _ _ _ (@ps_ret _ _ _ _ pe_bl)) pss_nil)) pss_nil)) ?_
        dsimp! [sp_law_whole]
        refine ⟨p, _, 0, .str w1, rfl, rfl, .of hp3, atI_nat (j := 0) rfl, by rw [sizeLine_eq]; decide, fun p4 hp4 => ⟨p4, _, rfl, .inl (.of upd_same), rfl, rfl, _, rfl, ?_⟩⟩
        have s4 := Same.put (o := .lst [V.str "turn", V.str "freed"]) hp4
        generalize upd H3 p4 (HO.lst [V.str (Str.ofString "turn"), V.str (Str.ofString "freed")]) = H4 at s4
        have skip : Same H2 H4 ∧ ∃ o2, some x = o2 := ⟨s3.trans s4, _, rfl⟩
        rcases pq with ⟨q1, ns, rfl, h5, _, hn5, _⟩ | ⟨rfl, _⟩
        · refine ite2 (fun _ => ?_) fun _ => skip
          have h6 := s4 _ _ h5
          refine ⟨_, .lst h6, true, kit_same K _, ?_⟩
          rw [if_neg (by decide)]
          refine ⟨q1, rfl, ⟨_, .of h6⟩, fun D hD => ?_⟩
          have nq : q1 ≠ D := ne_of_none h6 hD
          refine lc_listG (nI ns) ns (fun _ => none) (by unfold nI; rw [List.length_map]; omega) (by unfold nI; rw [List.length_map]) (fun ys => .of (by rw [upd_ne nq]; exact h6)) (fun i x b ys R e1 e2 h => ?_) (fun i x b y ys R e1 e2 e3 h => nomatch e3) ?_
          · unfold nI at e1
            rw [List.getElem?_map, e2] at e1
            cases e1
            dsimp! [lcSlots, sp_law_whole]
            exact h
          · rw [List.filterMap_eq_nil_iff.mpr (fun _ _ => rfl)]
            intro p6 hp6
            have s6 := (Same.put (o := .lst []) hD).trans (Same.put (o := .lst []) hp6)
            refine ⟨.lst [], .lst [], .lst (xs := []) (.of (Same.put hp6 _ _ upd_same)) rfl (fun _ _ _ h => nomatch h), .lst (xs := []) (.of upd_same) rfl (fun _ _ _ h => nomatch h), by decide +kernel, _, rfl, ?_⟩
            rw [if_pos rfl, deq_refl, if_neg (by decide)]
            exact ⟨(s3.trans s4).trans s6, _, rfl⟩
        · rw [if_neg (by decide +kernel)]
          exact skip
      · rintro σ2 H3 ⟨s3, o3, rfl⟩
        exact ⟨(s1.trans s2).trans s3, some (.ref p), o3, rfl⟩
    · rintro σ' H' ⟨s1, o1, o2, rfl⟩
      refine bodyT.of (@pss_one _ _ _ (@ps_ret _ _ _ _ pe_bl)) ?_
      dsimp! []
      exact q _ s1
def sp_law (K : PySem.W.Frag) : Sp := fun vs H Q _ => ∃ (a : Addr) (ns : List Int), vs = [.ref a] ∧ SqL K H a (ns.map V.int) ∧ ns.length ≤ 63 ∧ ∀ H', Q (.bl true) H'
theorem rows_of {F H : Hp} : ∀ ys : List V, (∀ (i : Nat) y, ys[i]? = some y → ∃ p r, y = .ref p ∧ RowAt F H p r ∧ r.ok) → ∃ (ps : List Addr) (rs : List Row), ys = ps.map V.ref ∧ RowsAt F H ps rs ∧ ∀ r ∈ rs, r.ok
  | [], _ => ⟨[], [], rfl, ⟨rfl, (fun _ _ _ h => nomatch h)⟩, (fun _ h => nomatch h)⟩
  | y :: ys, h => by
    obtain ⟨p, r, rfl, h1, h2⟩ := h 0 y rfl
    obtain ⟨ps, rs, e, h3, h4⟩ := rows_of ys fun i z e => h (i + 1) z e
    refine ⟨p :: ps, r :: rs, by rw [e]; rfl, ⟨by rw [List.length_cons, List.length_cons, h3.1], fun i x r2 e1 e2 => ?_⟩, fun r2 hr2 => ?_⟩
    · rcases i with _ | i
      · cases e1; cases e2; exact h1
      · exact h3.2 i x r2 e1 e2
    · rcases List.mem_cons.mp hr2 with rfl | hr2
      · exact h2
      · exact h4 r2 hr2
def ItemV (H : Hp) (v : V) : Prop := (∃ z, v = .str z) ∨ (∃ q zs, v = .ref q ∧ H q = some (.lst zs)) ∨ ∃ d xs, v = .ref d ∧ H d = some (.tup xs)
def CopyV (Hb : Hp) (items : List V) (j : Nat) (y : V) (H : Hp) : Prop := ∃ v, items[j]? = some v ∧ ((y = v ∧ ∀ q, v = .ref q → ∃ xs, Hb q = some (.tup xs)) ∨ ∃ q zs q2, v = .ref q ∧ Hb q = some (.lst zs) ∧ y = .ref q2 ∧ H q2 = some (.lst zs) ∧ Hb q2 = none)
theorem CopyV.same {Hb H H' : Hp} {items : List V} {j : Nat} {y : V} (h : CopyV Hb items j y H) (s : Same H H') : CopyV Hb items j y H' := by
  obtain ⟨v, e, h | ⟨q, zs, q2, e1, e2, e3, e4, e5⟩⟩ := h
  · exact ⟨v, e, .inl h⟩
  · exact ⟨v, e, .inr ⟨q, zs, q2, e1, e2, e3, s _ _ e4, e5⟩⟩
theorem RowAt.items {F H : Hp} {p : Addr} {r : Row} (h : RowAt F H p r) (ho : r.ok) : ∃ items, H p = some (.tup items) ∧ items.length ≤ 8 ∧ (∀ v ∈ items, ItemV H v) ∧
    ∀ (H' : Hp) (p2 : Addr) ys, Same H H' → ys.length = items.length → (∀ (j : Nat) y, ys[j]? = some y → CopyV H items j y H') → H' p2 = some (.tup ys) → RowAt H H' p2 r := by
  match r, h, ho with
  | .deed w0 xs an, ⟨d, h1, h2⟩, _ =>
    refine ⟨_, h1, (by decide : 3 ≤ 8), fun v hv => ?_, fun H' p2 ys s hl hc hp2 => ?_⟩
    · simp only [List.mem_cons, List.not_mem_nil, or_false] at hv
      rcases hv with rfl | rfl | rfl
      · exact .inl ⟨_, rfl⟩
      · exact .inr (.inr ⟨d, _, rfl, h2⟩)
      · exact .inl ⟨_, rfl⟩
    · match ys, hl with
      | [y0, y1, y2], _ =>
        obtain ⟨v0, e0, h0⟩ := hc 0 y0 rfl
        obtain ⟨v1, e1, h1⟩ := hc 1 y1 rfl
        obtain ⟨v2, e2, h2b⟩ := hc 2 y2 rfl
        cases e0
        cases e1
        cases e2
        have k0 : y0 = .str "deed" := by
          rcases h0 with h | ⟨q, zs, q2, e, _⟩
          · exact h.1
          · cases e
        have k1 : y1 = .ref d := by
          rcases h1 with h | ⟨q, zs, q2, e, e3, _⟩
          · exact h.1
          · cases e
            rw [h2] at e3
            cases e3
        have k2 : y2 = .str an := by
          rcases h2b with h | ⟨q, zs, q2, e, _⟩
          · exact h.1
          · cases e
        subst k0
        subst k1
        subst k2
        exact ⟨d, hp2, s _ _ h2⟩
  | .nums w1 ls, ⟨qs, h1, h2, h3⟩, ⟨hw, hn⟩ =>
    have l7 : ls.length ≤ 7 := by
      rcases hw with ⟨_, e⟩ | ⟨_, e⟩ | ⟨_, e⟩
      · omega
      · omega
      · rw [e]; exact Nat.zero_le _
    have at_ : ∀ i, i < qs.length → ∃ q ns, qs[i]? = some q ∧ ls[i]? = some ns ∧ H q = some (.lst (nI ns)) := fun i hi =>
      have e1 : qs[i]? = some (qs[i]'hi) := List.getElem?_eq_getElem hi
      have e2 : ls[i]? = some (ls[i]'(by omega)) := List.getElem?_eq_getElem (by omega)
      ⟨_, _, e1, e2, (h3 i _ _ e1 e2).1⟩
    refine ⟨_, h1, by rw [List.length_cons, List.length_map]; omega, fun v hv => ?_, fun H' p2 ys s hl hc hp2 => ?_⟩
    · rcases List.mem_cons.mp hv with rfl | hv
      · exact .inl ⟨_, rfl⟩
      · obtain ⟨q, hq, rfl⟩ := List.mem_map.mp hv
        obtain ⟨i, hi, e⟩ := List.mem_iff_getElem.mp hq
        obtain ⟨q2, ns, e1, _, h4⟩ := at_ i hi
        rw [List.getElem?_eq_getElem hi, e] at e1
        cases e1
        exact .inr (.inl ⟨q, _, rfl, h4⟩)
    · match ys, hl with
      | y0 :: yr, hl =>
        obtain ⟨v0, e0, h0⟩ := hc 0 y0 rfl
        cases e0
        have k0 : y0 = .str w1 := by
          rcases h0 with h | ⟨q, zs, q2, e, _⟩
          · exact h.1
          · cases e
        subst k0
        rw [List.length_cons, List.length_cons, List.length_map] at hl
        have step : ∀ (j : Nat) y, yr[j]? = some y → ∃ q2 ns, y = .ref q2 ∧ ls[j]? = some ns ∧ H' q2 = some (.lst (nI ns)) ∧ H q2 = none := fun j y ey => by
          have hj := (List.getElem?_eq_some_iff.mp ey).1
          obtain ⟨q, ns, e1, e2, h4⟩ := at_ j (by omega)
          obtain ⟨v, ev, hv⟩ := hc (j + 1) y ey
          rw [List.getElem?_cons_succ, List.getElem?_map, e1] at ev
          cases ev
          rcases hv with ⟨_, h5⟩ | ⟨q3, zs, q2, e, e3, e4, e5, e6⟩
          · obtain ⟨xs, h6⟩ := h5 q rfl
            rw [h4] at h6
            cases h6
          · cases e
            rw [h4] at e3
            cases e3
            exact ⟨q2, ns, e4, e2, e5, e6⟩
        obtain ⟨qs2, rfl, _⟩ := refs_of yr fun j y e => (step j y e).imp fun q h => h.elim fun ns h => h.1
        rw [List.length_map] at hl
        refine ⟨qs2, hp2, by omega, fun i q ns e1 e2 => ?_⟩
        obtain ⟨q2, ns2, e3, e4, e5, e6⟩ := step i (.ref q) (by rw [List.getElem?_map, e1]; rfl)
        cases e3
        rw [e2] at e4
        cases e4
        exact ⟨e5, e6⟩
theorem kit_str_list (K : PySem.W.Frag) : PySem.W.kitOne K (.type "str") (.type "list") = some false := kit_far K (by decide +kernel) (by decide +kernel) (by decide +kernel)
theorem kit_tup_list (K : PySem.W.Frag) : PySem.W.kitOne K (.type "tuple") (.type "list") = some false := kit_far K (by decide +kernel) (by decide +kernel) (by decide +kernel)
structure MI (F H6 : Hp) (l : Addr) (vs : List V) (n : Nat) (H' : Hp) : Prop where
  same : Same F H'
  at_ : H' l = some (.lst vs)
  tups : ∀ b xs, H6 b = some (.tup xs) → H' b = some (.tup xs)
  lsts : ∀ q zs, H6 q = some (.lst zs) → zs.length ≤ 5 → F q = none → q ≠ l → ∃ zs2, H' q = some (.lst zs2) ∧ zs2.length ≤ 5 + n
theorem MI.ext {F H6 H1 H2 : Hp} {l : Addr} {vs : List V} {n : Nat} (h : MI F H6 l vs n H1) (s : Same H1 H2) : MI F H6 l vs n H2 :=
  ⟨h.same.trans s, s _ _ h.at_, fun b xs e => s _ _ (h.tups b xs e), fun q zs e1 e2 e3 e4 => (h.lsts q zs e1 e2 e3 e4).imp fun zs2 h => ⟨s _ _ h.1, h.2⟩⟩
theorem MI.mono {F H6 H1 : Hp} {l : Addr} {vs : List V} {n m : Nat} (h : MI F H6 l vs n H1) (hm : n ≤ m) : MI F H6 l vs m H1 :=
  ⟨h.same, h.at_, h.tups, fun q zs e1 e2 e3 e4 => (h.lsts q zs e1 e2 e3 e4).imp fun zs2 h => ⟨h.1, by omega⟩⟩
theorem MI.more {F H6 H1 : Hp} {l q : Addr} {vs : List V} {n : Nat} {zs zs2 : List V} (h : MI F H6 l vs n H1) (e1 : H6 q = some (.lst zs)) (e3 : F q = none) (e4 : q ≠ l) (hz : zs2.length ≤ 5 + n) (v : V) : MI F H6 l vs (n + 1) (upd H1 q (.lst (zs2 ++ [v]))) := by
  refine ⟨.putD h.same e3, by rw [upd_ne e4.symm]; exact h.at_, fun b xs e => ?_, fun q2 zs3 k1 k2 k3 k4 => ?_⟩
  · have : b ≠ q := fun e5 => by
      rw [e5, e1] at e
      cases e
    rw [upd_ne this]
    exact h.tups b xs e
  · by_cases c : q2 = q
    · subst c
      exact ⟨_, upd_same, by rw [List.length_append]; simp; omega⟩
    · rw [upd_ne c]
      exact (h.lsts q2 zs3 k1 k2 k3 k4).imp fun zs4 h => ⟨h.1, by omega⟩
theorem log0 : logT [] = Str.ofString "" := by decide +kernel
theorem log1 : logT [.nums "begin" []] = Str.ofString "begin" := by decide +kernel
theorem ok_law (T : Txt K mg a) : FnOk P w K mg base CX0 10 a.a_law a.d_law ["_law_script"] (sp_law K) := by
  refine T.f_law.ok sc_law (fun vs H Q E h => ?_) (fun cdv A outer s H vs Q E hr h => ?_)
  · obtain ⟨_, _, rfl, _⟩ := h
    rfl
  · obtain ⟨sc, ns, rfl, hS, hl, q⟩ := h
    refine ⟨_, (@pss_cons _ _ _ _ _ (ps_set (i := 1) sc_law.nd rfl (Or.inr rfl) (pe_cmpR op_eq (@pe_op _ _ _ _ _ _ _ _ op_mod (pe_call (ok_law_cell_at T) (hr.mono (by decide)) rfl T.m_law_cell_at T.f_law_cell_at.kp T.b_law_cell_at .nil pass0 (@pa_cons _ _ _ _ _ (pv 0) (@pa_cons _ _ _ _ _ pe_int pa_nil (by rfl)) (by rfl))) pe_int) pe_int (nomark _))) pss_bodyT), ?_⟩
    dsimp! [sp_law_cell_at]
    refine ⟨ns, hS, by decide, fun z => ⟨by decide, ?_⟩⟩
    generalize decide (z % 2 = 0) = fr
    refine bodyT.of (@pss_cons _ _ _ _ _ (ps_lc (j := 2) rfl sc_law.nd rfl rfl (lcok (x := "_law_cell") (ns := ["_law_free"]) (fr := [1]) rfl (by decide +kernel) rfl (by decide +kernel) rfl (List.forall_mem_cons.mpr ⟨rfl, List.forall_mem_nil _⟩) rfl rfl (List.forall_mem_cons.mpr ⟨⟨rfl, rfl, .inl rfl⟩, List.forall_mem_nil _⟩) (by decide +kernel)) (pi_list (pe_slice sl_list (pv 0) (po_some pe_int) (po_some pe_int))) (fun _ _ _ _ => (pe_call (ok_law_log_row T) (hr.mono (by decide)) rfl T.m_law_log_row T.f_law_log_row.kp T.b_law_log_row .nil pass0 (@pa_cons _ _ _ _ _ (pv 0) (@pa_cons _ _ _ _ _ (pv 1) pa_nil (by rfl)) (by rfl)))) (fun _ _ _ _ => .nil)) pss_bodyT) ?_
    dsimp! []
    have ci : ∀ x ∈ cutV (ns.map V.int) (some 2) (some 63), ∃ z, x = V.int z := fun x hx => by
      have h1 := List.mem_of_mem_drop (List.mem_of_mem_take hx)
      obtain ⟨z, _, e⟩ := List.mem_map.mp h1
      exact ⟨z, e.symm⟩
    have cl : (cutV (ns.map V.int) (some 2) (some 63)).length ≤ 63 := by
      have h1 : (cutV (ns.map V.int) (some 2) (some 63)).length ≤ (ns.map V.int).length := by
        unfold cutV
        exact Nat.le_trans (List.length_take_le' _ _) (by rw [List.length_drop]; omega)
      rw [List.length_map] at h1
      omega
    refine ⟨sc, _, rfl, hS, fun b hb => ?_⟩
    generalize cutV (ns.map V.int) (some 2) (some 63) = cs at ci cl
    have sb := Same.put (o := .lst cs) hb
    have hb2 : upd H b (HO.lst cs) b = some (.lst cs) := upd_same
    generalize upd H b (HO.lst cs) = H1 at sb hb2
    refine ⟨b, rfl, ⟨_, .of hb2⟩, fun D hD => lc_lstR (fun i y H2 => ∃ p r, y = .ref p ∧ RowAt H0 H2 p r ∧ r.ok) (fun i y H2 H3 h s => ?_) hD (.of hb2) (by omega) (fun i x H2 zs R ex s2 hD2 h => ?_) fun H2 ys s2 hD2 hyl hr2 => ?_⟩
    · obtain ⟨p, r, e, h1, h2⟩ := h
      exact ⟨p, r, e, h1.same s, h2⟩
    · dsimp! [lcSlots, sp_log_row]
      obtain ⟨z1, rfl⟩ := ci x (List.mem_of_getElem? ex)
      exact ⟨_, rfl, z1, rfl, fr, rfl, fun H3 p r s3 h3 ho => h (.ref p) H3 s3 ⟨p, r, rfl, (h3.hid hD2 s3 (.refl _)).any, ho⟩⟩
    obtain ⟨ps, rs, rfl, hR, ho⟩ := rows_of ys hr2
    rw [List.length_map] at hyl
    have hpl := hR.1
    have s2 : Same H H2 := sb.trans s2
    clear hr2
    refine bodyT.of (@pss_cons _ _ _ _ _ (ps_set (i := 3) sc_law.nd rfl (Or.inl rfl) (@pe_bm _ _ _ _ _ _ _ _ _ _ _ _ PySem.F.plainAttrs_str PySem.F.slot_str_join PySem.F.type_str_join mt_join pe_str (@pa_cons _ _ _ _ _ (pe_lc rfl (lcok (x := "_law_row_here") (ns := []) (fr := []) rfl (by decide +kernel) rfl (by decide +kernel) rfl (List.forall_mem_nil _) rfl rfl (List.forall_mem_nil _) (by decide +kernel)) (pi_list (pv 2)) (fun _ _ _ _ => (pe_call (ok_law_log_text T) (hr.mono (by decide)) rfl T.m_law_log_text T.f_law_log_text.kp T.b_law_log_text .nil pass0 (@pa_cons _ _ _ _ _ (pv 0) pa_nil (by rfl)))) (fun _ _ _ _ => .nil)) pa_nil (by rfl)) (by rfl) (by rfl) (by rfl) (by rfl) (by rfl))) pss_bodyT) ?_
    dsimp! []
    refine ⟨rfl, ⟨_, .of hD2⟩, fun D2 hE => lc_lstS ((rs.map Row.tx).map V.str) hE (.of hD2) (by simp [hpl]) (by simp; omega) (fun i x y H3 R e1 e2 s3 h => ?_) fun H3 s3 hE3 => ⟨_, .of hE3, ?_, ?_⟩⟩
    · dsimp! [lcSlots, sp_log_text]
      rw [List.getElem?_map, Option.map_eq_some_iff] at e1
      obtain ⟨p, e1, rfl⟩ := e1
      rw [List.getElem?_map, List.getElem?_map, Option.map_map, Option.map_eq_some_iff] at e2
      obtain ⟨r, e2, rfl⟩ := e2
      exact ⟨p, rfl, r, (hR.2 i p r e1 e2).same s3, ho r (List.mem_of_getElem? e2), fun H4 s4 => h H4 s4⟩
    · have := logT_sum ho
      rw [show (Str.ofString "\n").length = 1 from rfl, List.length_map]
      omega
    rw [txt_join, show (Str.ofString "\n").join (rs.map Row.tx) = logT rs from rfl]
    have hD3 := s3 _ _ hD2
    have hR3 := hR.same s3
    have s3 := s2.trans s3
    refine bodyT.of (@pss_cons _ _ _ _ _ (ps_lc (j := 4) rfl sc_law.nd rfl rfl (lcok (x := "_law_row_here") (ns := []) (fr := []) rfl (by decide +kernel) rfl (by decide +kernel) rfl (List.forall_mem_nil _) rfl rfl (List.forall_mem_nil _) (by decide +kernel)) (pi_list (pv 2)) (fun _ _ _ _ => (pe_callTy (call_tuple_ofC (K := K) rfl) rfl T.n_tuple bt_tuple (@pa_cons _ _ _ _ _ (pe_lc rfl (lcok (x := "_law_part") (ns := []) (fr := []) rfl (by decide +kernel) rfl (by decide +kernel) rfl (List.forall_mem_nil _) rfl rfl (List.forall_mem_nil _) (by decide +kernel)) (pi_tupC (K := K) rfl (pv 0)) (fun _ _ _ _ => (pe_ifExp (pt_val (pe_callB (call_isinstSC (K := K) rfl) rfl T.n_isinstance bt_isinstance (@pa_cons _ _ _ _ _ (pv 0) (@pa_cons _ _ _ _ _ (pe_bltn (v := .ty "list") rfl T.n_list bt_list rfl) pa_nil (by rfl)) (by rfl)))) (pe_callTy (call_list_ofC (K := K) rfl) rfl T.n_list bt_list (@pa_cons _ _ _ _ _ (pv 0) pa_nil (by rfl))) (pv 0))) (fun _ _ _ _ => .nil)) pa_nil (by rfl)))) (fun _ _ _ _ => .nil)) pss_bodyT) ?_
    dsimp! []
    refine ⟨⟨_, .of hD3⟩, fun D3 hG => lc_lstR (fun i y H4 => ∃ p r, y = .ref p ∧ rs[i]? = some r ∧ RowAt H0 H4 p r) (fun i y H4 H5 h s => ?_) hG (.of hD3) (by rw [List.length_map]; omega) (fun i x H4 zs R ex s4 hG4 h => ?_) fun H4 ys s4 hG4 hyl4 hr4 => ?_⟩
    · obtain ⟨p, r, e, h1, h2⟩ := h
      exact ⟨p, r, e, h1, h2.same s⟩
    · dsimp! [lcSlots]
      rw [List.getElem?_map, Option.map_eq_some_iff] at ex
      obtain ⟨p, ex, rfl⟩ := ex
      have hi := (List.getElem?_eq_some_iff.mp ex).1
      have en : rs[i]? = some (rs[i]'(by omega)) := List.getElem?_eq_getElem (by omega)
      generalize rs[i]'(by omega) = r at en
      have hr5 := (hR3.2 i p r ex en).same s4
      obtain ⟨items, hp5, hi8, hit, hcp⟩ := hr5.items (ho r (List.mem_of_getElem? en))
      refine ⟨p, rfl, ⟨_, .of hp5⟩, fun D hD => lc_tupR (CopyV H4 items) (fun i y H5 H6 h s => h.same s) hD (.of hp5) (by omega) (fun j v H5 zs5 R5 ev s5 hD5 h5 => ?_) fun H5 ys5 s5 hD5 hl5 hc5 => ?_⟩
      · dsimp! [lcSlots]
        rcases hit v (List.mem_of_getElem? ev) with ⟨z1, rfl⟩ | ⟨q1, zs1, rfl, hq1⟩ | ⟨d, xs, rfl, hd⟩
        · refine ⟨_, .ty (.str _), false, kit_str_list K, ?_⟩
          rw [if_neg (by decide)]
          exact h5 _ H5 (.refl _) ⟨_, ev, .inl ⟨rfl, fun q e => nomatch e⟩⟩
        · refine ⟨_, .lst (.of (s5 _ _ hq1)), true, kit_same K _, ?_⟩
          rw [if_pos rfl]
          exact ⟨q1, rfl, zs1, .inl (.of (s5 _ _ hq1)), fun l1 hl1 => h5 (.ref l1) _ (.put hl1) ⟨_, ev, .inr ⟨q1, zs1, l1, rfl, hq1, rfl, by rw [hid_ne (ne_of_none hD5 hl1).symm, upd_same], s5.free hl1⟩⟩⟩
        · refine ⟨_, .tup (.of (s5 _ _ hd)), false, kit_tup_list K, ?_⟩
          rw [if_neg (by decide)]
          exact h5 _ H5 (.refl _) ⟨_, ev, .inl ⟨rfl, fun q e => by cases e; exact ⟨xs, hd⟩⟩⟩
      · have s6 : ∀ l1, H5 l1 = none → Same H4 (upd H5 l1 (.tup ys5)) := fun l1 hl1 => s5.trans (.put hl1)
        refine ⟨_, .inl ⟨.of hD5, fun l1 hl1 => h (.ref l1) _ (s6 l1 hl1) ⟨l1, r, rfl, en, ?_⟩⟩⟩
        exact ((hcp _ l1 ys5 (s6 l1 hl1) hl5 (fun j y e => (hc5 j y e).same (.put hl1)) upd_same).hid hG4 (s6 l1 hl1) (.refl _)).any
    obtain ⟨ps2, rfl, _⟩ := refs_of ys fun j y e => (hr4 j y e).imp fun p h => h.elim fun r h => h.1
    rw [List.length_map, List.length_map] at hyl4
    have hR4 : RowsAt H0 H4 ps2 rs := ⟨by omega, fun i p r e1 e2 => by
      obtain ⟨p3, r3, e3, e4, h4⟩ := hr4 i (.ref p) (by rw [List.getElem?_map, e1]; rfl)
      cases e3
      rw [e2] at e4
      cases e4
      exact h4⟩
    clear hr4
    have hD4 := s4 _ _ hD3
    have hL4 := hR3.same s4
    have s4 := s3.trans s4
    have hrl : rs.length ≤ 63 := by omega
    refine bodyT.of (@pss_cons _ _ _ _ _ (ps_set (i := 5) sc_law.nd rfl (Or.inl rfl) (pe_call (ok_log_shown T) (hr.mono (by decide)) rfl T.m_log_shown T.f_log_shown.kp T.b_log_shown .nil pass0 (@pa_cons _ _ _ _ _ (pv 4) pa_nil (by rfl)))) pss_bodyT) ?_
    dsimp! [sp_log_shown]
    refine ⟨_, hG4, rs, hR4, by omega, ho, fun H5 s5 => ?_⟩
    have hG5 := s5 _ _ hG4
    have hR5 := hR4.same s5
    have hD5 := s5 _ _ hD4
    have hL5 := hL4.same s5
    have s5 := s4.trans s5
    refine bodyT.of (@pss_cons _ _ _ _ _ (ps_if (PW.pt (pw_or (pt_not (pt_val (pe_callB call_isinst rfl T.n_isinstance bt_isinstance (@pa_cons _ _ _ _ _ (pv 5) (@pa_cons _ _ _ _ _ (pe_bltn (v := .ty "str") rfl T.n_str bt_str rfl) pa_nil (by rfl)) (by rfl))))) (pw_or (pt_cmpR op_ne (pv 5) (pv 3) (nomark _)) (pw_or1 (pt_cmpR (op_neD hr.units) (pv 4) (pv 2) (nomark _)))))) (@pss_one _ _ _ (@ps_ret _ _ _ _ pe_bl)) pss_nil) pss_bodyT) ?_
    dsimp! []
    refine ⟨_, .str _, true, kit_same K _, ?_⟩
    rw [if_neg (by decide)]
    refine ⟨_, _, hR5.isD hG5 ho, hL5.isD hD5 ho, logD_dep rs, _, rfl, ?_⟩
    rw [if_pos rfl, deq_refl, if_neg (by decide)]
    refine bodyT.of (@pss_cons _ _ _ _ _ (ps_set (i := 6) sc_law.nd rfl (Or.inl rfl) (pe_call (ok_log_read T) (hr.mono (by decide)) rfl T.m_log_read T.f_log_read.kp T.b_log_read .nil pass0 (@pa_cons _ _ _ _ _ (pv 3) pa_nil (by rfl)))) pss_bodyT) ?_
    dsimp! [sp_log_read]
    refine ⟨rs, rfl, by omega, ho, fun H6 l6 ps6 s6 hf6 hl6 hR6 => ?_⟩
    have hR6b : RowsAt H5 H6 ps6 rs := hR6.same (hid_same _ _)
    refine bodyT.of (@pss_cons _ _ _ _ _ (ps_if (PW.pt (pw_or (pt_not (pt_val (pe_callB call_isinst rfl T.n_isinstance bt_isinstance (@pa_cons _ _ _ _ _ (pv 6) (@pa_cons _ _ _ _ _ (pe_bltn (v := .ty "list") rfl T.n_list bt_list rfl) pa_nil (by rfl)) (by rfl))))) (pw_or (pt_cmpR (op_neD hr.units) (pv 6) (pv 2) (nomark _)) (pw_or1 (pt_not (pt_val (pe_call (ok_law_form T) (hr.mono (by decide)) rfl T.m_law_form T.f_law_form.kp T.b_law_form .nil pass0 (@pa_cons _ _ _ _ _ (pv 6) pa_nil (by rfl))))))))) (@pss_one _ _ _ (@ps_ret _ _ _ _ pe_bl)) pss_nil) pss_bodyT) ?_
    dsimp! [sp_form]
    refine ⟨_, .lst hl6, true, kit_same K _, ?_⟩
    rw [if_neg (by decide)]
    refine ⟨_, _, hR6b.isD hl6 ho, (hL5.same s6).isD (s6 _ _ hD5) ho, logD_dep rs, _, rfl, ?_⟩
    rw [if_pos rfl, deq_refl, if_neg (by decide)]
    refine ⟨_, hl6, rs, hR6b.any, ho, by omega, fun H7 s7 => ?_⟩
    have hpl6 := hR6.1
    have mi0 : MI H5 H6 l6 (ps6.map V.ref) 0 H7 := ⟨s6.trans s7, s7 _ _ hl6, fun b xs e => s7 _ _ e, fun q2 zs e1 e2 _ _ => ⟨zs, s7 _ _ e1, e2⟩⟩
    refine bodyT.of (@pss_cons _ _ _ _ _ (ps_forW PassesOwn.never rfl (pi_list (pv 6)) (pg_name (i := 7) sc_law.nd rfl (Or.inl rfl)) pss_bodyT) pss_bodyT) ?_
    dsimp! []
    refine ⟨⟨_, .of mi0.at_⟩, fw_list (ps6.map V.ref) (fun i σ' H' => MI H5 H6 l6 (ps6.map V.ref) (7 * i) H' ∧ ∃ o7 o8 : Option V, σ' = [some (.ref sc), some (.bl fr), some (.ref D), some (.str (logT rs)), some (.ref D3), some (.str (logT rs)), some (.ref l6), o7, o8]) ⟨mi0, none, none, rfl⟩ ?_ ?_ ?_⟩
    · rintro i σ' H' _ ⟨mi, _⟩
      exact .of mi.at_
    · rintro i x σ' H' hi ⟨mi, o7, o8, rfl⟩
      rw [List.getElem?_map, Option.map_eq_some_iff] at hi
      obtain ⟨p, hi, rfl⟩ := hi
      have hil := (List.getElem?_eq_some_iff.mp hi).1
      have en : rs[i]? = some (rs[i]'(by omega)) := List.getElem?_eq_getElem (by omega)
      generalize rs[i]'(by omega) = r at en
      obtain ⟨w1, vs, hp, hv7, hvs⟩ := (hR6.2 i p r hi en).parts (ho r (List.mem_of_getElem? en))
      have hp1 := mi.tups _ _ (hid_same _ _ _ _ hp)
      refine gN ?_
      refine bodyT.of (@pss_one _ _ _ (ps_forW PassesOwn.never rfl (pi_tup (pe_slice sl_tup (pv 7) (po_some pe_int) po_none)) (pg_name (i := 8) sc_law.nd rfl (Or.inl rfl)) pss_bodyT)) ?_
      dsimp! []
      refine ⟨p, _, rfl, .of hp1, ?_, fun p2 hp2 => ?_⟩
      · rw [HT.sIx_none, show (some (1 : Int)) = some ((1 : Nat) : Int) from rfl, HT.sIx_nat]
        simp
      rw [cut_tail]
      have mi2 := mi.ext (.put (o := .tup vs) hp2)
      have hp3 : upd H' p2 (HO.tup vs) p2 = some (.tup vs) := upd_same
      generalize upd H' p2 (HO.tup vs) = H8 at mi2 hp3
      refine ⟨p2, rfl, ⟨_, .of hp3⟩, fw_tup vs (fun j σ2 H9 => MI H5 H6 l6 (ps6.map V.ref) (7 * i + j) H9 ∧ H9 p2 = some (.tup vs) ∧ ∃ o8 : Option V, σ2 = [some (.ref sc), some (.bl fr), some (.ref D), some (.str (logT rs)), some (.ref D3), some (.str (logT rs)), some (.ref l6), some (.ref p), o8]) ⟨mi2, hp3, o8, rfl⟩ ?_ ?_ ?_⟩
      · rintro j σ2 H9 _ ⟨_, h, _⟩
        exact .of h
      · rintro j x σ2 H9 hj ⟨mi3, hp4, o9, rfl⟩
        have hjl := (List.getElem?_eq_some_iff.mp hj).1
        refine gN ?_
        refine bodyT.of (@pss_one _ _ _ (ps_if (pt_val (pe_callB call_isinst rfl T.n_isinstance bt_isinstance (@pa_cons _ _ _ _ _ (pv 8) (@pa_cons _ _ _ _ _ (pe_bltn (v := .ty "list") rfl T.n_list bt_list rfl) pa_nil (by rfl)) (by rfl)))) (@pss_one _ _ _ (ps_expr (@pe_bm _ _ _ _ _ _ _ _ _ _ _ _ PySem.F.plainAttrs_list PySem.F.slot_list_append PySem.F.type_list_append mt_append (pv 8) (@pa_cons _ _ _ _ _ pe_str pa_nil (by rfl)) (by rfl) (by rfl) (by rfl) (by rfl) (by rfl)))) pss_nil)) ?_
        dsimp! []
        rcases hvs x (List.mem_of_getElem? hj) with ⟨q1, ns1, rfl, h1, h2, h5, _⟩ | ⟨_, ⟨d, xs, rfl, h1⟩ | ⟨z1, rfl⟩⟩
        · have nq : q1 ≠ l6 := fun e => by
            unfold hid at h1
            rw [if_pos e] at h1
            cases h1
          rw [hid_ne nq] at h1
          obtain ⟨zs2, k1, k2⟩ := mi3.lsts q1 _ h1 (by unfold nI; rw [List.length_map]; exact h5) h2 nq
          refine ⟨_, .lst k1, true, kit_same K _, ?_⟩
          rw [if_pos rfl]
          refine ⟨.inl ⟨rfl, _, .of k1⟩, q1, _, _, rfl, rfl, k1, small1000 (by omega), mi3.more h1 h2 nq k2 _, ?_, _, rfl⟩
          have : p2 ≠ q1 := fun e => by
            rw [e, k1] at hp4
            cases hp4
          rw [upd_ne this]
          exact hp4
        · refine ⟨_, .tup (mi3.tups _ _ (hid_same _ _ _ _ h1)), false, kit_tup_list K, ?_⟩
          rw [if_neg (by decide)]
          exact ⟨mi3.mono (by omega), hp4, _, rfl⟩
        · refine ⟨_, .str _, false, kit_str_list K, ?_⟩
          rw [if_neg (by decide)]
          exact ⟨mi3.mono (by omega), hp4, _, rfl⟩
      · rintro σ2 H9 ⟨mi3, hp4, o9, rfl⟩
        exact ⟨mi3.mono (by omega), some (.ref p), o9, rfl⟩
    rintro σ' H8 ⟨mi, o7, o8, rfl⟩
    have hD8 := mi.same _ _ hD5
    have hL8 := hL5.same mi.same
    have hG8 := mi.same _ _ hG5
    have hR8 := hR5.same mi.same
    refine bodyT.of (@pss_cons _ _ _ _ _ (ps_expr (@pe_bm _ _ _ _ _ _ _ _ _ _ _ _ PySem.F.plainAttrs_list PySem.F.slot_list_append PySem.F.type_list_append mt_append (pv 6) (@pa_cons _ _ _ _ _ pe_str pa_nil (by rfl)) (by rfl) (by rfl) (by rfl) (by rfl) (by rfl))) pss_bodyT) ?_
    dsimp! []
    refine ⟨.inl ⟨rfl, _, .of mi.at_⟩, l6, _, _, rfl, rfl, mi.at_, small1000 (by rw [List.length_map]; omega), ?_⟩
    have s9 : Same H5 (upd H8 l6 (HO.lst (ps6.map V.ref ++ [V.str "more"]))) := .putD mi.same hf6
    generalize upd H8 l6 (HO.lst (List.map V.ref ps6 ++ [V.str (Str.ofString "more")])) = H9 at s9
    refine bodyT.of (@pss_cons _ _ _ _ _ (ps_if (PW.pt (pw_or (pt_cmpR (op_neD hr.units) (pe_call (ok_log_read T) (hr.mono (by decide)) rfl T.m_log_read T.f_log_read.kp T.b_log_read .nil pass0 (@pa_cons _ _ _ _ _ pe_str pa_nil (by rfl))) (pe_lst pa_nil) (nomark _)) (pw_or (pt_cmpR op_ne (pe_call (ok_log_shown T) (hr.mono (by decide)) rfl T.m_log_shown T.f_log_shown.kp T.b_log_shown .nil pass0 (@pa_cons _ _ _ _ _ (pe_lst pa_nil) pa_nil (by rfl))) pe_str (nomark _)) (pw_or1 (pt_cmpR (op_neD hr.units) (pe_call (ok_log_read T) (hr.mono (by decide)) rfl T.m_log_read T.f_log_read.kp T.b_log_read .nil pass0 (@pa_cons _ _ _ _ _ pe_str pa_nil (by rfl))) (pe_lst (@pa_cons _ _ _ _ _ (pe_tup (@pa_cons _ _ _ _ _ pe_str pa_nil (by rfl))) pa_nil (by rfl))) (nomark _)))))) (@pss_one _ _ _ (@ps_ret _ _ _ _ pe_bl)) pss_nil) pss_bodyT) ?_
    dsimp! [sp_log_read, sp_log_shown]
    refine ⟨[], log0.symm, by decide, (fun _ h => nomatch h), fun H10 l10 ps10 s10 _ hl10 hR10 p11 hp11 => ?_⟩
    have s11 := Same.put (o := .lst []) hp11
    refine ⟨logD [], .lst [], ((hR10.same (hid_same _ _)).same s11).isD (s11 _ _ hl10) (fun _ h => nomatch h), .lst (xs := []) (.of upd_same) rfl (fun _ _ _ h => nomatch h), logD_dep [], _, rfl, ?_⟩
    rw [if_pos rfl, show deq (logD []) (.lst []) = true from deq_refl (.lst []), if_neg (by decide)]
    have s11 := (s9.trans s10).trans s11
    generalize upd H10 p11 (HO.lst []) = H11 at s11
    refine fun p12 hp12 => ⟨[], upd_same, [], ⟨rfl, (fun _ _ _ h => nomatch h)⟩, by decide, (fun _ h => nomatch h), fun H13 s13 => ?_⟩
    have s13 := (s11.trans (.put hp12)).trans s13
    rw [log0, if_neg (by decide +kernel)]
    have hb1 : (Row.nums "begin" []).ok := ⟨.inr (.inr ⟨by decide +kernel, rfl⟩), (fun _ h => nomatch h)⟩
    have hb2 : ∀ r ∈ [Row.nums "begin" []], r.ok := fun r hr => by
      rw [List.mem_singleton.mp hr]
      exact hb1
    refine ⟨[.nums "begin" []], log1.symm, (by decide : 1 ≤ 100), hb2, fun H14 l14 ps14 s14 _ hl14 hR14 => ⟨by rw [sizeLine_eq]; decide, fun p15 hp15 => ⟨by rw [sizeLine_eq]; decide, fun p16 hp16 => ?_⟩⟩⟩
    have s16 := (Same.put (o := .tup [V.str "begin"]) hp15).trans (Same.put (o := .lst [V.ref p15]) hp16)
    refine ⟨logD [.nums "begin" []], .lst [.tup [.str "begin"]], ((hR14.same (hid_same _ _)).same s16).isD (s16 _ _ hl14) hb2, .lst (xs := [.ref p15]) (.of upd_same) rfl (fun i x d e1 e2 => ?_), logD_dep _, _, rfl, ?_⟩
    · rcases i with _ | i
      · cases e1
        cases e2
        refine .tup (xs := [.str "begin"]) (.of (Same.put hp16 _ _ upd_same)) rfl (fun i x d e1 e2 => ?_)
        rcases i with _ | i
        · cases e1
          cases e2
          exact .str _
        · cases e1
      · cases e1
    rw [if_pos rfl, show deq (logD [.nums "begin" []]) (.lst [.tup [.str "begin"]]) = true from deq_refl (.lst [.tup [.str "begin"]]), if_neg (by decide)]
    have s17 := (s13.trans s14).trans s16
    generalize upd (upd H14 p15 (HO.tup [V.str (Str.ofString "begin")])) p16 (HO.lst [V.ref p15]) = H17 at s17
    refine bodyT.of (@pss_one _ _ _ (@ps_ret _ _ _ _ (pe_and (pe_cmpR (op_eqD hr.units) (pe_call (ok_log_read T) (hr.mono (by decide)) rfl T.m_log_read T.f_log_read.kp T.b_log_read .nil pass0 (@pa_cons _ _ _ _ _ (pv 3) pa_nil (by rfl))) (pv 2) (nomark _)) (pe_one (pe_cmpR op_eq (pe_call (ok_log_shown T) (hr.mono (by decide)) rfl T.m_log_shown T.f_log_shown.kp T.b_log_shown .nil pass0 (@pa_cons _ _ _ _ _ (pv 4) pa_nil (by rfl))) (pv 3) (nomark _)))))) ?_
    dsimp! [sp_log_read, sp_log_shown]
    refine ⟨rs, rfl, by omega, ho, fun H18 l18 ps18 s18 _ hl18 hR18 => ?_⟩
    have s19 := s17.trans s18
    refine ⟨_, _, (hR18.same (hid_same _ _)).isD hl18 ho, (hL5.same s19).isD (s19 _ _ hD5) ho, logD_dep rs, _, rfl, ?_⟩
    rw [deq_refl, if_pos (by decide)]
    refine ⟨_, s19 _ _ hG5, rs, hR5.same s19, by omega, ho, fun H20 _ => ?_⟩
    rw [decide_eq_true rfl]
    exact q _
end
theorem all_mk {l : PySem.W.OpenLaw} {w : World} {K : PySem.W.Frag} {h : Heap} {mg : Str → Option Value} {fa : Addr} (X : K.In h) (G : h.Ns mainGlobals mg) (hfa : mg "law" = some (.ref fa))
    {f_is_root f_is_number f_part_read f_deed_read f_deed_shown f_serials_shown f_row_shown f_log_shown f_log_read f_row_read f_freed_read f_turn_read f_parted f_serials_read f_deed_row_read f_law_whole f_law_cell_at f_law_drawn f_law_deed_by f_law_row f_law_numbers f_law_log_row f_law_log_text f_law_form f_law C_HeapError C_NoDeed C_NoLog : Addr}
    {t_MOST_FIELDS t_MOST_FIGURES t_FIGURES t_ARROW t_LISTS_OF_A_TURN tk_ANSWERS_0 tk_ANSWERS_1 tk_ANSWERS_2 tk_ANSWERS_3 tk_ANSWERS_4 tk_ANSWERS_5 tk_ANSWERS_6 tk_ANSWERS_7 tk_ANSWERS_8 tk_BARE_0 tk_BARE_1 tk_BARE_2 : Tok}
    {t_PARTS t_ANSWERS t_BARE : Addr}
    {u_PARTS_0 u_PARTS_1 u_PARTS_2 u_PARTS_3 u_PARTS_4 u_PARTS_5 u_PARTS_6 u_PARTS_7 u_PARTS_8 u_PARTS_9 u_PARTS_10 u_PARTS_11 u_PARTS_12 u_PARTS_13 : Addr} {ts_PARTS_0 ts_PARTS_1 ts_PARTS_2 ts_PARTS_3 ts_PARTS_4 ts_PARTS_5 ts_PARTS_6 ts_PARTS_7 ts_PARTS_8 ts_PARTS_9 ts_PARTS_10 ts_PARTS_11 ts_PARTS_12 ts_PARTS_13 : Array (Option Value)} {tn_PARTS_0 tn_PARTS_1 tn_PARTS_2 tn_PARTS_3 tn_PARTS_4 tn_PARTS_5 tn_PARTS_6 tn_PARTS_7 tn_PARTS_8 tn_PARTS_9 tn_PARTS_10 tn_PARTS_11 tn_PARTS_12 tn_PARTS_13 : Nat} {ep_PARTS : Nat} {hs_PARTS_0 hs_PARTS_1 hs_PARTS_2 hs_PARTS_3 hs_PARTS_4 hs_PARTS_5 hs_PARTS_6 hs_PARTS_7 hs_PARTS_8 hs_PARTS_9 hs_PARTS_10 hs_PARTS_11 hs_PARTS_12 hs_PARTS_13 : Int} {kt_PARTS_0 kt_PARTS_1 kt_PARTS_2 kt_PARTS_3 kt_PARTS_4 kt_PARTS_5 kt_PARTS_6 kt_PARTS_7 kt_PARTS_8 kt_PARTS_9 kt_PARTS_10 kt_PARTS_11 kt_PARTS_12 kt_PARTS_13 : Tok} {tk_PARTS_0_0 tk_PARTS_0_1 tk_PARTS_1_0 tk_PARTS_1_1 tk_PARTS_2_0 tk_PARTS_2_1 tk_PARTS_3_0 tk_PARTS_3_1 tk_PARTS_3_2 tk_PARTS_4_0 tk_PARTS_4_1 tk_PARTS_5_0 tk_PARTS_5_1 tk_PARTS_5_2 tk_PARTS_6_0 tk_PARTS_6_1 tk_PARTS_6_2 tk_PARTS_7_0 tk_PARTS_7_1 tk_PARTS_8_0 tk_PARTS_8_1 tk_PARTS_8_2 tk_PARTS_9_0 tk_PARTS_9_1 tk_PARTS_10_0 tk_PARTS_11_0 tk_PARTS_12_0 tk_PARTS_12_1 tk_PARTS_13_0 : Tok}
    {tn_ANSWERS tn_BARE : Nat} {ts_ANSWERS ts_BARE : Array (Option Value)}
    {od_is_root an_is_root od_is_number an_is_number od_part_read an_part_read od_deed_read an_deed_read od_deed_shown an_deed_shown od_serials_shown an_serials_shown od_row_shown an_row_shown od_log_shown an_log_shown od_log_read an_log_read od_row_read an_row_read od_freed_read an_freed_read od_turn_read an_turn_read od_parted an_parted od_serials_read an_serials_read od_deed_row_read an_deed_row_read od_law_whole an_law_whole od_law_cell_at an_law_cell_at od_law_drawn an_law_drawn od_law_deed_by an_law_deed_by od_law_row an_law_row od_law_numbers an_law_numbers od_law_log_row an_law_log_row od_law_log_text an_law_log_text od_law_form an_law_form od_law an_law : Option Addr}
    {sl_is_root sl_is_number sl_part_read sl_deed_read sl_deed_shown sl_serials_shown sl_row_shown sl_log_shown sl_log_read sl_row_read sl_freed_read sl_turn_read sl_parted sl_serials_read sl_deed_row_read sl_law_whole sl_law_cell_at sl_law_drawn sl_law_deed_by sl_law_row sl_law_numbers sl_law_log_row sl_law_log_text sl_law_form sl_law : Array (Option Value)}
    {oc_is_root kV_is_root dc_is_root pm_is_root cd_is_root ct_is_root oc_is_number kV_is_number dc_is_number pm_is_number cd_is_number ct_is_number oc_part_read kV_part_read dc_part_read pm_part_read cd_part_read ct_part_read oc_deed_read kV_deed_read dc_deed_read pm_deed_read cd_deed_read ct_deed_read oc_deed_shown kV_deed_shown dc_deed_shown pm_deed_shown cd_deed_shown ct_deed_shown oc_serials_shown kV_serials_shown dc_serials_shown pm_serials_shown cd_serials_shown ct_serials_shown oc_row_shown kV_row_shown dc_row_shown pm_row_shown cd_row_shown ct_row_shown oc_log_shown kV_log_shown dc_log_shown pm_log_shown cd_log_shown ct_log_shown oc_log_read kV_log_read dc_log_read pm_log_read cd_log_read ct_log_read oc_row_read kV_row_read dc_row_read pm_row_read cd_row_read ct_row_read oc_freed_read kV_freed_read dc_freed_read pm_freed_read cd_freed_read ct_freed_read oc_turn_read kV_turn_read dc_turn_read pm_turn_read cd_turn_read ct_turn_read oc_parted kV_parted dc_parted pm_parted cd_parted ct_parted oc_serials_read kV_serials_read dc_serials_read pm_serials_read cd_serials_read ct_serials_read oc_deed_row_read kV_deed_row_read dc_deed_row_read pm_deed_row_read cd_deed_row_read ct_deed_row_read oc_law_whole kV_law_whole dc_law_whole pm_law_whole cd_law_whole ct_law_whole oc_law_cell_at kV_law_cell_at dc_law_cell_at pm_law_cell_at cd_law_cell_at ct_law_cell_at oc_law_drawn kV_law_drawn dc_law_drawn pm_law_drawn cd_law_drawn ct_law_drawn oc_law_deed_by kV_law_deed_by dc_law_deed_by pm_law_deed_by cd_law_deed_by ct_law_deed_by oc_law_row kV_law_row dc_law_row pm_law_row cd_law_row ct_law_row oc_law_numbers kV_law_numbers dc_law_numbers pm_law_numbers cd_law_numbers ct_law_numbers oc_law_log_row kV_law_log_row dc_law_log_row pm_law_log_row cd_law_log_row ct_law_log_row oc_law_log_text kV_law_log_text dc_law_log_text pm_law_log_text cd_law_log_text ct_law_log_text oc_law_form kV_law_form dc_law_form pm_law_form cd_law_form ct_law_form oc_law kV_law dc_law pm_law cd_law ct_law : Value}
    (cc_HeapError : PySem.W.nsIn K mainGlobals "HeapError" = some (some (.ref C_HeapError)))
    (cc_NoDeed : PySem.W.nsIn K mainGlobals "NoDeed" = some (some (.ref C_NoDeed)))
    (cc_NoLog : PySem.W.nsIn K mainGlobals "NoLog" = some (some (.ref C_NoLog)))
    (a_is_root : PySem.W.nsIn K mainGlobals "is_root" = some (some (.ref f_is_root)))
    (l_is_root : K.lookup f_is_root = some ⟨oc_is_root, od_is_root, .func (PySem.W.fnOf "is_root" "is_root" (defArgs s_is_root) (defBody s_is_root) (defScope s_is_root) .none kV_is_root dc_is_root pm_is_root an_is_root cd_is_root ct_is_root), sl_is_root⟩)
    (co_is_root : PySem.W.codeIn K cd_is_root "is_root" = true)
    (k_is_root : PySem.W.keepIn K (.ref f_is_root) = true)
    (a_is_number : PySem.W.nsIn K mainGlobals "is_number" = some (some (.ref f_is_number)))
    (l_is_number : K.lookup f_is_number = some ⟨oc_is_number, od_is_number, .func (PySem.W.fnOf "is_number" "is_number" (defArgs s_is_number) (defBody s_is_number) (defScope s_is_number) .none kV_is_number dc_is_number pm_is_number an_is_number cd_is_number ct_is_number), sl_is_number⟩)
    (co_is_number : PySem.W.codeIn K cd_is_number "is_number" = true)
    (k_is_number : PySem.W.keepIn K (.ref f_is_number) = true)
    (a_part_read : PySem.W.nsIn K mainGlobals "part_read" = some (some (.ref f_part_read)))
    (l_part_read : K.lookup f_part_read = some ⟨oc_part_read, od_part_read, .func (PySem.W.fnOf "part_read" "part_read" (defArgs s_part_read) (defBody s_part_read) (defScope s_part_read) .none kV_part_read dc_part_read pm_part_read an_part_read cd_part_read ct_part_read), sl_part_read⟩)
    (co_part_read : PySem.W.codeIn K cd_part_read "part_read" = true)
    (k_part_read : PySem.W.keepIn K (.ref f_part_read) = true)
    (a_deed_read : PySem.W.nsIn K mainGlobals "deed_read" = some (some (.ref f_deed_read)))
    (l_deed_read : K.lookup f_deed_read = some ⟨oc_deed_read, od_deed_read, .func (PySem.W.fnOf "deed_read" "deed_read" (defArgs s_deed_read) (defBody s_deed_read) (defScope s_deed_read) .none kV_deed_read dc_deed_read pm_deed_read an_deed_read cd_deed_read ct_deed_read), sl_deed_read⟩)
    (co_deed_read : PySem.W.codeIn K cd_deed_read "deed_read" = true)
    (k_deed_read : PySem.W.keepIn K (.ref f_deed_read) = true)
    (a_deed_shown : PySem.W.nsIn K mainGlobals "deed_shown" = some (some (.ref f_deed_shown)))
    (l_deed_shown : K.lookup f_deed_shown = some ⟨oc_deed_shown, od_deed_shown, .func (PySem.W.fnOf "deed_shown" "deed_shown" (defArgs s_deed_shown) (defBody s_deed_shown) (defScope s_deed_shown) .none kV_deed_shown dc_deed_shown pm_deed_shown an_deed_shown cd_deed_shown ct_deed_shown), sl_deed_shown⟩)
    (co_deed_shown : PySem.W.codeIn K cd_deed_shown "deed_shown" = true)
    (k_deed_shown : PySem.W.keepIn K (.ref f_deed_shown) = true)
    (a_serials_shown : PySem.W.nsIn K mainGlobals "serials_shown" = some (some (.ref f_serials_shown)))
    (l_serials_shown : K.lookup f_serials_shown = some ⟨oc_serials_shown, od_serials_shown, .func (PySem.W.fnOf "serials_shown" "serials_shown" (defArgs s_serials_shown) (defBody s_serials_shown) (defScope s_serials_shown) .none kV_serials_shown dc_serials_shown pm_serials_shown an_serials_shown cd_serials_shown ct_serials_shown), sl_serials_shown⟩)
    (co_serials_shown : PySem.W.codeIn K cd_serials_shown "serials_shown" = true)
    (k_serials_shown : PySem.W.keepIn K (.ref f_serials_shown) = true)
    (a_row_shown : PySem.W.nsIn K mainGlobals "row_shown" = some (some (.ref f_row_shown)))
    (l_row_shown : K.lookup f_row_shown = some ⟨oc_row_shown, od_row_shown, .func (PySem.W.fnOf "row_shown" "row_shown" (defArgs s_row_shown) (defBody s_row_shown) (defScope s_row_shown) .none kV_row_shown dc_row_shown pm_row_shown an_row_shown cd_row_shown ct_row_shown), sl_row_shown⟩)
    (co_row_shown : PySem.W.codeIn K cd_row_shown "row_shown" = true)
    (k_row_shown : PySem.W.keepIn K (.ref f_row_shown) = true)
    (a_log_shown : PySem.W.nsIn K mainGlobals "log_shown" = some (some (.ref f_log_shown)))
    (l_log_shown : K.lookup f_log_shown = some ⟨oc_log_shown, od_log_shown, .func (PySem.W.fnOf "log_shown" "log_shown" (defArgs s_log_shown) (defBody s_log_shown) (defScope s_log_shown) .none kV_log_shown dc_log_shown pm_log_shown an_log_shown cd_log_shown ct_log_shown), sl_log_shown⟩)
    (co_log_shown : PySem.W.codeIn K cd_log_shown "log_shown" = true)
    (k_log_shown : PySem.W.keepIn K (.ref f_log_shown) = true)
    (a_log_read : PySem.W.nsIn K mainGlobals "log_read" = some (some (.ref f_log_read)))
    (l_log_read : K.lookup f_log_read = some ⟨oc_log_read, od_log_read, .func (PySem.W.fnOf "log_read" "log_read" (defArgs s_log_read) (defBody s_log_read) (defScope s_log_read) .none kV_log_read dc_log_read pm_log_read an_log_read cd_log_read ct_log_read), sl_log_read⟩)
    (co_log_read : PySem.W.codeIn K cd_log_read "log_read" = true)
    (k_log_read : PySem.W.keepIn K (.ref f_log_read) = true)
    (a_row_read : PySem.W.nsIn K mainGlobals "row_read" = some (some (.ref f_row_read)))
    (l_row_read : K.lookup f_row_read = some ⟨oc_row_read, od_row_read, .func (PySem.W.fnOf "row_read" "row_read" (defArgs s_row_read) (defBody s_row_read) (defScope s_row_read) .none kV_row_read dc_row_read pm_row_read an_row_read cd_row_read ct_row_read), sl_row_read⟩)
    (co_row_read : PySem.W.codeIn K cd_row_read "row_read" = true)
    (k_row_read : PySem.W.keepIn K (.ref f_row_read) = true)
    (a_freed_read : PySem.W.nsIn K mainGlobals "freed_read" = some (some (.ref f_freed_read)))
    (l_freed_read : K.lookup f_freed_read = some ⟨oc_freed_read, od_freed_read, .func (PySem.W.fnOf "freed_read" "freed_read" (defArgs s_freed_read) (defBody s_freed_read) (defScope s_freed_read) .none kV_freed_read dc_freed_read pm_freed_read an_freed_read cd_freed_read ct_freed_read), sl_freed_read⟩)
    (co_freed_read : PySem.W.codeIn K cd_freed_read "freed_read" = true)
    (k_freed_read : PySem.W.keepIn K (.ref f_freed_read) = true)
    (a_turn_read : PySem.W.nsIn K mainGlobals "turn_read" = some (some (.ref f_turn_read)))
    (l_turn_read : K.lookup f_turn_read = some ⟨oc_turn_read, od_turn_read, .func (PySem.W.fnOf "turn_read" "turn_read" (defArgs s_turn_read) (defBody s_turn_read) (defScope s_turn_read) .none kV_turn_read dc_turn_read pm_turn_read an_turn_read cd_turn_read ct_turn_read), sl_turn_read⟩)
    (co_turn_read : PySem.W.codeIn K cd_turn_read "turn_read" = true)
    (k_turn_read : PySem.W.keepIn K (.ref f_turn_read) = true)
    (a_parted : PySem.W.nsIn K mainGlobals "parted" = some (some (.ref f_parted)))
    (l_parted : K.lookup f_parted = some ⟨oc_parted, od_parted, .func (PySem.W.fnOf "parted" "parted" (defArgs s_parted) (defBody s_parted) (defScope s_parted) .none kV_parted dc_parted pm_parted an_parted cd_parted ct_parted), sl_parted⟩)
    (co_parted : PySem.W.codeIn K cd_parted "parted" = true)
    (k_parted : PySem.W.keepIn K (.ref f_parted) = true)
    (a_serials_read : PySem.W.nsIn K mainGlobals "serials_read" = some (some (.ref f_serials_read)))
    (l_serials_read : K.lookup f_serials_read = some ⟨oc_serials_read, od_serials_read, .func (PySem.W.fnOf "serials_read" "serials_read" (defArgs s_serials_read) (defBody s_serials_read) (defScope s_serials_read) .none kV_serials_read dc_serials_read pm_serials_read an_serials_read cd_serials_read ct_serials_read), sl_serials_read⟩)
    (co_serials_read : PySem.W.codeIn K cd_serials_read "serials_read" = true)
    (k_serials_read : PySem.W.keepIn K (.ref f_serials_read) = true)
    (a_deed_row_read : PySem.W.nsIn K mainGlobals "deed_row_read" = some (some (.ref f_deed_row_read)))
    (l_deed_row_read : K.lookup f_deed_row_read = some ⟨oc_deed_row_read, od_deed_row_read, .func (PySem.W.fnOf "deed_row_read" "deed_row_read" (defArgs s_deed_row_read) (defBody s_deed_row_read) (defScope s_deed_row_read) .none kV_deed_row_read dc_deed_row_read pm_deed_row_read an_deed_row_read cd_deed_row_read ct_deed_row_read), sl_deed_row_read⟩)
    (co_deed_row_read : PySem.W.codeIn K cd_deed_row_read "deed_row_read" = true)
    (k_deed_row_read : PySem.W.keepIn K (.ref f_deed_row_read) = true)
    (a_law_whole : PySem.W.nsIn K mainGlobals "_law_whole" = some (some (.ref f_law_whole)))
    (l_law_whole : K.lookup f_law_whole = some ⟨oc_law_whole, od_law_whole, .func (PySem.W.fnOf "_law_whole" "_law_whole" (defArgs s_law_whole) (defBody s_law_whole) (defScope s_law_whole) .none kV_law_whole dc_law_whole pm_law_whole an_law_whole cd_law_whole ct_law_whole), sl_law_whole⟩)
    (co_law_whole : PySem.W.codeIn K cd_law_whole "_law_whole" = true)
    (k_law_whole : PySem.W.keepIn K (.ref f_law_whole) = true)
    (a_law_cell_at : PySem.W.nsIn K mainGlobals "_law_cell_at" = some (some (.ref f_law_cell_at)))
    (l_law_cell_at : K.lookup f_law_cell_at = some ⟨oc_law_cell_at, od_law_cell_at, .func (PySem.W.fnOf "_law_cell_at" "_law_cell_at" (defArgs s_law_cell_at) (defBody s_law_cell_at) (defScope s_law_cell_at) .none kV_law_cell_at dc_law_cell_at pm_law_cell_at an_law_cell_at cd_law_cell_at ct_law_cell_at), sl_law_cell_at⟩)
    (co_law_cell_at : PySem.W.codeIn K cd_law_cell_at "_law_cell_at" = true)
    (k_law_cell_at : PySem.W.keepIn K (.ref f_law_cell_at) = true)
    (a_law_drawn : PySem.W.nsIn K mainGlobals "_law_drawn" = some (some (.ref f_law_drawn)))
    (l_law_drawn : K.lookup f_law_drawn = some ⟨oc_law_drawn, od_law_drawn, .func (PySem.W.fnOf "_law_drawn" "_law_drawn" (defArgs s_law_drawn) (defBody s_law_drawn) (defScope s_law_drawn) .none kV_law_drawn dc_law_drawn pm_law_drawn an_law_drawn cd_law_drawn ct_law_drawn), sl_law_drawn⟩)
    (co_law_drawn : PySem.W.codeIn K cd_law_drawn "_law_drawn" = true)
    (k_law_drawn : PySem.W.keepIn K (.ref f_law_drawn) = true)
    (a_law_deed_by : PySem.W.nsIn K mainGlobals "_law_deed_by" = some (some (.ref f_law_deed_by)))
    (l_law_deed_by : K.lookup f_law_deed_by = some ⟨oc_law_deed_by, od_law_deed_by, .func (PySem.W.fnOf "_law_deed_by" "_law_deed_by" (defArgs s_law_deed_by) (defBody s_law_deed_by) (defScope s_law_deed_by) .none kV_law_deed_by dc_law_deed_by pm_law_deed_by an_law_deed_by cd_law_deed_by ct_law_deed_by), sl_law_deed_by⟩)
    (co_law_deed_by : PySem.W.codeIn K cd_law_deed_by "_law_deed_by" = true)
    (k_law_deed_by : PySem.W.keepIn K (.ref f_law_deed_by) = true)
    (a_law_row : PySem.W.nsIn K mainGlobals "_law_row" = some (some (.ref f_law_row)))
    (l_law_row : K.lookup f_law_row = some ⟨oc_law_row, od_law_row, .func (PySem.W.fnOf "_law_row" "_law_row" (defArgs s_law_row) (defBody s_law_row) (defScope s_law_row) .none kV_law_row dc_law_row pm_law_row an_law_row cd_law_row ct_law_row), sl_law_row⟩)
    (co_law_row : PySem.W.codeIn K cd_law_row "_law_row" = true)
    (k_law_row : PySem.W.keepIn K (.ref f_law_row) = true)
    (a_law_numbers : PySem.W.nsIn K mainGlobals "_law_numbers" = some (some (.ref f_law_numbers)))
    (l_law_numbers : K.lookup f_law_numbers = some ⟨oc_law_numbers, od_law_numbers, .func (PySem.W.fnOf "_law_numbers" "_law_numbers" (defArgs s_law_numbers) (defBody s_law_numbers) (defScope s_law_numbers) .none kV_law_numbers dc_law_numbers pm_law_numbers an_law_numbers cd_law_numbers ct_law_numbers), sl_law_numbers⟩)
    (co_law_numbers : PySem.W.codeIn K cd_law_numbers "_law_numbers" = true)
    (k_law_numbers : PySem.W.keepIn K (.ref f_law_numbers) = true)
    (a_law_log_row : PySem.W.nsIn K mainGlobals "_law_log_row" = some (some (.ref f_law_log_row)))
    (l_law_log_row : K.lookup f_law_log_row = some ⟨oc_law_log_row, od_law_log_row, .func (PySem.W.fnOf "_law_log_row" "_law_log_row" (defArgs s_law_log_row) (defBody s_law_log_row) (defScope s_law_log_row) .none kV_law_log_row dc_law_log_row pm_law_log_row an_law_log_row cd_law_log_row ct_law_log_row), sl_law_log_row⟩)
    (co_law_log_row : PySem.W.codeIn K cd_law_log_row "_law_log_row" = true)
    (k_law_log_row : PySem.W.keepIn K (.ref f_law_log_row) = true)
    (a_law_log_text : PySem.W.nsIn K mainGlobals "_law_log_text" = some (some (.ref f_law_log_text)))
    (l_law_log_text : K.lookup f_law_log_text = some ⟨oc_law_log_text, od_law_log_text, .func (PySem.W.fnOf "_law_log_text" "_law_log_text" (defArgs s_law_log_text) (defBody s_law_log_text) (defScope s_law_log_text) .none kV_law_log_text dc_law_log_text pm_law_log_text an_law_log_text cd_law_log_text ct_law_log_text), sl_law_log_text⟩)
    (co_law_log_text : PySem.W.codeIn K cd_law_log_text "_law_log_text" = true)
    (k_law_log_text : PySem.W.keepIn K (.ref f_law_log_text) = true)
    (a_law_form : PySem.W.nsIn K mainGlobals "_law_form" = some (some (.ref f_law_form)))
    (l_law_form : K.lookup f_law_form = some ⟨oc_law_form, od_law_form, .func (PySem.W.fnOf "_law_form" "_law_form" (defArgs s_law_form) (defBody s_law_form) (defScope s_law_form) .none kV_law_form dc_law_form pm_law_form an_law_form cd_law_form ct_law_form), sl_law_form⟩)
    (co_law_form : PySem.W.codeIn K cd_law_form "_law_form" = true)
    (k_law_form : PySem.W.keepIn K (.ref f_law_form) = true)
    (a_law : PySem.W.nsIn K mainGlobals "law" = some (some (.ref f_law)))
    (l_law : K.lookup f_law = some ⟨oc_law, od_law, .func (PySem.W.fnOf "law" "law" (defArgs s_law) (defBody s_law) (defScope s_law) .none kV_law dc_law pm_law an_law cd_law ct_law), sl_law⟩)
    (co_law : PySem.W.codeIn K cd_law "law" = true)
    (k_law : PySem.W.keepIn K (.ref f_law) = true)
    (g_MOST_FIELDS : PySem.W.nsIn K mainGlobals "MOST_FIELDS" = some (some (.int 8 t_MOST_FIELDS)))
    (g_MOST_FIGURES : PySem.W.nsIn K mainGlobals "MOST_FIGURES" = some (some (.int 60 t_MOST_FIGURES)))
    (g_FIGURES : PySem.W.nsIn K mainGlobals "FIGURES" = some (some (.str "0123456789" t_FIGURES)))
    (g_PARTS : PySem.W.nsIn K mainGlobals "PARTS" = some (some (.ref t_PARTS)))
    (gn_PARTS : (t_PARTS == sysModules) = false)
    (gk_PARTS : K.lookup t_PARTS = some ⟨.type "dict", none, .dict #[⟨hs_PARTS_0, .str "num" kt_PARTS_0, .ref u_PARTS_0⟩, ⟨hs_PARTS_1, .str "make" kt_PARTS_1, .ref u_PARTS_1⟩, ⟨hs_PARTS_2, .str "weak" kt_PARTS_2, .ref u_PARTS_2⟩, ⟨hs_PARTS_3, .str "pair" kt_PARTS_3, .ref u_PARTS_3⟩, ⟨hs_PARTS_4, .str "words" kt_PARTS_4, .ref u_PARTS_4⟩, ⟨hs_PARTS_5, .str "put" kt_PARTS_5, .ref u_PARTS_5⟩, ⟨hs_PARTS_6, .str "get" kt_PARTS_6, .ref u_PARTS_6⟩, ⟨hs_PARTS_7, .str "look" kt_PARTS_7, .ref u_PARTS_7⟩, ⟨hs_PARTS_8, .str "find" kt_PARTS_8, .ref u_PARTS_8⟩, ⟨hs_PARTS_9, .str "copy" kt_PARTS_9, .ref u_PARTS_9⟩, ⟨hs_PARTS_10, .str "drop" kt_PARTS_10, .ref u_PARTS_10⟩, ⟨hs_PARTS_11, .str "tell" kt_PARTS_11, .ref u_PARTS_11⟩, ⟨hs_PARTS_12, .str "same" kt_PARTS_12, .ref u_PARTS_12⟩, ⟨hs_PARTS_13, .str "hear" kt_PARTS_13, .ref u_PARTS_13⟩] ep_PARTS, #[]⟩)
    (gu_PARTS_0 : K.lookup u_PARTS_0 = some ⟨.type "tuple", none, .seq #[.str "root" tk_PARTS_0_0, .str "number" tk_PARTS_0_1] tn_PARTS_0, ts_PARTS_0⟩)
    (gu_PARTS_1 : K.lookup u_PARTS_1 = some ⟨.type "tuple", none, .seq #[.str "root" tk_PARTS_1_0, .str "fields" tk_PARTS_1_1] tn_PARTS_1, ts_PARTS_1⟩)
    (gu_PARTS_2 : K.lookup u_PARTS_2 = some ⟨.type "tuple", none, .seq #[.str "root" tk_PARTS_2_0, .str "root" tk_PARTS_2_1] tn_PARTS_2, ts_PARTS_2⟩)
    (gu_PARTS_3 : K.lookup u_PARTS_3 = some ⟨.type "tuple", none, .seq #[.str "root" tk_PARTS_3_0, .str "root" tk_PARTS_3_1, .str "root" tk_PARTS_3_2] tn_PARTS_3, ts_PARTS_3⟩)
    (gu_PARTS_4 : K.lookup u_PARTS_4 = some ⟨.type "tuple", none, .seq #[.str "root" tk_PARTS_4_0, .str "number" tk_PARTS_4_1] tn_PARTS_4, ts_PARTS_4⟩)
    (gu_PARTS_5 : K.lookup u_PARTS_5 = some ⟨.type "tuple", none, .seq #[.str "root" tk_PARTS_5_0, .str "number" tk_PARTS_5_1, .str "root" tk_PARTS_5_2] tn_PARTS_5, ts_PARTS_5⟩)
    (gu_PARTS_6 : K.lookup u_PARTS_6 = some ⟨.type "tuple", none, .seq #[.str "root" tk_PARTS_6_0, .str "root" tk_PARTS_6_1, .str "number" tk_PARTS_6_2] tn_PARTS_6, ts_PARTS_6⟩)
    (gu_PARTS_7 : K.lookup u_PARTS_7 = some ⟨.type "tuple", none, .seq #[.str "root" tk_PARTS_7_0, .str "root" tk_PARTS_7_1] tn_PARTS_7, ts_PARTS_7⟩)
    (gu_PARTS_8 : K.lookup u_PARTS_8 = some ⟨.type "tuple", none, .seq #[.str "root" tk_PARTS_8_0, .str "root" tk_PARTS_8_1, .str "root" tk_PARTS_8_2] tn_PARTS_8, ts_PARTS_8⟩)
    (gu_PARTS_9 : K.lookup u_PARTS_9 = some ⟨.type "tuple", none, .seq #[.str "root" tk_PARTS_9_0, .str "root" tk_PARTS_9_1] tn_PARTS_9, ts_PARTS_9⟩)
    (gu_PARTS_10 : K.lookup u_PARTS_10 = some ⟨.type "tuple", none, .seq #[.str "root" tk_PARTS_10_0] tn_PARTS_10, ts_PARTS_10⟩)
    (gu_PARTS_11 : K.lookup u_PARTS_11 = some ⟨.type "tuple", none, .seq #[.str "root" tk_PARTS_11_0] tn_PARTS_11, ts_PARTS_11⟩)
    (gu_PARTS_12 : K.lookup u_PARTS_12 = some ⟨.type "tuple", none, .seq #[.str "root" tk_PARTS_12_0, .str "root" tk_PARTS_12_1] tn_PARTS_12, ts_PARTS_12⟩)
    (gu_PARTS_13 : K.lookup u_PARTS_13 = some ⟨.type "tuple", none, .seq #[.str "root" tk_PARTS_13_0] tn_PARTS_13, ts_PARTS_13⟩)
    (g_ANSWERS : PySem.W.nsIn K mainGlobals "ANSWERS" = some (some (.ref t_ANSWERS)))
    (gk_ANSWERS : K.lookup t_ANSWERS = some ⟨.type "tuple", none, .seq #[.str "ok" tk_ANSWERS_0, .str "yes" tk_ANSWERS_1, .str "no" tk_ANSWERS_2, .str "none" tk_ANSWERS_3, .str "thing" tk_ANSWERS_4, .str "nothing" tk_ANSWERS_5, .str "no thing" tk_ANSWERS_6, .str "no field" tk_ANSWERS_7, .str "no room" tk_ANSWERS_8] tn_ANSWERS, ts_ANSWERS⟩)
    (g_BARE : PySem.W.nsIn K mainGlobals "BARE" = some (some (.ref t_BARE)))
    (gk_BARE : K.lookup t_BARE = some ⟨.type "tuple", none, .seq #[.str "begin" tk_BARE_0, .str "end" tk_BARE_1, .str "packed" tk_BARE_2] tn_BARE, ts_BARE⟩)
    (g_ARROW : PySem.W.nsIn K mainGlobals "ARROW" = some (some (.str " -> " t_ARROW)))
    (g_LISTS_OF_A_TURN : PySem.W.nsIn K mainGlobals "LISTS_OF_A_TURN" = some (some (.int 7 t_LISTS_OF_A_TURN)))
    (n_abs : PySem.W.nsIn K mainGlobals "abs" = some none)
    (n_all : PySem.W.nsIn K mainGlobals "all" = some none)
    (n_any : PySem.W.nsIn K mainGlobals "any" = some none)
    (n_bool : PySem.W.nsIn K mainGlobals "bool" = some none)
    (n_enumerate : PySem.W.nsIn K mainGlobals "enumerate" = some none)
    (n_int : PySem.W.nsIn K mainGlobals "int" = some none)
    (n_isinstance : PySem.W.nsIn K mainGlobals "isinstance" = some none)
    (n_len : PySem.W.nsIn K mainGlobals "len" = some none)
    (n_list : PySem.W.nsIn K mainGlobals "list" = some none)
    (n_range : PySem.W.nsIn K mainGlobals "range" = some none)
    (n_str : PySem.W.nsIn K mainGlobals "str" = some none)
    (n_tuple : PySem.W.nsIn K mainGlobals "tuple" = some none)
    (n_zip : PySem.W.nsIn K mainGlobals "zip" = some none)
    : ∃ fd : FuncData, (∀ (s : Shared) (v : Value), BindsTo s fd ⟨[v], []⟩ [("_law_script", v)]) ∧ ∀ base : Heap, K.In base → base.Ns mainGlobals mg → FnOk l.prog w K mg base CX0 10 fa fd ["_law_script"] (sp_law K) := by
  have e : f_law = fa := by
    have e := hfa.symm.trans (PySem.W.mg_of X G a_law)
    cases e
    rfl
  subst e
  have F_is_root := fun_mk (st := s_is_root) l_is_root co_is_root k_is_root
  have F_is_number := fun_mk (st := s_is_number) l_is_number co_is_number k_is_number
  have F_part_read := fun_mk (st := s_part_read) l_part_read co_part_read k_part_read
  have F_deed_read := fun_mk (st := s_deed_read) l_deed_read co_deed_read k_deed_read
  have F_deed_shown := fun_mk (st := s_deed_shown) l_deed_shown co_deed_shown k_deed_shown
  have F_serials_shown := fun_mk (st := s_serials_shown) l_serials_shown co_serials_shown k_serials_shown
  have F_row_shown := fun_mk (st := s_row_shown) l_row_shown co_row_shown k_row_shown
  have F_log_shown := fun_mk (st := s_log_shown) l_log_shown co_log_shown k_log_shown
  have F_log_read := fun_mk (st := s_log_read) l_log_read co_log_read k_log_read
  have F_row_read := fun_mk (st := s_row_read) l_row_read co_row_read k_row_read
  have F_freed_read := fun_mk (st := s_freed_read) l_freed_read co_freed_read k_freed_read
  have F_turn_read := fun_mk (st := s_turn_read) l_turn_read co_turn_read k_turn_read
  have F_parted := fun_mk (st := s_parted) l_parted co_parted k_parted
  have F_serials_read := fun_mk (st := s_serials_read) l_serials_read co_serials_read k_serials_read
  have F_deed_row_read := fun_mk (st := s_deed_row_read) l_deed_row_read co_deed_row_read k_deed_row_read
  have F_law_whole := fun_mk (st := s_law_whole) l_law_whole co_law_whole k_law_whole
  have F_law_cell_at := fun_mk (st := s_law_cell_at) l_law_cell_at co_law_cell_at k_law_cell_at
  have F_law_drawn := fun_mk (st := s_law_drawn) l_law_drawn co_law_drawn k_law_drawn
  have F_law_deed_by := fun_mk (st := s_law_deed_by) l_law_deed_by co_law_deed_by k_law_deed_by
  have F_law_row := fun_mk (st := s_law_row) l_law_row co_law_row k_law_row
  have F_law_numbers := fun_mk (st := s_law_numbers) l_law_numbers co_law_numbers k_law_numbers
  have F_law_log_row := fun_mk (st := s_law_log_row) l_law_log_row co_law_log_row k_law_log_row
  have F_law_log_text := fun_mk (st := s_law_log_text) l_law_log_text co_law_log_text k_law_log_text
  have F_law_form := fun_mk (st := s_law_form) l_law_form co_law_form k_law_form
  have F_law := fun_mk (st := s_law) l_law co_law k_law
  have B_is_root := F_is_root.binds (ps := ["text"]) fun _ _ _ _ _ _ us hl => match us, hl with | [_], _ => rfl
  have B_is_number := F_is_number.binds (ps := ["text"]) fun _ _ _ _ _ _ us hl => match us, hl with | [_], _ => rfl
  have B_part_read := F_part_read.binds (ps := ["text", "wanted"]) fun _ _ _ _ _ _ us hl => match us, hl with | [_, _], _ => rfl
  have B_deed_read := F_deed_read.binds (ps := ["text"]) fun _ _ _ _ _ _ us hl => match us, hl with | [_], _ => rfl
  have B_deed_shown := F_deed_shown.binds (ps := ["deed"]) fun _ _ _ _ _ _ us hl => match us, hl with | [_], _ => rfl
  have B_serials_shown := F_serials_shown.binds (ps := ["serials"]) fun _ _ _ _ _ _ us hl => match us, hl with | [_], _ => rfl
  have B_row_shown := F_row_shown.binds (ps := ["row"]) fun _ _ _ _ _ _ us hl => match us, hl with | [_], _ => rfl
  have B_log_shown := F_log_shown.binds (ps := ["log"]) fun _ _ _ _ _ _ us hl => match us, hl with | [_], _ => rfl
  have B_log_read := F_log_read.binds (ps := ["text"]) fun _ _ _ _ _ _ us hl => match us, hl with | [_], _ => rfl
  have B_row_read := F_row_read.binds (ps := ["row"]) fun _ _ _ _ _ _ us hl => match us, hl with | [_], _ => rfl
  have B_freed_read := F_freed_read.binds (ps := ["words"]) fun _ _ _ _ _ _ us hl => match us, hl with | [_], _ => rfl
  have B_turn_read := F_turn_read.binds (ps := ["words"]) fun _ _ _ _ _ _ us hl => match us, hl with | [_], _ => rfl
  have B_parted := F_parted.binds (ps := ["words"]) fun _ _ _ _ _ _ us hl => match us, hl with | [_], _ => rfl
  have B_serials_read := F_serials_read.binds (ps := ["words"]) fun _ _ _ _ _ _ us hl => match us, hl with | [_], _ => rfl
  have B_deed_row_read := F_deed_row_read.binds (ps := ["row"]) fun _ _ _ _ _ _ us hl => match us, hl with | [_], _ => rfl
  have B_law_whole := F_law_whole.binds (ps := ["_law_found"]) fun _ _ _ _ _ _ us hl => match us, hl with | [_], _ => rfl
  have B_law_cell_at := F_law_cell_at.binds (ps := ["_law_script", "_law_k"]) fun _ _ _ _ _ _ us hl => match us, hl with | [_, _], _ => rfl
  have B_law_drawn := F_law_drawn.binds (ps := ["_law_cell", "_law_sizes", "_law_free"]) fun _ _ _ _ _ _ us hl => match us, hl with | [_, _, _], _ => rfl
  have B_law_deed_by := F_law_deed_by.binds (ps := ["_law_cell", "_law_free"]) fun _ _ _ _ _ _ us hl => match us, hl with | [_, _], _ => rfl
  have B_law_row := F_law_row.binds (ps := ["_law_deed"]) fun _ _ _ _ _ _ us hl => match us, hl with | [_], _ => rfl
  have B_law_numbers := F_law_numbers.binds (ps := ["_law_number", "_law_many"]) fun _ _ _ _ _ _ us hl => match us, hl with | [_, _], _ => rfl
  have B_law_log_row := F_law_log_row.binds (ps := ["_law_cell", "_law_free"]) fun _ _ _ _ _ _ us hl => match us, hl with | [_, _], _ => rfl
  have B_law_log_text := F_law_log_text.binds (ps := ["_law_row_here"]) fun _ _ _ _ _ _ us hl => match us, hl with | [_], _ => rfl
  have B_law_form := F_law_form.binds (ps := ["_law_found"]) fun _ _ _ _ _ _ us hl => match us, hl with | [_], _ => rfl
  have T : Txt K mg ⟨f_is_root, PySem.W.fnOf "is_root" "is_root" (defArgs s_is_root) (defBody s_is_root) (defScope s_is_root) .none kV_is_root dc_is_root pm_is_root an_is_root cd_is_root ct_is_root, f_is_number, PySem.W.fnOf "is_number" "is_number" (defArgs s_is_number) (defBody s_is_number) (defScope s_is_number) .none kV_is_number dc_is_number pm_is_number an_is_number cd_is_number ct_is_number, f_part_read, PySem.W.fnOf "part_read" "part_read" (defArgs s_part_read) (defBody s_part_read) (defScope s_part_read) .none kV_part_read dc_part_read pm_part_read an_part_read cd_part_read ct_part_read, f_deed_read, PySem.W.fnOf "deed_read" "deed_read" (defArgs s_deed_read) (defBody s_deed_read) (defScope s_deed_read) .none kV_deed_read dc_deed_read pm_deed_read an_deed_read cd_deed_read ct_deed_read, f_deed_shown, PySem.W.fnOf "deed_shown" "deed_shown" (defArgs s_deed_shown) (defBody s_deed_shown) (defScope s_deed_shown) .none kV_deed_shown dc_deed_shown pm_deed_shown an_deed_shown cd_deed_shown ct_deed_shown, f_serials_shown, PySem.W.fnOf "serials_shown" "serials_shown" (defArgs s_serials_shown) (defBody s_serials_shown) (defScope s_serials_shown) .none kV_serials_shown dc_serials_shown pm_serials_shown an_serials_shown cd_serials_shown ct_serials_shown, f_row_shown, PySem.W.fnOf "row_shown" "row_shown" (defArgs s_row_shown) (defBody s_row_shown) (defScope s_row_shown) .none kV_row_shown dc_row_shown pm_row_shown an_row_shown cd_row_shown ct_row_shown, f_log_shown, PySem.W.fnOf "log_shown" "log_shown" (defArgs s_log_shown) (defBody s_log_shown) (defScope s_log_shown) .none kV_log_shown dc_log_shown pm_log_shown an_log_shown cd_log_shown ct_log_shown, f_log_read, PySem.W.fnOf "log_read" "log_read" (defArgs s_log_read) (defBody s_log_read) (defScope s_log_read) .none kV_log_read dc_log_read pm_log_read an_log_read cd_log_read ct_log_read, f_row_read, PySem.W.fnOf "row_read" "row_read" (defArgs s_row_read) (defBody s_row_read) (defScope s_row_read) .none kV_row_read dc_row_read pm_row_read an_row_read cd_row_read ct_row_read, f_freed_read, PySem.W.fnOf "freed_read" "freed_read" (defArgs s_freed_read) (defBody s_freed_read) (defScope s_freed_read) .none kV_freed_read dc_freed_read pm_freed_read an_freed_read cd_freed_read ct_freed_read, f_turn_read, PySem.W.fnOf "turn_read" "turn_read" (defArgs s_turn_read) (defBody s_turn_read) (defScope s_turn_read) .none kV_turn_read dc_turn_read pm_turn_read an_turn_read cd_turn_read ct_turn_read, f_parted, PySem.W.fnOf "parted" "parted" (defArgs s_parted) (defBody s_parted) (defScope s_parted) .none kV_parted dc_parted pm_parted an_parted cd_parted ct_parted, f_serials_read, PySem.W.fnOf "serials_read" "serials_read" (defArgs s_serials_read) (defBody s_serials_read) (defScope s_serials_read) .none kV_serials_read dc_serials_read pm_serials_read an_serials_read cd_serials_read ct_serials_read, f_deed_row_read, PySem.W.fnOf "deed_row_read" "deed_row_read" (defArgs s_deed_row_read) (defBody s_deed_row_read) (defScope s_deed_row_read) .none kV_deed_row_read dc_deed_row_read pm_deed_row_read an_deed_row_read cd_deed_row_read ct_deed_row_read, f_law_whole, PySem.W.fnOf "_law_whole" "_law_whole" (defArgs s_law_whole) (defBody s_law_whole) (defScope s_law_whole) .none kV_law_whole dc_law_whole pm_law_whole an_law_whole cd_law_whole ct_law_whole, f_law_cell_at, PySem.W.fnOf "_law_cell_at" "_law_cell_at" (defArgs s_law_cell_at) (defBody s_law_cell_at) (defScope s_law_cell_at) .none kV_law_cell_at dc_law_cell_at pm_law_cell_at an_law_cell_at cd_law_cell_at ct_law_cell_at, f_law_drawn, PySem.W.fnOf "_law_drawn" "_law_drawn" (defArgs s_law_drawn) (defBody s_law_drawn) (defScope s_law_drawn) .none kV_law_drawn dc_law_drawn pm_law_drawn an_law_drawn cd_law_drawn ct_law_drawn, f_law_deed_by, PySem.W.fnOf "_law_deed_by" "_law_deed_by" (defArgs s_law_deed_by) (defBody s_law_deed_by) (defScope s_law_deed_by) .none kV_law_deed_by dc_law_deed_by pm_law_deed_by an_law_deed_by cd_law_deed_by ct_law_deed_by, f_law_row, PySem.W.fnOf "_law_row" "_law_row" (defArgs s_law_row) (defBody s_law_row) (defScope s_law_row) .none kV_law_row dc_law_row pm_law_row an_law_row cd_law_row ct_law_row, f_law_numbers, PySem.W.fnOf "_law_numbers" "_law_numbers" (defArgs s_law_numbers) (defBody s_law_numbers) (defScope s_law_numbers) .none kV_law_numbers dc_law_numbers pm_law_numbers an_law_numbers cd_law_numbers ct_law_numbers, f_law_log_row, PySem.W.fnOf "_law_log_row" "_law_log_row" (defArgs s_law_log_row) (defBody s_law_log_row) (defScope s_law_log_row) .none kV_law_log_row dc_law_log_row pm_law_log_row an_law_log_row cd_law_log_row ct_law_log_row, f_law_log_text, PySem.W.fnOf "_law_log_text" "_law_log_text" (defArgs s_law_log_text) (defBody s_law_log_text) (defScope s_law_log_text) .none kV_law_log_text dc_law_log_text pm_law_log_text an_law_log_text cd_law_log_text ct_law_log_text, f_law_form, PySem.W.fnOf "_law_form" "_law_form" (defArgs s_law_form) (defBody s_law_form) (defScope s_law_form) .none kV_law_form dc_law_form pm_law_form an_law_form cd_law_form ct_law_form, f_law, PySem.W.fnOf "law" "law" (defArgs s_law) (defBody s_law) (defScope s_law) .none kV_law dc_law pm_law an_law cd_law ct_law, C_HeapError, C_NoDeed, C_NoLog, t_MOST_FIELDS, t_MOST_FIGURES, t_FIGURES, t_PARTS, u_PARTS_0, u_PARTS_1, u_PARTS_2, u_PARTS_3, u_PARTS_4, u_PARTS_5, u_PARTS_6, u_PARTS_7, u_PARTS_8, u_PARTS_9, u_PARTS_10, u_PARTS_11, u_PARTS_12, u_PARTS_13, t_ANSWERS, t_BARE, t_ARROW, t_LISTS_OF_A_TURN⟩ := by
    exact {
      f_is_root := F_is_root,
      b_is_root := B_is_root,
      m_is_root := PySem.W.mg_of X G a_is_root,
      f_is_number := F_is_number,
      b_is_number := B_is_number,
      m_is_number := PySem.W.mg_of X G a_is_number,
      f_part_read := F_part_read,
      b_part_read := B_part_read,
      m_part_read := PySem.W.mg_of X G a_part_read,
      f_deed_read := F_deed_read,
      b_deed_read := B_deed_read,
      m_deed_read := PySem.W.mg_of X G a_deed_read,
      f_deed_shown := F_deed_shown,
      b_deed_shown := B_deed_shown,
      m_deed_shown := PySem.W.mg_of X G a_deed_shown,
      f_serials_shown := F_serials_shown,
      b_serials_shown := B_serials_shown,
      m_serials_shown := PySem.W.mg_of X G a_serials_shown,
      f_row_shown := F_row_shown,
      b_row_shown := B_row_shown,
      m_row_shown := PySem.W.mg_of X G a_row_shown,
      f_log_shown := F_log_shown,
      b_log_shown := B_log_shown,
      m_log_shown := PySem.W.mg_of X G a_log_shown,
      f_log_read := F_log_read,
      b_log_read := B_log_read,
      m_log_read := PySem.W.mg_of X G a_log_read,
      f_row_read := F_row_read,
      b_row_read := B_row_read,
      m_row_read := PySem.W.mg_of X G a_row_read,
      f_freed_read := F_freed_read,
      b_freed_read := B_freed_read,
      m_freed_read := PySem.W.mg_of X G a_freed_read,
      f_turn_read := F_turn_read,
      b_turn_read := B_turn_read,
      m_turn_read := PySem.W.mg_of X G a_turn_read,
      f_parted := F_parted,
      b_parted := B_parted,
      m_parted := PySem.W.mg_of X G a_parted,
      f_serials_read := F_serials_read,
      b_serials_read := B_serials_read,
      m_serials_read := PySem.W.mg_of X G a_serials_read,
      f_deed_row_read := F_deed_row_read,
      b_deed_row_read := B_deed_row_read,
      m_deed_row_read := PySem.W.mg_of X G a_deed_row_read,
      f_law_whole := F_law_whole,
      b_law_whole := B_law_whole,
      m_law_whole := PySem.W.mg_of X G a_law_whole,
      f_law_cell_at := F_law_cell_at,
      b_law_cell_at := B_law_cell_at,
      m_law_cell_at := PySem.W.mg_of X G a_law_cell_at,
      f_law_drawn := F_law_drawn,
      b_law_drawn := B_law_drawn,
      m_law_drawn := PySem.W.mg_of X G a_law_drawn,
      f_law_deed_by := F_law_deed_by,
      b_law_deed_by := B_law_deed_by,
      m_law_deed_by := PySem.W.mg_of X G a_law_deed_by,
      f_law_row := F_law_row,
      b_law_row := B_law_row,
      m_law_row := PySem.W.mg_of X G a_law_row,
      f_law_numbers := F_law_numbers,
      b_law_numbers := B_law_numbers,
      m_law_numbers := PySem.W.mg_of X G a_law_numbers,
      f_law_log_row := F_law_log_row,
      b_law_log_row := B_law_log_row,
      m_law_log_row := PySem.W.mg_of X G a_law_log_row,
      f_law_log_text := F_law_log_text,
      b_law_log_text := B_law_log_text,
      m_law_log_text := PySem.W.mg_of X G a_law_log_text,
      f_law_form := F_law_form,
      b_law_form := B_law_form,
      m_law_form := PySem.W.mg_of X G a_law_form,
      f_law := F_law,
      m_law := PySem.W.mg_of X G a_law,
      c_MOST_FIELDS := PySem.W.mg_of X G g_MOST_FIELDS,
      c_MOST_FIGURES := PySem.W.mg_of X G g_MOST_FIGURES,
      c_FIGURES := PySem.W.mg_of X G g_FIGURES,
      c_PARTS := PySem.W.mg_of X G g_PARTS,
      tb_PARTS := .mk gn_PARTS gk_PARTS (rows_cons (rows_cons (rows_cons (rows_cons (rows_cons (rows_cons (rows_cons (rows_cons (rows_cons (rows_cons (rows_cons (rows_cons (rows_cons (rows_cons rfl)))))))))))))),
      qu_PARTS_0 := fun H => .inr ⟨_, _, _, gu_PARTS_0, rfl, rfl, (by show 2 ≤ sizeLine; decide), (.cons ⟨_, rfl⟩ (.cons ⟨_, rfl⟩ Paired.nil))⟩,
      qu_PARTS_1 := fun H => .inr ⟨_, _, _, gu_PARTS_1, rfl, rfl, (by show 2 ≤ sizeLine; decide), (.cons ⟨_, rfl⟩ (.cons ⟨_, rfl⟩ Paired.nil))⟩,
      qu_PARTS_2 := fun H => .inr ⟨_, _, _, gu_PARTS_2, rfl, rfl, (by show 2 ≤ sizeLine; decide), (.cons ⟨_, rfl⟩ (.cons ⟨_, rfl⟩ Paired.nil))⟩,
      qu_PARTS_3 := fun H => .inr ⟨_, _, _, gu_PARTS_3, rfl, rfl, (by show 3 ≤ sizeLine; decide), (.cons ⟨_, rfl⟩ (.cons ⟨_, rfl⟩ (.cons ⟨_, rfl⟩ Paired.nil)))⟩,
      qu_PARTS_4 := fun H => .inr ⟨_, _, _, gu_PARTS_4, rfl, rfl, (by show 2 ≤ sizeLine; decide), (.cons ⟨_, rfl⟩ (.cons ⟨_, rfl⟩ Paired.nil))⟩,
      qu_PARTS_5 := fun H => .inr ⟨_, _, _, gu_PARTS_5, rfl, rfl, (by show 3 ≤ sizeLine; decide), (.cons ⟨_, rfl⟩ (.cons ⟨_, rfl⟩ (.cons ⟨_, rfl⟩ Paired.nil)))⟩,
      qu_PARTS_6 := fun H => .inr ⟨_, _, _, gu_PARTS_6, rfl, rfl, (by show 3 ≤ sizeLine; decide), (.cons ⟨_, rfl⟩ (.cons ⟨_, rfl⟩ (.cons ⟨_, rfl⟩ Paired.nil)))⟩,
      qu_PARTS_7 := fun H => .inr ⟨_, _, _, gu_PARTS_7, rfl, rfl, (by show 2 ≤ sizeLine; decide), (.cons ⟨_, rfl⟩ (.cons ⟨_, rfl⟩ Paired.nil))⟩,
      qu_PARTS_8 := fun H => .inr ⟨_, _, _, gu_PARTS_8, rfl, rfl, (by show 3 ≤ sizeLine; decide), (.cons ⟨_, rfl⟩ (.cons ⟨_, rfl⟩ (.cons ⟨_, rfl⟩ Paired.nil)))⟩,
      qu_PARTS_9 := fun H => .inr ⟨_, _, _, gu_PARTS_9, rfl, rfl, (by show 2 ≤ sizeLine; decide), (.cons ⟨_, rfl⟩ (.cons ⟨_, rfl⟩ Paired.nil))⟩,
      qu_PARTS_10 := fun H => .inr ⟨_, _, _, gu_PARTS_10, rfl, rfl, (by show 1 ≤ sizeLine; decide), (.cons ⟨_, rfl⟩ Paired.nil)⟩,
      qu_PARTS_11 := fun H => .inr ⟨_, _, _, gu_PARTS_11, rfl, rfl, (by show 1 ≤ sizeLine; decide), (.cons ⟨_, rfl⟩ Paired.nil)⟩,
      qu_PARTS_12 := fun H => .inr ⟨_, _, _, gu_PARTS_12, rfl, rfl, (by show 2 ≤ sizeLine; decide), (.cons ⟨_, rfl⟩ (.cons ⟨_, rfl⟩ Paired.nil))⟩,
      qu_PARTS_13 := fun H => .inr ⟨_, _, _, gu_PARTS_13, rfl, rfl, (by show 1 ≤ sizeLine; decide), (.cons ⟨_, rfl⟩ Paired.nil)⟩,
      c_ANSWERS := PySem.W.mg_of X G g_ANSWERS,
      d_ANSWERS := ⟨_, gk_ANSWERS, rfl, rfl⟩,
      q_ANSWERS := fun H => .inr ⟨_, _, _, gk_ANSWERS, rfl, rfl, (by show 9 ≤ sizeLine; decide), (.cons ⟨_, rfl⟩ (.cons ⟨_, rfl⟩ (.cons ⟨_, rfl⟩ (.cons ⟨_, rfl⟩ (.cons ⟨_, rfl⟩ (.cons ⟨_, rfl⟩ (.cons ⟨_, rfl⟩ (.cons ⟨_, rfl⟩ (.cons ⟨_, rfl⟩ Paired.nil)))))))))⟩,
      c_BARE := PySem.W.mg_of X G g_BARE,
      d_BARE := ⟨_, gk_BARE, rfl, rfl⟩,
      q_BARE := fun H => .inr ⟨_, _, _, gk_BARE, rfl, rfl, (by show 3 ≤ sizeLine; decide), (.cons ⟨_, rfl⟩ (.cons ⟨_, rfl⟩ (.cons ⟨_, rfl⟩ Paired.nil)))⟩,
      c_ARROW := PySem.W.mg_of X G g_ARROW,
      c_LISTS_OF_A_TURN := PySem.W.mg_of X G g_LISTS_OF_A_TURN,
      n_abs := PySem.W.mg_none_of X G n_abs,
      n_all := PySem.W.mg_none_of X G n_all,
      n_any := PySem.W.mg_none_of X G n_any,
      n_bool := PySem.W.mg_none_of X G n_bool,
      n_enumerate := PySem.W.mg_none_of X G n_enumerate,
      n_int := PySem.W.mg_none_of X G n_int,
      n_isinstance := PySem.W.mg_none_of X G n_isinstance,
      n_len := PySem.W.mg_none_of X G n_len,
      n_list := PySem.W.mg_none_of X G n_list,
      n_range := PySem.W.mg_none_of X G n_range,
      n_str := PySem.W.mg_none_of X G n_str,
      n_tuple := PySem.W.mg_none_of X G n_tuple,
      n_zip := PySem.W.mg_none_of X G n_zip }
  exact ⟨_, fun s v => .of_eq rfl, fun base _ _ => ok_law T⟩
theorem walk {l : PySem.W.OpenLaw} {q : Program} {loose : List Str} {XP : (Str → Option Value) → Heap → Prop} {YP : World → Heap → Prop} {d : DefRec} {K : Params → PySem.W.Frag} (hn : l.most = some 63) (hdf : d.params.defaults = [])
    (hY : ∀ (w : World) (h : Heap), YP w h → (K w.params).In h)
    (F : ∀ (w : World) (mg : Str → Option Value) (fa : Addr) (h : Heap), (K w.params).In h → h.Ns mainGlobals mg → mg d.name = some (.ref fa) →
      ∃ fd : FuncData, (∀ (s : Shared) (u : Value), BindsTo s fd ⟨[u], []⟩ [("_law_script", u)]) ∧ ∀ base : Heap, (K w.params).In base → base.Ns mainGlobals mg → FnOk l.prog w (K w.params) mg base CX0 10 fa fd ["_law_script"] (sp_law (K w.params))) :
    PySem.W.WalkO q loose XP YP l.row.toRowW d [] (fun f vs => PySem.call f vs) :=
  L2.walk_of (n := 63) (k := 10) (x := "_law_script") (CX := fun _ => CX0) (sp := fun w => sp_law (K w.params)) hn (by decide) hdf ⟨rfl, by decide, by decide⟩ hY F (fun _ _ a ns hl _ hS => ⟨a, ns, rfl, hS, hl, fun _ => rfl⟩) fun _ _ _ _ _ z => z
end K80
namespace PySem.W.Fast
def tw15751658511318160858:=()
def tw912161599582947710:=()
def tw14623943642248551032:=()
def tw2582566989634233464:=()
def tw13433501869422649925:=()
def tw17536099114039463805:=()
def tw6184235507797048707:=()
def tw15875086758400179333:=()
def tw13494377125349893618:=()
def tw7955280241283703888:=()
end PySem.W.Fast
namespace K80
end K80
open PySem PySem.W PyProof.Rows
set_option maxRecDepth 100000 in
set_option maxHeartbeats 0 in
theorem PySem.Challenge.cw_heapsafe_k80_logs_both_ways_holds : PySem.Challenge.rw_heapsafe_k80_logs_both_ways.Holds := by
  w_on; o_law; k_head; (case hw => w_witness2)
  k_fill
  refine K80.walk (l := PySem.Challenge.rw_heapsafe_k80_logs_both_ways) rfl rfl (fun w h Y => PySem.W.kIn_of Y) ?F
  case F =>
    intro w mg fa h KX G hmg
    refine' K80.all_mk KX G hmg ?x_cc_HeapError ?x_cc_NoDeed ?x_cc_NoLog ?x_a_is_root ?x_l_is_root ?x_co_is_root ?x_k_is_root ?x_a_is_number ?x_l_is_number ?x_co_is_number ?x_k_is_number ?x_a_part_read ?x_l_part_read ?x_co_part_read ?x_k_part_read ?x_a_deed_read ?x_l_deed_read ?x_co_deed_read ?x_k_deed_read ?x_a_deed_shown ?x_l_deed_shown ?x_co_deed_shown ?x_k_deed_shown ?x_a_serials_shown ?x_l_serials_shown ?x_co_serials_shown ?x_k_serials_shown ?x_a_row_shown ?x_l_row_shown ?x_co_row_shown ?x_k_row_shown ?x_a_log_shown ?x_l_log_shown ?x_co_log_shown ?x_k_log_shown ?x_a_log_read ?x_l_log_read ?x_co_log_read ?x_k_log_read ?x_a_row_read ?x_l_row_read ?x_co_row_read ?x_k_row_read ?x_a_freed_read ?x_l_freed_read ?x_co_freed_read ?x_k_freed_read ?x_a_turn_read ?x_l_turn_read ?x_co_turn_read ?x_k_turn_read ?x_a_parted ?x_l_parted ?x_co_parted ?x_k_parted ?x_a_serials_read ?x_l_serials_read ?x_co_serials_read ?x_k_serials_read ?x_a_deed_row_read ?x_l_deed_row_read ?x_co_deed_row_read ?x_k_deed_row_read ?x_a_law_whole ?x_l_law_whole ?x_co_law_whole ?x_k_law_whole ?x_a_law_cell_at ?x_l_law_cell_at ?x_co_law_cell_at ?x_k_law_cell_at ?x_a_law_drawn ?x_l_law_drawn ?x_co_law_drawn ?x_k_law_drawn ?x_a_law_deed_by ?x_l_law_deed_by ?x_co_law_deed_by ?x_k_law_deed_by ?x_a_law_row ?x_l_law_row ?x_co_law_row ?x_k_law_row ?x_a_law_numbers ?x_l_law_numbers ?x_co_law_numbers ?x_k_law_numbers ?x_a_law_log_row ?x_l_law_log_row ?x_co_law_log_row ?x_k_law_log_row ?x_a_law_log_text ?x_l_law_log_text ?x_co_law_log_text ?x_k_law_log_text ?x_a_law_form ?x_l_law_form ?x_co_law_form ?x_k_law_form ?x_a_law ?x_l_law ?x_co_law ?x_k_law ?x_g_MOST_FIELDS ?x_g_MOST_FIGURES ?x_g_FIGURES ?x_g_PARTS ?x_gn_PARTS ?x_gk_PARTS ?x_gu_PARTS_0 ?x_gu_PARTS_1 ?x_gu_PARTS_2 ?x_gu_PARTS_3 ?x_gu_PARTS_4 ?x_gu_PARTS_5 ?x_gu_PARTS_6 ?x_gu_PARTS_7 ?x_gu_PARTS_8 ?x_gu_PARTS_9 ?x_gu_PARTS_10 ?x_gu_PARTS_11 ?x_gu_PARTS_12 ?x_gu_PARTS_13 ?x_g_ANSWERS ?x_gk_ANSWERS ?x_g_BARE ?x_gk_BARE ?x_g_ARROW ?x_g_LISTS_OF_A_TURN ?x_n_abs ?x_n_all ?x_n_any ?x_n_bool ?x_n_enumerate ?x_n_int ?x_n_isinstance ?x_n_len ?x_n_list ?x_n_range ?x_n_str ?x_n_tuple ?x_n_zip
    (case x_cc_HeapError => k_is)
    (case x_cc_NoDeed => k_is)
    (case x_cc_NoLog => k_is)
    (case x_a_is_root => k_is)
    (case x_l_is_root => k_is)
    (case x_co_is_root => k_is)
    (case x_k_is_root => k_is)
    (case x_a_is_number => k_is)
    (case x_l_is_number => k_is)
    (case x_co_is_number => k_is)
    (case x_k_is_number => k_is)
    (case x_a_part_read => k_is)
    (case x_l_part_read => k_is)
    (case x_co_part_read => k_is)
    (case x_k_part_read => k_is)
    (case x_a_deed_read => k_is)
    (case x_l_deed_read => k_is)
    (case x_co_deed_read => k_is)
    (case x_k_deed_read => k_is)
    (case x_a_deed_shown => k_is)
    (case x_l_deed_shown => k_is)
    (case x_co_deed_shown => k_is)
    (case x_k_deed_shown => k_is)
    (case x_a_serials_shown => k_is)
    (case x_l_serials_shown => k_is)
    (case x_co_serials_shown => k_is)
    (case x_k_serials_shown => k_is)
    (case x_a_row_shown => k_is)
    (case x_l_row_shown => k_is)
    (case x_co_row_shown => k_is)
    (case x_k_row_shown => k_is)
    (case x_a_log_shown => k_is)
    (case x_l_log_shown => k_is)
    (case x_co_log_shown => k_is)
    (case x_k_log_shown => k_is)
    (case x_a_log_read => k_is)
    (case x_l_log_read => k_is)
    (case x_co_log_read => k_is)
    (case x_k_log_read => k_is)
    (case x_a_row_read => k_is)
    (case x_l_row_read => k_is)
    (case x_co_row_read => k_is)
    (case x_k_row_read => k_is)
    (case x_a_freed_read => k_is)
    (case x_l_freed_read => k_is)
    (case x_co_freed_read => k_is)
    (case x_k_freed_read => k_is)
    (case x_a_turn_read => k_is)
    (case x_l_turn_read => k_is)
    (case x_co_turn_read => k_is)
    (case x_k_turn_read => k_is)
    (case x_a_parted => k_is)
    (case x_l_parted => k_is)
    (case x_co_parted => k_is)
    (case x_k_parted => k_is)
    (case x_a_serials_read => k_is)
    (case x_l_serials_read => k_is)
    (case x_co_serials_read => k_is)
    (case x_k_serials_read => k_is)
    (case x_a_deed_row_read => k_is)
    (case x_l_deed_row_read => k_is)
    (case x_co_deed_row_read => k_is)
    (case x_k_deed_row_read => k_is)
    (case x_a_law_whole => k_is)
    (case x_l_law_whole => k_is)
    (case x_co_law_whole => k_is)
    (case x_k_law_whole => k_is)
    (case x_a_law_cell_at => k_is)
    (case x_l_law_cell_at => k_is)
    (case x_co_law_cell_at => k_is)
    (case x_k_law_cell_at => k_is)
    (case x_a_law_drawn => k_is)
    (case x_l_law_drawn => k_is)
    (case x_co_law_drawn => k_is)
    (case x_k_law_drawn => k_is)
    (case x_a_law_deed_by => k_is)
    (case x_l_law_deed_by => k_is)
    (case x_co_law_deed_by => k_is)
    (case x_k_law_deed_by => k_is)
    (case x_a_law_row => k_is)
    (case x_l_law_row => k_is)
    (case x_co_law_row => k_is)
    (case x_k_law_row => k_is)
    (case x_a_law_numbers => k_is)
    (case x_l_law_numbers => k_is)
    (case x_co_law_numbers => k_is)
    (case x_k_law_numbers => k_is)
    (case x_a_law_log_row => k_is)
    (case x_l_law_log_row => k_is)
    (case x_co_law_log_row => k_is)
    (case x_k_law_log_row => k_is)
    (case x_a_law_log_text => k_is)
    (case x_l_law_log_text => k_is)
    (case x_co_law_log_text => k_is)
    (case x_k_law_log_text => k_is)
    (case x_a_law_form => k_is)
    (case x_l_law_form => k_is)
    (case x_co_law_form => k_is)
    (case x_k_law_form => k_is)
    (case x_a_law => k_is)
    (case x_l_law => k_is)
    (case x_co_law => k_is)
    (case x_k_law => k_is)
    (case x_g_MOST_FIELDS => k_is)
    (case x_g_MOST_FIGURES => k_is)
    (case x_g_FIGURES => k_is)
    (case x_g_PARTS => k_is)
    (case x_gn_PARTS => decide)
    (case x_gk_PARTS => k_is)
    (case x_gu_PARTS_0 => k_is)
    (case x_gu_PARTS_1 => k_is)
    (case x_gu_PARTS_2 => k_is)
    (case x_gu_PARTS_3 => k_is)
    (case x_gu_PARTS_4 => k_is)
    (case x_gu_PARTS_5 => k_is)
    (case x_gu_PARTS_6 => k_is)
    (case x_gu_PARTS_7 => k_is)
    (case x_gu_PARTS_8 => k_is)
    (case x_gu_PARTS_9 => k_is)
    (case x_gu_PARTS_10 => k_is)
    (case x_gu_PARTS_11 => k_is)
    (case x_gu_PARTS_12 => k_is)
    (case x_gu_PARTS_13 => k_is)
    (case x_g_ANSWERS => k_is)
    (case x_gk_ANSWERS => k_is)
    (case x_g_BARE => k_is)
    (case x_gk_BARE => k_is)
    (case x_g_ARROW => k_is)
    (case x_g_LISTS_OF_A_TURN => k_is)
    (case x_n_abs => k_is)
    (case x_n_all => k_is)
    (case x_n_any => k_is)
    (case x_n_bool => k_is)
    (case x_n_enumerate => k_is)
    (case x_n_int => k_is)
    (case x_n_isinstance => k_is)
    (case x_n_len => k_is)
    (case x_n_list => k_is)
    (case x_n_range => k_is)
    (case x_n_str => k_is)
    (case x_n_tuple => k_is)
    (case x_n_zip => k_is)
