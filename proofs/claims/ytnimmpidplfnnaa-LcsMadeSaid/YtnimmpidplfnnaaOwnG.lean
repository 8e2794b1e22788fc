/-
  Slices that the call itself makes, by the values that they hold: one law for each append, whatever the elements.
-/
import Derived.Test.YtnimmpidplfnnaaBase
import Derived.Laws.BytesArg
import Derived.Deep.RegionLaw
namespace Go.Proofs.Ytnimmpidplfnnaa
open Go.RowKit

/-- What an append asks of a slice type and its elements' type. -/
structure Elem (P : Program) (t e : TypeId) (size bytes : Nat) : Prop where
  und : P.underlying t = some (.slice e)
  inf : ∃ z : Value, (P.info? e).map (fun i => (i.zero, i.size, i.bytes)) = some (some z, size, bytes) ∧ z.cells.size = size
  pos : 0 < size

/-- How an element lies in memory: so many cells, each of one. -/
structure Enc (α : Type) (size : Nat) where
  f : α → List Value
  len : ∀ a, (f a).length = size
  one : ∀ a, ∀ u ∈ f a, u.oneCell' = true

def Enc.all {α : Type} {size : Nat} (E : Enc α size) (xs : List α) : List Value := xs.flatMap E.f
theorem Enc.length_all {α : Type} {size : Nat} (E : Enc α size) (xs : List α) : (E.all xs).length = xs.length * size := by
  unfold Enc.all
  induction xs with
  | nil => simp
  | cons a l ih => rw [List.flatMap_cons, List.length_append, ih, E.len, List.length_cons, Nat.add_mul]; omega
theorem Enc.all_append {α : Type} {size : Nat} (E : Enc α size) (xs ys : List α) : E.all (xs ++ ys) = E.all xs ++ E.all ys := by
  unfold Enc.all; exact List.flatMap_append ..
theorem Enc.one_all {α : Type} {size : Nat} (E : Enc α size) (xs : List α) : ∀ u ∈ E.all xs, u.oneCell' = true := by
  intro u hu; unfold Enc.all at hu; rw [List.mem_flatMap] at hu; obtain ⟨a, _, h⟩ := hu; exact E.one a u h
theorem Enc.at {α : Type} {size : Nat} (E : Enc α size) (xs : List α) (i j : Nat) (a : α) (ha : xs[i]? = some a) (hj : j < size) : (E.all xs)[i * size + j]? = (E.f a)[j]? := by
  unfold Enc.all
  induction xs generalizing i with
  | nil => simp at ha
  | cons b l ih =>
    rw [List.flatMap_cons]
    cases i with
    | zero =>
      simp at ha; subst ha
      rw [Nat.zero_mul, Nat.zero_add, List.getElem?_append_left (by rw [E.len]; exact hj)]
    | succ i =>
      have : (i + 1) * size = i * size + size := Nat.succ_mul i size
      rw [List.getElem?_append_right (by rw [E.len]; omega), E.len]
      have e : (i + 1) * size + j - size = i * size + j := by omega
      rw [e]; exact ih i (by simpa using ha)

/-- THE SLICE v, MADE BY THE CALL, HOLDS xs: in a row of its own, numbered from base on. -/
def Own {α : Type} {size : Nat} (E : Enc α size) (e : TypeId) (w : World) (base : Nat) (v : Value) (xs : List α) : Prop := w.ownsRow base e size v xs.length (E.all xs)
theorem Own.nil {α : Type} {size : Nat} (E : Enc α size) (e : TypeId) (w : World) (base : Nat) : Own E e w base (.slice none 0 0) ([] : List α) := World.ownsRow_nil w base e size
theorem Own.alloc {α : Type} {size : Nat} {E : Enc α size} {e : TypeId} {w : World} {base : Nat} {v : Value} {xs : List α} (h : Own E e w base v xs) (o : Obj) : Own E e (w.alloc o) base v xs := World.ownsRow.alloc h o
theorem Own.drew {α : Type} {size : Nat} {E : Enc α size} {e : TypeId} {w : World} {base : Nat} {v : Value} {xs : List α} (h : Own E e w base v xs) : Own E e w.drew base v xs := h
theorem Own.drewN {α : Type} {size : Nat} {E : Enc α size} {e : TypeId} {w : World} {base : Nat} {v : Value} {xs : List α} (h : Own E e w base v xs) (n : Nat) : Own E e (w.drewN n) base v xs := h
/-- Owned from a higher number on is owned from a lower one on. -/
theorem Own.mono {α : Type} {size : Nat} {E : Enc α size} {e : TypeId} {w : World} {base base' : Nat} {v : Value} {xs : List α} (h : Own E e w base v xs) (hb : base' ≤ base) : Own E e w base' v xs := by
  refine ⟨h.1, ?_⟩
  rcases h.2 with h | ⟨g, cap, cur, h1, h2, h3⟩
  · exact .inl h
  · exact .inr ⟨g, cap, cur, h1, by omega, h3⟩
theorem Own.below {α : Type} {size : Nat} {E : Enc α size} {e : TypeId} {w w' : World} {base B : Nat} {v : Value} {xs : List α} (h : Own E e w base v xs) (hb : Below B w w') (hB : w.heap.size ≤ B) : Own E e w' base v xs := by
  refine ⟨h.1, ?_⟩
  rcases h.2 with h | ⟨g, cap, cur, h1, h2, h3, h4⟩
  · exact .inl h
  · refine .inr ⟨g, cap, cur, h1, h2, ?_, h4⟩
    rw [hb.block g (by have := (Array.getElem?_eq_some_iff.1 h3).1; omega)]; exact h3
/-- The shape of such a slice. -/
theorem Own.shape {α : Type} {size : Nat} {E : Enc α size} {e : TypeId} {w : World} {base : Nat} {v : Value} {xs : List α} (h : Own E e w base v xs) :
    (v = .slice none 0 0 ∧ xs = []) ∨ ∃ g cap, v = .slice (some ⟨g, 0, none⟩) xs.length cap ∧ base ≤ g ∧ g < w.heap.size ∧ xs.length ≤ cap ∧ cap ≤ maxLen := by
  rcases h.2 with ⟨h1, h2⟩ | ⟨g, cap, cur, h1, h2, h3, h4, h5, _⟩
  · exact .inl ⟨h1, List.length_eq_zero_iff.1 h2⟩
  · exact .inr ⟨g, cap, h1, h2, (Array.getElem?_eq_some_iff.1 h3).1, h4, h5⟩
theorem Own.cells {α : Type} {size : Nat} {E : Enc α size} {e : TypeId} {w : World} {base g cap n : Nat} {xs : List α} (h : Own E e w base (.slice (some ⟨g, 0, none⟩) n cap) xs) (j : Nat) (u : Value) (hj : (E.all xs)[j]? = some u) :
    w.cell? ⟨g, j, none⟩ = some u := by
  have := World.ownsRow.cells h (g := g) rfl j u hj
  rw [Addr.add_mid, Nat.zero_add] at this; exact this

/-- THE LAW: 'v = append(v, ys...)', v of the call's own making, ys lying at ad. -/
theorem wpList_app {P : Program} {α : Type} {size t e bytes : Nat} {w : World} {ops : Array Oper} {rest : List Oper} {o : Oper} {a : Act} {Q : Exit → Act → World → Prop} (EL : Elem P t e size bytes) (E : Enc α size)
    (hgd : o.guard = none) (s x : Operand) (ho : o.op = .call { callee := .builtin .append, args := #[s, x], argTypes := #[t, t] }) (base : Nat) (v : Value) (xs : List α)
    (hs : a.eval s = v) (hown : Own E e w base v xs) (ad : Addr) (m c : Nat) (ys : List α) (hx : a.eval x = .slice (some ad) m c) (hl : ys.length = m)
    (hc : ∀ (j : Nat) (u : Value), (E.all ys)[j]? = some u → w.cell? (ad.add j) = some u) (hb : (xs.length + m) * bytes ≤ 140737488355328) (hb2 : xs.length + m ≤ maxLen) (hbase : base ≤ w.heap.size)
    (h : ∀ (v' : Value) (w' : World), Own E e w' base v' (xs ++ ys) → Below base w w' → wpList P ops Q rest (a.put o.dst v') w') : wpList P ops Q (o :: rest) a w := by
  obtain ⟨z, hi, hz⟩ := EL.inf
  obtain ⟨i, hi1, hi2, hi3, hi4⟩ := info_parts hi
  refine wpList_append_own w hgd s x t ho base e i z size bytes EL.und hi1 hi2 hi3 hi4 hz EL.pos v xs.length (E.all xs) hs hown ad m c (E.all ys) hx (by rw [E.length_all, hl]) hc (E.one_all ys) hb2 hb hbase ?_
  intro v' w' h1 h2 _
  refine h v' w' ?_ ?_
  · unfold Own; rw [E.all_append, List.length_append, hl]; exact h1
  · refine Below.grown (Below.refl _ _) h2 hbase ?_
    intro k hk
    exact (World.ownsRow.lt hown k hk).1

/-- The same as one step of a region that draws its order. -/
theorem step_app {P : Program} {α : Type} {size t e bytes : Nat} {w : World} {ops : Array Oper} {o : Oper} {a : Act} {K : Act → World → Prop} {Q : Exit → Act → World → Prop} {F : Prop} (EL : Elem P t e size bytes) (E : Enc α size)
    (hgd : o.guard = none) (s x : Operand) (ho : o.op = .call { callee := .builtin .append, args := #[s, x], argTypes := #[t, t] }) (base : Nat) (v : Value) (xs : List α)
    (hs : a.eval s = v) (hown : Own E e w base v xs) (ad : Addr) (m c : Nat) (ys : List α) (hx : a.eval x = .slice (some ad) m c) (hl : ys.length = m)
    (hc : ∀ (j : Nat) (u : Value), (E.all ys)[j]? = some u → w.cell? (ad.add j) = some u) (hb : (xs.length + m) * bytes ≤ 140737488355328) (hb2 : xs.length + m ≤ maxLen) (hbase : base ≤ w.heap.size)
    (h : ∀ (v' : Value) (w' : World), Own E e w' base v' (xs ++ ys) → Below base w w' → K (a.put o.dst v') w') :
    if Region.wanted o (yielded ops a.tmps) = true then Oper.wp P o a w K Q else F := by
  have hw : Region.wanted o (yielded ops a.tmps) = true := by simp [Region.wanted, hgd]
  rw [if_pos hw]
  obtain ⟨z, hi, hz⟩ := EL.inf
  obtain ⟨i, hi1, hi2, hi3, hi4⟩ := info_parts hi
  obtain ⟨v', w', hrun, r1, r2, _⟩ := run_append_own (P := P) w base t o.type e i z size bytes EL.und hi1 hi2 hi3 hi4 hz EL.pos v xs.length (E.all xs) hown ad m c (E.all ys) (by rw [E.length_all, hl]) hc (E.one_all ys) hb2 hb hbase
  unfold Oper.wp
  simp [execOp, ho, resolve, invoke, builtin, hs, hx, hrun, Result.andThen]
  refine h v' w' ?_ (Below.grown (Below.refl _ _) r2 hbase fun k hk => (World.ownsRow.lt hown k hk).1)
  unfold Own; rw [E.all_append, List.length_append, hl]; exact r1

/-- The cells of a block that has just been laid. -/
theorem cells_new {w : World} (C : Array Value) (t : TypeId) (l : List Value) (hC : C.toList = l) (j : Nat) (u : Value) (hj : l[j]? = some u) : (w.alloc (.cells C t)).cell? ((⟨w.heap.size, 0, none⟩ : Addr).add j) = some u := by
  rw [Addr.add_mid, Nat.zero_add, World.cell?_alloc_at _ _ _ _ rfl]
  subst hC
  simpa using hj

/-! Numbers. -/
def encInt (k : IntKind) : Enc Int 1 := { f := fun n => [.int k n], len := fun _ => rfl, one := fun _ u hu => by simp at hu; subst hu; rfl }
theorem all_encInt (k : IntKind) (l : List Int) : (encInt k).all l = l.map (Value.int k) := by
  unfold Enc.all encInt
  induction l with
  | nil => rfl
  | cons a l ih => rw [List.flatMap_cons, List.map_cons, ih]; rfl
theorem getElem?_map_int (k : IntKind) (xs : List Int) (i : Nat) (h : i < xs.length) : (xs.map (Value.int k))[i]? = some (.int k (xs.getD i 0)) := by
  simp [List.getElem?_eq_getElem h, List.getD_eq_getElem?_getD]
theorem Own.intCell {k : IntKind} {e : TypeId} {w : World} {base g cap n : Nat} {xs : List Int} (h : Own (encInt k) e w base (.slice (some ⟨g, 0, none⟩) n cap) xs) (i : Nat) (hi : i < xs.length) :
    w.cell? ⟨g, i, none⟩ = some (.int k (xs.getD i 0)) := by
  apply Own.cells h; rw [all_encInt]; exact getElem?_map_int k xs i hi
/-- A row of noughts, behind a name (the walk would write it out). -/
def zrow (n : Nat) : Array Value := Array.replicate n (.int .u8 0)
theorem Own.made {α : Type} {size : Nat} (E : Enc α size) (e : TypeId) (w : World) (base g cap : Nat) (cur : Array Value) (hg : g = w.heap.size) (hb : base ≤ w.heap.size) (hm : cap ≤ maxLen) (hs : cur.size = cap * size) :
    Own E e (w.alloc (.cells cur e)) base (.slice (some ⟨g, 0, none⟩) 0 cap) ([] : List α) := by subst hg; exact World.ownsRow_made w cur cap hb hm hs
/-- How long a slice is: for a loop's measure. -/
def lenOf : Value → Nat
  | .slice _ n _ => n
  | _ => 0
/-- A slice that holds something has its row. -/
theorem Own.some {α : Type} {size : Nat} {E : Enc α size} {e : TypeId} {w : World} {base : Nat} {v : Value} {xs : List α} (h : Own E e w base v xs) (hne : 0 < xs.length) :
    ∃ g cap, v = .slice (some ⟨g, 0, none⟩) xs.length cap ∧ base ≤ g ∧ g < w.heap.size ∧ xs.length ≤ cap ∧ cap ≤ maxLen := by
  rcases h.shape with ⟨_, rfl⟩ | h
  · exact absurd hne (by simp)
  · exact h

/-! A world in which one block alone has turned. -/
theorem cell_other {w w' : World} {row : Option Nat} (h : w.grownBy w' row) {a : Addr} (hlt : a.block < w.heap.size) (hne : some a.block ≠ row) : w'.cell? a = w.cell? a := by
  simp only [World.cell?, h.block a.block hlt hne]
theorem grownBy.refl' (w : World) (r : Option Nat) : w.grownBy w r := ⟨rfl, rfl, rfl, Nat.le_refl _, fun _ _ _ => rfl⟩
theorem grownBy.trans' {a b c : World} {r : Option Nat} (h : a.grownBy b r) (k : b.grownBy c r) : a.grownBy c r :=
  ⟨k.os.trans h.os, k.tape.trans h.tape, k.output.trans h.output, Nat.le_trans h.size k.size, fun j hj hr => (k.block j (Nat.lt_of_lt_of_le hj h.size) hr).trans (h.block j hj hr)⟩
theorem grownBy.setCell' {a w : World} {b : Nat} (h : a.grownBy w (some b)) (o : Nat) (v : Value) : a.grownBy (w.setCell ⟨b, o, none⟩ v) (some b) :=
  ⟨h.os, h.tape, h.output, by simpa using h.size, fun j hj hr => by
    rw [Below.heap_setCell _ _ _ _ (by intro e; exact hr (by rw [e]))]; exact h.block j hj hr⟩
theorem grownBy.drewN' {a w : World} {r : Option Nat} (h : a.grownBy w r) (n : Nat) : a.grownBy (w.drewN n) r := ⟨h.os, h.tape, h.output, h.size, h.block⟩
theorem grownBy.below' {a w w' : World} {r : Option Nat} (h : a.grownBy w r) (k : Below w.heap.size w w') : a.grownBy w' r :=
  ⟨k.os.trans h.os, k.tape.trans h.tape, k.output.trans h.output, Nat.le_trans h.size k.size, fun j hj hr => (k.block j (Nat.lt_of_lt_of_le hj h.size)).trans (h.block j hj hr)⟩
theorem grownBy.setRow' {a w : World} {b : Nat} (h : a.grownBy w (some b)) (cs : Array Value) : a.grownBy (w.setRow b cs) (some b) :=
  ⟨h.os, h.tape, h.output, by simpa using h.size, fun j hj hr => by
    rw [Go.setRow_other w b j cs (by intro e; exact hr (by rw [e]))]; exact h.block j hj hr⟩
end Go.Proofs.Ytnimmpidplfnnaa
