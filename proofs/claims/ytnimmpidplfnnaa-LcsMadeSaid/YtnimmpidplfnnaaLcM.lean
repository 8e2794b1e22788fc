/-
  Layer 15: a table of numbers in memory: a row of rows, each of a block of its own.
-/
import Derived.Test.YtnimmpidplfnnaaLcU
import Derived.Test.YtnimmpidplfnnaaOwnG
namespace Go.Proofs.Ytnimmpidplfnnaa
open Go.RowKit

/-- A row by what stands at each place. -/
def rowA (f : Nat → Value) (n : Nat) : Array Value := ((List.range n).map f).toArray
theorem rowA_size (f : Nat → Value) (n : Nat) : (rowA f n).size = n := by unfold rowA; simp
theorem rowA_at (f : Nat → Value) (n i : Nat) (h : i < n) : (rowA f n)[i]? = some (f i) := by unfold rowA; simp [h]
theorem rowA_congr {f g : Nat → Value} {n : Nat} (h : ∀ i, i < n → f i = g i) : rowA f n = rowA g n := by
  unfold rowA
  congr 1
  exact List.map_congr_left fun i hi => h i (List.mem_range.1 hi)
theorem rowA_set (f : Nat → Value) (n i : Nat) (v : Value) : (rowA f n).setIfInBounds i v = rowA (fun x => if x = i then v else f x) n := by
  apply Array.ext
  · rw [Array.size_setIfInBounds, rowA_size, rowA_size]
  · intro j h1 h2
    rw [rowA_size] at h2
    have e1 : (rowA (fun x => if x = i then v else f x) n)[j]? = some (if j = i then v else f j) := rowA_at _ _ _ h2
    have e2 := rowA_at f n j h2
    rw [Array.getElem?_eq_getElem (by rw [rowA_size]; exact h2)] at e1 e2
    rw [Array.getElem_setIfInBounds (by rw [rowA_size]; exact h2), Option.some.inj e1]
    by_cases h : i = j
    · subst h; simp
    · rw [if_neg h, if_neg (fun e => h e.symm)]; exact Option.some.inj e2
theorem rowA_made (v : Value) (n : Nat) : madeCells #[v] n = rowA (fun _ => v) n := by
  unfold madeCells rowA
  apply Array.ext
  · simp
  · intro i h1 h2; simp [Nat.mod_one]
/-- The table in block bl, of N rows of M numbers: row i, where p says that it is there, lies in block r i. -/
structure TbP (tr te : TypeId) (w : World) (bl : Nat) (r : Nat → Nat) (N M : Nat) (p : Nat → Bool) (g : Nat → Nat → Int) : Prop where
  head : w.heap[bl]? = some (.cells (rowA (fun i => if p i then .slice (some ⟨r i, 0, none⟩) M M else .slice none 0 0) N) tr)
  row : ∀ i, i < N → p i = true → w.heap[r i]? = some (.cells (rowA (fun j => .int .i64 (g i j)) M) te)
  off : ∀ i, i < N → p i = true → r i ≠ bl
  inj : ∀ i j, i < N → j < N → p i = true → p j = true → r i = r j → i = j
theorem TbP.lt {tr te : TypeId} {w : World} {bl : Nat} {r : Nat → Nat} {N M : Nat} {p : Nat → Bool} {g : Nat → Nat → Int} (h : TbP tr te w bl r N M p g) : bl < w.heap.size := (Array.getElem?_eq_some_iff.1 h.head).1
theorem TbP.rlt {tr te : TypeId} {w : World} {bl : Nat} {r : Nat → Nat} {N M : Nat} {p : Nat → Bool} {g : Nat → Nat → Int} (h : TbP tr te w bl r N M p g) {i : Nat} (hi : i < N) (hp : p i = true) : r i < w.heap.size := (Array.getElem?_eq_some_iff.1 (h.row i hi hp)).1
theorem TbP.keep {tr te : TypeId} {w w' : World} {bl : Nat} {r : Nat → Nat} {N M : Nat} {p : Nat → Bool} {g : Nat → Nat → Int} (h : TbP tr te w bl r N M p g) (hk : ∀ b, b < w.heap.size → b = bl ∨ (∃ i, i < N ∧ p i = true ∧ b = r i) → w'.heap[b]? = w.heap[b]?) : TbP tr te w' bl r N M p g :=
  ⟨(hk _ h.lt (.inl rfl)).trans h.head, fun i hi hp => (hk _ (h.rlt hi hp) (.inr ⟨i, hi, hp, rfl⟩)).trans (h.row i hi hp), h.off, h.inj⟩
theorem TbP.below {tr te : TypeId} {w w' : World} {bl : Nat} {r : Nat → Nat} {N M : Nat} {p : Nat → Bool} {g : Nat → Nat → Int} (h : TbP tr te w bl r N M p g) (hb : Below w.heap.size w w') : TbP tr te w' bl r N M p g := h.keep fun b hlt _ => hb.block b hlt
theorem TbP.drewN {tr te : TypeId} {w : World} {bl : Nat} {r : Nat → Nat} {N M : Nat} {p : Nat → Bool} {g : Nat → Nat → Int} (h : TbP tr te w bl r N M p g) (n : Nat) : TbP tr te (w.drewN n) bl r N M p g := ⟨h.head, h.row, h.off, h.inj⟩
theorem TbP.cell1 {tr te : TypeId} {w : World} {bl : Nat} {r : Nat → Nat} {N M : Nat} {p : Nat → Bool} {g : Nat → Nat → Int} (h : TbP tr te w bl r N M p g) {i : Nat} (hi : i < N) (hp : p i = true) : w.cell? ⟨bl, i, none⟩ = some (.slice (some ⟨r i, 0, none⟩) M M) := by
  rw [cell_of_row w bl i _ _ _ h.head, rowA_at _ _ _ hi]; rw [hp]; rfl
theorem TbP.melt1 {tr te : TypeId} {w : World} {bl : Nat} {r : Nat → Nat} {N M : Nat} {p : Nat → Bool} {g : Nat → Nat → Int} (h : TbP tr te w bl r N M p g) (i : Nat) : w.frozen? ⟨bl, i, none⟩ = false := frozen_of_row w bl i _ _ h.head
theorem TbP.cell2 {tr te : TypeId} {w : World} {bl : Nat} {r : Nat → Nat} {N M : Nat} {p : Nat → Bool} {g : Nat → Nat → Int} (h : TbP tr te w bl r N M p g) {i j : Nat} (hi : i < N) (hp : p i = true) (hj : j < M) : w.cell? ⟨r i, j, none⟩ = some (.int .i64 (g i j)) := by
  rw [cell_of_row w (r i) j _ _ _ (h.row i hi hp), rowA_at _ _ _ hj]
theorem TbP.melt2 {tr te : TypeId} {w : World} {bl : Nat} {r : Nat → Nat} {N M : Nat} {p : Nat → Bool} {g : Nat → Nat → Int} (h : TbP tr te w bl r N M p g) {i : Nat} (hi : i < N) (hp : p i = true) (j : Nat) : w.frozen? ⟨r i, j, none⟩ = false := frozen_of_row w (r i) j _ _ (h.row i hi hp)
/-- One number written. -/
theorem TbP.set {tr te : TypeId} {w : World} {bl : Nat} {r : Nat → Nat} {N M : Nat} {p : Nat → Bool} {g : Nat → Nat → Int} (h : TbP tr te w bl r N M p g) {i : Nat} (hi : i < N) (hp : p i = true) (j : Nat) (x : Int) :
    TbP tr te (w.setCell ⟨r i, j, none⟩ (.int .i64 x)) bl r N M p (fun a b => if a = i ∧ b = j then x else g a b) := by
  refine ⟨by rw [heap_setCell_other w _ bl _ (h.off i hi hp).symm]; exact h.head, fun k hk hpk => ?_, h.off, h.inj⟩
  by_cases e : k = i
  · subst e
    rw [heap_setCell_same w (r k) j _ _ _ (h.row k hk hpk), rowA_set]
    congr 2
    apply rowA_congr
    intro b _
    by_cases hb : b = j
    · simp [hb]
    · simp [hb]
  · rw [heap_setCell_other w _ (r k) _ (fun e2 => e (h.inj k i hk hi hpk hp e2)), h.row k hk hpk]
    congr 2
    apply rowA_congr
    intro b _
    rw [if_neg (fun e2 => e e2.1)]
/-- A row of noughts put in. -/
theorem TbP.put {tr te : TypeId} {w : World} {bl : Nat} {r : Nat → Nat} {N M : Nat} {p : Nat → Bool} {g : Nat → Nat → Int} (h : TbP tr te w bl r N M p g) {i : Nat} (hi : i < N) (hz : ∀ j, j < M → g i j = 0) :
    TbP tr te ((w.alloc (.cells (madeCells #[.int .i64 0] M) te)).setCell ⟨bl, i, none⟩ (.slice (some ⟨w.heap.size, 0, none⟩) M M)) bl (fun x => if x = i then w.heap.size else r x) N M (fun x => if x = i then true else p x) g := by
  have hlt := h.lt
  have hal : ∀ b, b < w.heap.size → (w.alloc (.cells (madeCells #[.int .i64 0] M) te)).heap[b]? = w.heap[b]? := fun b hb => Below.heap_alloc _ _ _ hb
  refine ⟨?_, fun k hk hpk => ?_, fun k hk hpk => ?_, fun a b ha hb hpa hpb e => ?_⟩
  · rw [heap_setCell_same _ bl i _ _ _ ((hal bl hlt).trans h.head), rowA_set]
    congr 2
    apply rowA_congr
    intro x _
    by_cases e : x = i
    · simp [e]
    · simp [e]
  · by_cases e : k = i
    · subst e
      rw [if_pos rfl, heap_setCell_other _ _ _ _ (by show w.heap.size ≠ bl; omega), (Go.MapKept.heap_alloc w _).1, rowA_made]
      congr 2
      apply rowA_congr
      intro j hj
      rw [hz j hj]
    · rw [if_neg e] at hpk ⊢
      have := h.rlt hk hpk
      rw [heap_setCell_other _ _ _ _ (h.off k hk hpk), hal _ this]
      exact h.row k hk hpk
  · by_cases e : k = i
    · rw [if_pos e]; omega
    · rw [if_neg e] at hpk ⊢; exact h.off k hk hpk
  · by_cases e1 : a = i
    · by_cases e2 : b = i
      · rw [e1, e2]
      · rw [if_pos e1, if_neg e2] at e
        rw [if_neg e2] at hpb
        have := h.rlt hb hpb; omega
    · by_cases e2 : b = i
      · rw [if_neg e1, if_pos e2] at e
        rw [if_neg e1] at hpa
        have := h.rlt ha hpa; omega
      · rw [if_neg e1, if_neg e2] at e
        rw [if_neg e1] at hpa
        rw [if_neg e2] at hpb
        exact h.inj a b ha hb hpa hpb e
theorem TbP.congr {tr te : TypeId} {w : World} {bl : Nat} {r : Nat → Nat} {N M : Nat} {p p' : Nat → Bool} {g g' : Nat → Nat → Int} (h : TbP tr te w bl r N M p g) (hp : ∀ i, i < N → p i = p' i) (hg : ∀ i j, i < N → j < M → g i j = g' i j) : TbP tr te w bl r N M p' g' := by
  refine ⟨?_, fun i hi hpi => ?_, fun i hi hpi => h.off i hi (by rw [hp i hi]; exact hpi), fun i j hi hj h1 h2 e => h.inj i j hi hj (by rw [hp i hi]; exact h1) (by rw [hp j hj]; exact h2) e⟩
  · rw [h.head]
    congr 2
    apply rowA_congr
    intro i hi
    rw [hp i hi]
  · rw [h.row i hi (by rw [hp i hi]; exact hpi)]
    congr 2
    apply rowA_congr
    intro j hj
    rw [hg i j hi hj]
/-- What the table has when all behind row i, and of row i what stands at q and behind it, is reckoned. -/
def gAt {α : Type} [DecidableEq α] (a b : List α) (i q : Nat) (x y : Nat) : Int := if i < x ∨ (x = i ∧ q ≤ y) then (lcsAt a b x y : Int) else 0
theorem gAt_start {α : Type} [DecidableEq α] (a b : List α) (x y : Nat) : gAt a b a.length 0 x y = 0 := by
  unfold gAt
  split
  · rw [lcsAt_end1 (by omega)]; rfl
  · rfl
theorem gAt_row {α : Type} [DecidableEq α] (a b : List α) (i x y : Nat) : gAt a b (i + 1) 0 x y = gAt a b i b.length x y := by
  unfold gAt
  by_cases h : i + 1 < x ∨ (x = i + 1 ∧ 0 ≤ y)
  · rw [if_pos h, if_pos (by omega)]
  · rw [if_neg h]
    by_cases h2 : i < x ∨ (x = i ∧ b.length ≤ y)
    · rw [if_pos h2, lcsAt_end2 (by omega)]; rfl
    · rw [if_neg h2]
theorem gAt_step {α : Type} [DecidableEq α] (a b : List α) (i q x y : Nat) : (if x = i ∧ y = q then ((lcsAt a b i q : Nat) : Int) else gAt a b i (q + 1) x y) = gAt a b i q x y := by
  unfold gAt
  by_cases h : x = i ∧ y = q
  · rw [if_pos h, if_pos (by omega), h.1, h.2]
  · rw [if_neg h]
    by_cases h2 : i < x ∨ (x = i ∧ q + 1 ≤ y)
    · rw [if_pos h2, if_pos (by omega)]
    · rw [if_neg h2, if_neg (by omega)]
theorem gAt_eq {α : Type} [DecidableEq α] (a b : List α) (x y : Nat) : gAt a b 0 0 x y = (lcsAt a b x y : Int) := by unfold gAt; rw [if_pos (by omega)]
theorem gAt_1 {α : Type} [DecidableEq α] (a b : List α) (i q y : Nat) : gAt a b i q (i + 1) y = (lcsAt a b (i + 1) y : Int) := by unfold gAt; rw [if_pos (by omega)]
theorem gAt_0 {α : Type} [DecidableEq α] (a b : List α) (i q y : Nat) (h : q ≤ y) : gAt a b i q i y = (lcsAt a b i y : Int) := by unfold gAt; rw [if_pos (by omega)]
end Go.Proofs.Ytnimmpidplfnnaa
