/-
  Slices that the call made: where they lie; two of two types lie apart.
-/
import Derived.Test.YtnimmpidplfnnaaOwnG
namespace Go.Proofs.Ytnimmpidplfnnaa
open Go.RowKit

theorem Own.keep {α : Type} {size : Nat} {E : Enc α size} {e : TypeId} {w w' : World} {base : Nat} {v : Value} {xs : List α} (h : Own E e w base v xs)
    (hk : ∀ g, base ≤ g → g < w.heap.size → v.ownBlock = Option.some g → w'.heap[g]? = w.heap[g]?) : Own E e w' base v xs := by
  refine ⟨h.1, ?_⟩
  rcases h.2 with h | ⟨g, cap, cur, h1, h2, h3, h4⟩
  · exact .inl h
  · refine .inr ⟨g, cap, cur, h1, h2, ?_, h4⟩
    rw [hk g h2 (Array.getElem?_eq_some_iff.1 h3).1 (by rw [h1]; rfl)]; exact h3

theorem Own.lies {α : Type} {size : Nat} {E : Enc α size} {e : TypeId} {w : World} {base : Nat} {v : Value} {xs : List α} (h : Own E e w base v xs) {g : Nat} (hg : v.ownBlock = Option.some g) : base ≤ g ∧ ∃ cur, w.heap[g]? = Option.some (.cells cur e (0, 0)) := by
  rcases h.2 with ⟨h1, _⟩ | ⟨b, cap, cur, h1, h2, h3, _⟩
  · rw [h1] at hg; cases hg
  · rw [h1] at hg; injection hg with hg
    have hg : b = g := hg
    subst hg; exact ⟨h2, cur, h3⟩
theorem Own.less {α : Type} {size : Nat} {E : Enc α size} {e : TypeId} {w : World} {base : Nat} {v : Value} {xs : List α} (h : Own E e w base v xs) {g : Nat} (hg : v.ownBlock = Option.some g) : g < w.heap.size := by
  obtain ⟨_, cur, h3⟩ := h.lies hg
  exact (Array.getElem?_eq_some_iff.1 h3).1
/-- Rows of two types lie apart. -/
theorem Own.away {α β : Type} {s1 s2 : Nat} {E : Enc α s1} {F : Enc β s2} {e f : TypeId} {w : World} {b1 b2 : Nat} {u v : Value} {xs : List α} {ys : List β} (h : Own E e w b1 u xs) (k : Own F f w b2 v ys) (hne : e ≠ f) {g : Nat} (hg : u.ownBlock = Option.some g) : Option.some g ≠ v.ownBlock := by
  intro hv
  obtain ⟨_, c1, h1⟩ := h.lies hg
  obtain ⟨_, c2, h2⟩ := k.lies hv.symm
  rw [h1] at h2
  injection h2 with h2
  injection h2 with h2 h3
  exact hne h3
end Go.Proofs.Ytnimmpidplfnnaa
