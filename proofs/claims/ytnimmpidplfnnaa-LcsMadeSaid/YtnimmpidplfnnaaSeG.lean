/-
  A slice that reads as these, whoever made it.
-/
import Derived.Test.YtnimmpidplfnnaaOwnX
namespace Go.Proofs.Ytnimmpidplfnnaa
open Go.RowKit

/-- A slice that reads as these, below block B. -/
def SE {α : Type} {k : Nat} (E : Enc α k) (w : World) (B : Nat) (v : Value) (xs : List α) : Prop :=
  ∃ A cap, v = .slice A xs.length cap ∧ xs.length ≤ cap ∧ cap ≤ maxLen ∧ (xs = [] ∨ ∃ pb po, A = some ⟨pb, po, none⟩ ∧ pb < B ∧ ∀ (j : Nat) (u : Value), (E.all xs)[j]? = some u → w.cell? ⟨pb, po + j, none⟩ = some u)
theorem SE.below {α : Type} {k : Nat} {E : Enc α k} {w w' : World} {B C : Nat} {v : Value} {xs : List α} (h : SE E w B v xs) (hb : Below C w w') (hC : B ≤ C) : SE E w' B v xs := by
  obtain ⟨A, cap, h1, h2, h3, h4⟩ := h
  refine ⟨A, cap, h1, h2, h3, h4.imp id ?_⟩
  rintro ⟨pb, po, e1, e2, e3⟩
  exact ⟨pb, po, e1, e2, fun j x hj => (hb.cell (p := ⟨pb, po + j, none⟩) (by show pb < C; omega)).trans (e3 j x hj)⟩
theorem SE.mono {α : Type} {k : Nat} {E : Enc α k} {w : World} {B C : Nat} {v : Value} {xs : List α} (h : SE E w B v xs) (hC : B ≤ C) : SE E w C v xs := by
  obtain ⟨A, cap, h1, h2, h3, h4⟩ := h
  refine ⟨A, cap, h1, h2, h3, h4.imp id ?_⟩
  rintro ⟨pb, po, e1, e2, e3⟩
  exact ⟨pb, po, e1, by omega, e3⟩
theorem SE.lift {α : Type} {k : Nat} {E : Enc α k} {w w' : World} {v : Value} {xs : List α} (h : SE E w w.heap.size v xs) (hb : Below w.heap.size w w') : SE E w' w'.heap.size v xs := (h.below hb (Nat.le_refl _)).mono hb.size
theorem Own.se {α : Type} {k : Nat} {E : Enc α k} {e : TypeId} {w : World} {base : Nat} {v : Value} {xs : List α} (h : Own E e w base v xs) : SE E w w.heap.size v xs := by
  rcases h.shape with ⟨rfl, rfl⟩ | ⟨g, cap, rfl, hg, hl, hc, hm⟩
  · exact ⟨none, 0, rfl, Nat.le_refl _, by unfold maxLen; omega, .inl rfl⟩
  · exact ⟨_, _, rfl, hc, hm, .inr ⟨g, 0, rfl, hl, fun j u hj => by rw [Nat.zero_add]; exact h.cells j u hj⟩⟩
theorem SE.nil {α : Type} {k : Nat} (E : Enc α k) (w : World) (B : Nat) : SE E w B (.slice none 0 0) ([] : List α) := ⟨none, 0, rfl, Nat.le_refl _, by unfold maxLen; omega, .inl rfl⟩
theorem SE.at {α : Type} {k : Nat} {E : Enc α k} {w : World} {B : Nat} {A : Option Addr} {n cap : Nat} {xs : List α} (h : SE E w B (.slice A n cap) xs) {i : Nat} {x : α} (hi : xs[i]? = some x) :
    ∃ pb po, A = some ⟨pb, po, none⟩ ∧ pb < B ∧ ∀ (j : Nat) (u : Value), (E.f x)[j]? = some u → w.cell? ⟨pb, po + (i * k + j), none⟩ = some u := by
  obtain ⟨A', cap', h1, -, -, h2⟩ := h
  injection h1 with e1 e2 e3
  subst e1
  rcases h2 with rfl | ⟨pb, po, h1, h2, h3⟩
  · simp at hi
  · refine ⟨pb, po, h1, h2, fun j u hj => h3 _ u ?_⟩
    have hjk : j < k := by rw [← E.len x]; exact (List.getElem?_eq_some_iff.1 hj).1
    rw [E.at xs i j x hi hjk]; exact hj
theorem SE.len {α : Type} {k : Nat} {E : Enc α k} {w : World} {B : Nat} {A : Option Addr} {n cap : Nat} {xs : List α} (h : SE E w B (.slice A n cap) xs) : xs.length = n ∧ n ≤ cap ∧ cap ≤ maxLen := by
  obtain ⟨A', cap', h1, h2, h3, -⟩ := h
  injection h1 with e1 e2 e3
  subst e3; exact ⟨e2.symm, by omega, h3⟩
end Go.Proofs.Ytnimmpidplfnnaa
