/-
  Rows that hold just these.
-/
import Derived.Test.YtnnnpjdlhdkeaaaBkH
namespace Go.Proofs.Ytnnnpjdlhdkeaaa
open Go.RowKit

/-- The row g holds just these. -/
def RwX {α : Type} {k : Nat} (E : Enc α k) (e : TypeId) (w : World) (g : Nat) (xs : List α) : Prop := w.heap[g]? = some (.cells (E.all xs).toArray e)
theorem RwX.rwA {α : Type} {k : Nat} {E : Enc α k} {e : TypeId} {w : World} {g : Nat} {xs : List α} (h : RwX E e w g xs) : RwA E e w g xs := ⟨_, h, fun j u hj => by simpa using hj⟩
theorem RwX.keep {α : Type} {k : Nat} {E : Enc α k} {e : TypeId} {w w' : World} {g : Nat} {xs : List α} (h : RwX E e w g xs) (hk : w'.heap[g]? = w.heap[g]?) : RwX E e w' g xs := by unfold RwX; rw [hk]; exact h
theorem RwX.set1 {α : Type} {E : Enc α 1} {e : TypeId} {w : World} {g : Nat} {xs : List α} (h : RwX E e w g xs) (i : Nat) (x : α) (u : Value) (hu : E.f x = [u]) : RwX E e (w.setCell ⟨g, i, none⟩ u) g (xs.set i x) := by
  unfold RwX
  rw [heap_setCell_same w g i _ e u h, all_set1 E xs i x u hu]
  simp
theorem RwX.lt {α : Type} {k : Nat} {E : Enc α k} {e : TypeId} {w : World} {g : Nat} {xs : List α} (h : RwX E e w g xs) : g < w.heap.size := (Array.getElem?_eq_some_iff.1 h).1
theorem RwX.own {α : Type} {k : Nat} {E : Enc α k} {e : TypeId} {w : World} {g lo : Nat} {xs : List α} (h : RwX E e w g xs) (hlo : lo ≤ g) (hm : xs.length ≤ maxLen) : Own E e w lo (.slice (some ⟨g, 0, none⟩) xs.length xs.length) xs :=
  ⟨E.length_all xs, .inr ⟨g, xs.length, _, rfl, hlo, h, Nat.le_refl _, hm, by rw [List.size_toArray, E.length_all], by rw [← E.length_all]; simp⟩⟩
theorem own_sl {α : Type} {k : Nat} {E : Enc α k} {e : TypeId} {w : World} {lo : Nat} {v : Value} {xs : List α} (h : Own E e w lo v xs) : ∃ A c, v = .slice A xs.length c := by
  rcases h.shape with ⟨rfl, rfl⟩ | ⟨g, c, rfl, _⟩
  · exact ⟨none, 0, rfl⟩
  · exact ⟨_, c, rfl⟩
end Go.Proofs.Ytnnnpjdlhdkeaaa
