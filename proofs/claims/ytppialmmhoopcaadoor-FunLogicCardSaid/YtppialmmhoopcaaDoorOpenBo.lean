/-
  Arguments opened: slices of truths.
-/
import Derived.Test.YtppialmmhoopcaaDoorFuA
import Derived.OpenShut
import Derived.ProofKit
import Derived.ChangeSlices
namespace Go.Proofs.YtppialmmhoopcaaDoor
open Go.ChangeShapes Go.WideShapes Go.ChangeAt Go.RowKit

theorem cells_bool : Tryd.prog.cellsOf 4 = 1 := by kernel_rfl
def boolOf : Option Value → Bool
  | some (.bool b) => b
  | _ => false
set_option maxRecDepth 100000 in
theorem open_bo {H : Type} {enc : TypeId × Value → H} {W : World} {base : Nat} {v : Value} {d : DataW H} {p : List MemPlace} (hval : Value.okWide Tryd.prog W .any base 38 v) (h : DataW.Trod enc Tryd.prog W 0 (fun _ => true) true 38 v d p) :
    ∃ xs, SG Value.bool W W.heap.size v xs := by
  obtain ⟨A, len, cap, rfl⟩ := okWide_slice Tryd.underlying38 hval
  obtain ⟨fuel, hf⟩ := h
  rcases DataW.trod_slice Tryd.underlying38 hf with ⟨hcs, _⟩ | ⟨a, len', cap', elems, rest, n, _, hcs, _, _, _, _, hlen, hel, _, _⟩
  · simp [Value.cells] at hcs
    obtain ⟨rfl, rfl, rfl⟩ := hcs
    exact ⟨[], none, 0, rfl, .inl rfl⟩
  · simp [Value.cells] at hcs
    obtain ⟨rfl, rfl, rfl⟩ := hcs
    by_cases h0 : len = 0
    · subst h0; exact ⟨[], some a, cap, rfl, .inl rfl⟩
    have hcell : ∀ i, i < len → ∃ b, W.cell? (a.add i) = some (.bool b) := fun i hi => by
      have h1 := hel i hi
      obtain ⟨y, hy⟩ : ∃ y, elems[i]? = some y := ⟨_, List.getElem?_eq_getElem (by omega)⟩
      rw [hy, cells_bool, Nat.mul_one, Option.bind_eq_some_iff] at h1
      obtain ⟨cs', hcs, hy'⟩ := h1
      obtain ⟨b, rfl, _⟩ := DataW.trod_bool Tryd.underlying4 hy'
      exact ⟨b, cell_of_cells?_one hcs⟩
    obtain ⟨b, off, spot⟩ := a
    have hspot : spot = none := by
      obtain ⟨b0, hb0⟩ := hcell 0 (by omega)
      simpa [Addr.add] using World.cell?_spot hb0
    subst hspot
    have hc : ∀ j, j < len → ∃ x, W.cell? ⟨b, off + j, none⟩ = some (.bool x) := fun j hj => by
      obtain ⟨x, hx⟩ := hcell j hj
      exact ⟨x, by rw [← Go.WideShapes.add_plain]; exact hx⟩
    refine ⟨(List.range len).map (fun j => boolOf (W.cell? ⟨b, off + j, none⟩)), some ⟨b, off, none⟩, cap, by simp, .inr ⟨b, off, rfl, ?_, fun j x hj => ?_⟩⟩
    · obtain ⟨x, hx⟩ := hc 0 (by omega)
      exact block_lt_of_cell hx
    · rw [List.getElem?_map, Option.map_eq_some_iff] at hj
      obtain ⟨k, hk, rfl⟩ := hj
      obtain ⟨hk1, hk2⟩ := List.getElem?_eq_some_iff.1 hk
      simp at hk1 hk2
      subst hk2
      obtain ⟨x, hx⟩ := hc _ hk1
      rw [hx]; rfl
end Go.Proofs.YtppialmmhoopcaaDoor
