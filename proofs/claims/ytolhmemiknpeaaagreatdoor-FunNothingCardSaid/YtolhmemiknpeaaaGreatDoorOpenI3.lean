/-
  Arguments opened: slices of numbers of 32 bits.
-/
import Derived.Test.YtolhmemiknpeaaaGreatDoorFuA
import Derived.OpenShut
import Derived.ProofKit
import Derived.ChangeSlices
namespace Go.Proofs.YtolhmemiknpeaaaGreatDoor
open Go.ChangeShapes Go.WideShapes Go.ChangeAt Go.RowKit

theorem cells_i32 : Tryz.prog.cellsOf 21 = 1 := by kernel_rfl
set_option maxRecDepth 100000 in
theorem open_i3 {H : Type} {enc : TypeId × Value → H} {W : World} {base : Nat} {v : Value} {d : DataW H} {p : List MemPlace} (hval : Value.okWide Tryz.prog W .any base 22 v) (h : DataW.Trod enc Tryz.prog W 0 (fun _ => true) true 22 v d p) :
    ∃ xs, SG (Value.int .i32) W W.heap.size v xs ∧ ∀ x ∈ xs, -2147483648 ≤ x ∧ x ≤ 2147483647 := by
  obtain ⟨A, len, cap, rfl⟩ := okWide_slice Tryz.underlying22 hval
  obtain ⟨fuel, hf⟩ := h
  rcases open_ints Tryz.underlying22 Tryz.underlying21 cells_i32 hf with ⟨hcs, _⟩ | ⟨a, len', cap', zs, hcs, _, hl, hm, hz, _, hcell, hwz⟩
  · simp [Value.cells] at hcs
    obtain ⟨rfl, rfl, rfl⟩ := hcs
    exact ⟨[], ⟨none, 0, rfl, .inl rfl⟩, by simp⟩
  · simp [Value.cells] at hcs
    obtain ⟨rfl, rfl, rfl⟩ := hcs
    simp only [if_true] at hz
    have hb : ∀ n ∈ zs, -2147483648 ≤ n ∧ n ≤ 2147483647 := fun n hn => bounds_i32 (hwz n hn)
    by_cases h0 : cap = 0
    · have hl0 : len = 0 := by omega
      subst hl0
      exact ⟨[], ⟨some a, cap, rfl, .inl rfl⟩, by simp⟩
    · obtain ⟨b, off, rfl, hc⟩ := ints_at hcell (by omega)
      refine ⟨zs.take len, ⟨some ⟨b, off, none⟩, cap, by rw [List.length_take, hz]; congr 1; omega, .inr ⟨b, off, rfl, block_lt_of_cell (hc 0 (by omega)), fun j x hj => ?_⟩⟩, fun x hx => hb x (List.mem_of_mem_take hx)⟩
      have hlt : j < len := by
        have := (List.getElem?_eq_some_iff.1 hj).1
        rw [List.length_take] at this; omega
      rw [List.getElem?_take_of_lt hlt] at hj
      rw [hc j (by omega), List.getD_eq_getElem?_getD, hj]; rfl
end Go.Proofs.YtolhmemiknpeaaaGreatDoor
