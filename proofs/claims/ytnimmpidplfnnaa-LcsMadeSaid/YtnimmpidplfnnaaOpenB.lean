/-
  Arguments opened: slices of bytes.
-/
import Derived.Test.YtnimmpidplfnnaaOwnS
import Derived.OpenShut
import Derived.ProofKit
namespace Go.Proofs.Ytnimmpidplfnnaa
open Go.ChangeShapes Go.WideShapes Go.ChangeAt Go.RowKit

theorem cells_u8 : Try.prog.cellsOf 5 = 1 := by kernel_rfl
set_option maxRecDepth 100000 in
theorem open_s8 {H : Type} {enc : TypeId × Value → H} {W : World} {base : Nat} {v : Value} {d : DataW H} {p : List MemPlace} (hval : Value.okWide Try.prog W .any base 31 v) (h : DataW.Trod enc Try.prog W 0 (fun _ => true) true 31 v d p) :
    ∃ A len cap xs, v = .slice A len cap ∧ S8 W W.heap.size A len cap xs := by
  obtain ⟨A, len, cap, rfl⟩ := okWide_slice Try.underlying31 hval
  obtain ⟨fuel, hf⟩ := h
  rcases open_ints Try.underlying31 Try.underlying5 cells_u8 hf with ⟨hcs, _⟩ | ⟨a, len', cap', zs, hcs, _, hl, hm, hz, _, hcell, hwz⟩
  · simp [Value.cells] at hcs
    obtain ⟨rfl, rfl, rfl⟩ := hcs
    exact ⟨none, 0, 0, [], rfl, rfl, Nat.le_refl _, by unfold maxLen; omega, Bytes.nil, .inl rfl⟩
  · simp [Value.cells] at hcs
    obtain ⟨rfl, rfl, rfl⟩ := hcs
    simp only [if_true] at hz
    have hb : Bytes zs := fun n hn => bounds_u8 (hwz n hn)
    by_cases h0 : cap = 0
    · have hl0 : len = 0 := by omega
      exact ⟨some a, len, cap, zs.take len, rfl, by rw [List.length_take]; omega, hl, hm, hb.take _, .inl hl0⟩
    · obtain ⟨b, off, rfl, hc⟩ := ints_at hcell (by omega)
      refine ⟨some ⟨b, off, none⟩, len, cap, zs.take len, rfl, by rw [List.length_take]; omega, hl, hm, hb.take _, .inr ⟨b, off, rfl, block_lt_of_cell (hc 0 (by omega)), fun j hj => ?_⟩⟩
      rw [hc j (by omega)]
      congr 2
      simp only [List.getD_eq_getElem?_getD]
      rw [List.getElem?_take_of_lt hj]
end Go.Proofs.Ytnimmpidplfnnaa
