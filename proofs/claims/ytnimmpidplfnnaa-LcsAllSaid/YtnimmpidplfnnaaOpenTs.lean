/-
  Arguments opened: slices of texts, as slices that read so.
-/
import Derived.Test.YtnimmpidplfnnaaStE
import Derived.Test.YtnimmpidplfnnaaSeG
import Derived.OpenShut
import Derived.ProofKit
import Derived.SliceStrings
namespace Go.Proofs.Ytnimmpidplfnnaa
open Go.ChangeShapes Go.WideShapes Go.ChangeAt Go.RowKit

theorem cells_strT : Try.prog.cellsOf 9 = 1 := by kernel_rfl
theorem strings_atT {w : World} {a : Addr} {ss : List ByteArray} (h : ∀ i, i < ss.length → w.cell? (a.add i) = some (.string (ss.getD i ByteArray.empty))) (hp : 0 < ss.length) :
    ∃ b off, a = ⟨b, off, none⟩ ∧ ∀ j, j < ss.length → w.cell? ⟨b, off + j, none⟩ = some (.string (ss.getD j ⟨#[]⟩)) := by
  obtain ⟨b, off, spot⟩ := a
  have hspot : spot = none := by simpa [Addr.add] using World.cell?_spot (h 0 hp)
  subst hspot
  exact ⟨b, off, rfl, fun j hj => by rw [← Go.WideShapes.add_plain]; exact h j hj⟩
theorem open_ts {H : Type} {enc : TypeId × Value → H} {W : World} {base : Nat} {v : Value} {d : DataW H} {p : List MemPlace} (hval : Value.okWide Try.prog W .any base 22 v) (h : DataW.Trod enc Try.prog W 0 (fun _ => true) true 22 v d p) :
    ∃ A len cap ss, v = .slice A len cap ∧ SE encStr W W.heap.size (.slice A len cap) ss := by
  obtain ⟨A, len, cap, rfl⟩ := okWide_slice Try.underlying22 hval
  obtain ⟨fuel, hf⟩ := h
  rcases open_strings Try.underlying22 Try.underlying9 cells_strT hf with ⟨hcs, _⟩ | ⟨a, len', cap', zs, hcs, _, hl, hm, hz, _, hcell, hwz⟩
  · simp [Value.cells] at hcs
    obtain ⟨rfl, rfl, rfl⟩ := hcs
    exact ⟨none, 0, 0, [], rfl, SE.nil _ _ _⟩
  · simp [Value.cells] at hcs
    obtain ⟨rfl, rfl, rfl⟩ := hcs
    simp only [if_true] at hz
    have hzl : (zs.take len).length = len := by rw [List.length_take]; omega
    by_cases h0 : cap = 0
    · have hl0 : len = 0 := by omega
      have h00 : zs.take len = [] := List.length_eq_zero_iff.1 (by omega)
      exact ⟨some a, len, cap, zs.take len, rfl, some a, cap, by rw [hzl], by omega, hm, .inl h00⟩
    · obtain ⟨b, off, rfl, hc⟩ := strings_atT hcell (by omega)
      refine ⟨some ⟨b, off, none⟩, len, cap, zs.take len, rfl, some ⟨b, off, none⟩, cap, by rw [hzl], by omega, hm, .inr ⟨b, off, rfl, block_lt_of_cell (hc 0 (by omega)), fun j u hj => ?_⟩⟩
      rw [all_encStr, List.getElem?_map] at hj
      obtain ⟨t, ht, rfl⟩ := Option.map_eq_some_iff.1 hj
      have hjl := (List.getElem?_eq_some_iff.1 ht).1
      rw [hzl] at hjl
      rw [hc j (by omega)]
      rw [List.getElem?_take_of_lt hjl] at ht
      rw [List.getD_eq_getElem?_getD, ht]; rfl
end Go.Proofs.Ytnimmpidplfnnaa
