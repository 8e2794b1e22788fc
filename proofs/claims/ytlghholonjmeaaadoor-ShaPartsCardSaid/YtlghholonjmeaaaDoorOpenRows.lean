/-
  A slice of slices of bytes opened.
-/
import Derived.Test.YtlghholonjmeaaaDoorLawParts
import Derived.OpenShut
import Derived.ProofKit
import Derived.Deep.Matrix
namespace Go.Proofs.YtlghholonjmeaaaDoor
open Go.ChangeShapes Go.WideShapes Go.ChangeAt Go.RowKit

theorem cellsOf_u8 : Tryd.prog.cellsOf 5 = 1 := by kernel_rfl
theorem cellsOf_bytes : Tryd.prog.cellsOf 22 = 1 := by kernel_rfl
theorem slices_at {w : World} {a : Addr} {n : Nat} {V : Nat → Value} (h : ∀ r, r < n → w.cell? (a.add r) = some (V r)) (hp : 0 < n) :
    ∃ b off, a = ⟨b, off, none⟩ ∧ ∀ r, r < n → w.cell? ⟨b, off + r, none⟩ = some (V r) := by
  obtain ⟨b, off, spot⟩ := a
  have hspot : spot = none := by simpa [Addr.add] using World.cell?_spot (h 0 hp)
  subst hspot
  exact ⟨b, off, rfl, fun j hj => by rw [← Go.WideShapes.add_plain]; exact h j hj⟩

theorem open_ss {H : Type} {enc : TypeId × Value → H} {W : World} {base : Nat} {v : Value} {d : DataW H} {p : List MemPlace} (hval : Value.okWide Tryd.prog W .any base 26 v) (h : DataW.Trod enc Tryd.prog W 0 (fun _ => true) true 26 v d p) :
    ∃ A len cap R, v = .slice A len cap ∧ SS W W.heap.size A len cap R := by
  obtain ⟨A, len, cap, rfl⟩ := okWide_slice Tryd.underlying26 hval
  obtain ⟨fuel, hf⟩ := h
  rcases Go.Deep.open_int_rows Tryd.underlying26 Tryd.underlying22 Tryd.underlying5 cellsOf_bytes cellsOf_u8 hf with ⟨hcs, _⟩ | ⟨a, len', cap', AA, L, C, Z, hcs, _, hl, hm, _, hr⟩
  · simp [Value.cells] at hcs
    obtain ⟨rfl, rfl, rfl⟩ := hcs
    exact ⟨none, 0, 0, fun _ => (none, 0, 0, []), rfl, Nat.le_refl _, by unfold maxLen; omega, .inl rfl⟩
  · simp [Value.cells] at hcs
    obtain ⟨rfl, rfl, rfl⟩ := hcs
    by_cases h0 : len = 0
    · exact ⟨some a, len, cap, fun _ => (none, 0, 0, []), rfl, hl, hm, .inl h0⟩
    · obtain ⟨b, off, rfl, hc⟩ := slices_at (n := cap) (V := fun r => .slice (AA r) (L r) (C r)) (fun r hrc => (hr r hrc).1) (by omega)
      refine ⟨some ⟨b, off, none⟩, len, cap, fun r => (AA r, L r, C r, (Z r).take (L r)), rfl, hl, hm, .inr ⟨b, off, rfl, block_lt_of_cell (hc 0 (by omega)), fun r hrl => ⟨hc r (by omega), ?_⟩⟩⟩
      obtain ⟨_, e1, e2, e3, e4, e5, e6⟩ := hr r (by omega)
      have hb : Bytes (Z r) := fun n hn => bounds_u8 (e4 n hn)
      refine ⟨by show ((Z r).take (L r)).length = L r; rw [List.length_take, e3]; omega, e1, e2, hb.take _, ?_⟩
      by_cases hL : L r = 0
      · exact .inl hL
      · cases hA : AA r with
        | none => have := e5 hA; omega
        | some a' =>
          obtain ⟨b', off', rfl, hc'⟩ := slices_at (n := C r) (V := fun c => .int .u8 ((Z r).getD c 0)) (fun c hcc => (e6 a' hA).2 c hcc) (by omega)
          refine .inr ⟨b', off', rfl, block_lt_of_cell (hc' 0 (by omega)), fun j hj => ?_⟩
          have hj : j < L r := hj
          rw [hc' j (by omega)]
          congr 2
          simp only [List.getD_eq_getElem?_getD]
          rw [List.getElem?_take_of_lt hj]
end Go.Proofs.YtlghholonjmeaaaDoor
