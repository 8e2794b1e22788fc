/-
  Arguments opened: a value, by value.
-/
import Derived.Test.YtgnandbokgfeiaaDoorVaU
import Derived.OpenShut
import Derived.ProofKit
import Derived.ChangeArms
namespace Go.Proofs.YtgnandbokgfeiaaDoor
open Go.ChangeShapes Go.WideShapes Go.ChangeAt Go.RowKit

theorem one_atV {l : List Value} {j : Nat} {x : Value} (h : (l.drop j).take 1 = [x]) : l[j]? = some x := by
  have h1 : (l.drop j)[0]? = some x := by
    cases hd : l.drop j with
    | nil => rw [hd] at h; cases h
    | cons a t => rw [hd] at h; simp at h; subst h; rfl
  rw [List.getElem?_drop] at h1; exact h1
theorem cells_val : Tryd.prog.cellsOf 23 = 3 := by kernel_rfl
theorem cells_stringV : Tryd.prog.cellsOf 9 = 1 := by kernel_rfl
theorem cells_intV : Tryd.prog.cellsOf 3 = 1 := by kernel_rfl
set_option maxRecDepth 100000 in
theorem open_val {H : Type} {enc : TypeId × Value → H} {W : World} {base : Nat} {v : Value} {d : DataW H} {p : List MemPlace} (hval : Value.okWide Tryd.prog W .any base 23 v) (h : DataW.Trod enc Tryd.prog W 0 (fun _ => true) true 23 v d p) :
    ∃ (k n : Int) (s : ByteArray), v = .agg #[.int .i64 k, .int .i64 n, .string s] ∧ (-9223372036854775808 ≤ n ∧ n ≤ 9223372036854775807) ∧ s.size ≤ maxLen := by
  obtain ⟨cs, rfl, hsz⟩ := okWide_struct Tryd.underlying23 hval
  obtain ⟨fuel, hf⟩ := h
  obtain ⟨xs, n, _, _, hl, hlen, hg⟩ := DataW.trod_struct Tryd.underlying23 hf
  have hx : ∀ j, j < 3 → ∃ y, xs[j]? = some y := fun j hj => ⟨_, List.getElem?_eq_getElem (by rw [hlen]; exact hj)⟩
  obtain ⟨y0, e0⟩ := hx 0 (by omega)
  obtain ⟨y1, e1⟩ := hx 1 (by omega)
  obtain ⟨y2, e2⟩ := hx 2 (by omega)
  obtain ⟨k, a0, _, _⟩ := DataW.trod_int Tryd.underlying3 ((hg 0 _ rfl).trans e0)
  obtain ⟨m, a1, _, w1⟩ := DataW.trod_int Tryd.underlying3 ((hg 1 _ rfl).trans e1)
  obtain ⟨s, a2, _, z2⟩ := DataW.trod_string Tryd.underlying9 ((hg 2 _ rfl).trans e2)
  have k0 : (cs.toList.drop 0).take (Tryd.prog.cellsOf 3) = [.int .i64 k] := a0
  have k1 : (cs.toList.drop 1).take (Tryd.prog.cellsOf 3) = [.int .i64 m] := a1
  have k2 : (cs.toList.drop 2).take (Tryd.prog.cellsOf 9) = [.string s] := a2
  rw [cells_intV] at k0 k1
  rw [cells_stringV] at k2
  have b0 := one_atV k0
  have b1 := one_atV k1
  have b2 := one_atV k2
  rw [cells_val] at hsz
  refine ⟨k, m, s, ?_, ?_, z2⟩
  · congr 1
    apply Array.ext'
    obtain ⟨l⟩ := cs
    match l, hsz with
    | [u0, u1, u2], _ =>
      simp at b0 b1 b2
      rw [b0, b1, b2]
  · exact bounds_i64 w1
end Go.Proofs.YtgnandbokgfeiaaDoor
