/-
  Layer 3, the reference: whether a reference may be, its text.
-/
import Derived.Test.YtdapnipodnhpkaaDoorAddrB
import Derived.MapKept
namespace Go.Proofs.YtdapnipodnhpkaaDoor
open Go.RowKit

set_option maxRecDepth 100000 in
set_option maxHeartbeats 400000 in
theorem refMay_any (s : ByteArray) (c r : Int) (ac ar : Bool) (w : World) (_hs : s.size ≤ 1000000) :
    Calls Tryd.prog 16 #[.agg #[.string s, .int .i64 c, .int .i64 r, .bool ac, .bool ar]] w fun e w' => e = .returned (.bool (mayL (sb s) c r)) ∧ Below w.heap.size w w' := by
  by_cases h0 : s.size = 0
  · have := sb_nil s h0
    subst this
    have hm : mayL (sb ⟨#[]⟩) c r = decide (0 ≤ c ∧ c ≤ 701 ∧ 0 ≤ r ∧ r ≤ 998) := by unfold mayL; rw [show decide (sb ⟨#[]⟩ = []) = true from by decide, Bool.true_or, Bool.true_and]
    have HM := Lib.hid hm; clear hm
    go_enter Tryd.func16, Tryd.ntmps16
    go_wp2
    all_goals go_ret
    all_goals exact ⟨ret_bool (by rw [HM.out]; first | (symm; rw [decide_eq_true_iff]; omega) | (symm; rw [decide_eq_false_iff_not]; omega) | (rw [decide_eq_decide]; omega)), (Below.refl _ _).alloc (Nat.le_refl _) _⟩
  · have hne := text_ne0 s h0
    have hm : mayL (sb s) c r = (nameL (sb s) && decide (0 ≤ c ∧ c ≤ 701 ∧ 0 ≤ r ∧ r ≤ 998)) := by
      unfold mayL; rw [decide_eq_false (by intro h; have := length_sb s; rw [h] at this; exact h0 this.symm), Bool.false_or]
    have HM := Lib.hid hm; clear hm h0
    by_cases hn : nameL (sb s) = true
    · go_enter Tryd.func16, Tryd.ntmps16
      go_wp2_with (first
        | (go_at_call 27; ((with_reducible refine (refName_any _ _ ?_).mono ?_); (first | omega | skip); rintro e w' ⟨rfl, rfl⟩)))
      all_goals go_ret
      all_goals exact ⟨ret_bool (by rw [HM.out, hn, Bool.true_and]; first | (symm; rw [decide_eq_true_iff]; omega) | (symm; rw [decide_eq_false_iff_not]; omega) | (rw [decide_eq_decide]; omega)), (Below.refl _ _).alloc (Nat.le_refl _) _⟩
    · have hn' : nameL (sb s) = false := by simpa using hn
      clear hn
      go_enter Tryd.func16, Tryd.ntmps16
      go_wp2_with (first
        | (go_at_call 27; ((with_reducible refine (refName_any _ _ ?_).mono ?_); (first | omega | skip); rintro e w' ⟨rfl, rfl⟩)))
      all_goals go_ret
      all_goals exact ⟨ret_bool (by rw [HM.out, hn', Bool.false_and]), (Below.refl _ _).alloc (Nat.le_refl _) _⟩
end Go.Proofs.YtdapnipodnhpkaaDoor
