/-
  Layer 4, the reference: words.
-/
import Derived.Test.YtdapnipodnhpkaaDoorLexRA
import Derived.Test.YtdapnipodnhpkaaDoorLexF
import Derived.Test.YtdapnipodnhpkaaDoorRefRdX
namespace Go.Proofs.YtdapnipodnhpkaaDoor
open Go.RowKit

theorem called_bad (s : ByteArray) (k : Nat) (h : k < s.size) (hx : (isCap ((sb s).getD k 0) || isNum ((sb s).getD k 0)) = false) : calledL (sb s) = false := by
  unfold calledL; rw [Bool.and_eq_false_iff]; left; rw [decide_eq_false_iff_not]; intro hall
  have := hall ((sb s).getD k 0) (by rw [sb_getD s k h]; exact List.mem_of_getElem? (sb_at s k h))
  rw [hx] at this; cases this
theorem called_all (s : ByteArray) (h : ∀ j, j < s.size → (isCap ((sb s).getD j 0) || isNum ((sb s).getD j 0)) = true) : calledL (sb s) = (decide (1 ≤ s.size ∧ s.size ≤ 12) && isCap ((sb s).getD 0 0)) := by
  unfold calledL; rw [decide_eq_true (show ∀ x ∈ sb s, (isCap x || isNum x) = true from ?_), Bool.true_and, length_sb]
  intro x hx
  obtain ⟨j, hj, rfl⟩ := List.mem_iff_getElem.1 hx
  have := h j (by rw [length_sb] at hj; exact hj)
  rw [List.getD_eq_getElem?_getD, List.getElem?_eq_getElem hj] at this
  exact this
set_option maxRecDepth 100000 in
set_option maxHeartbeats 800000 in
theorem refCalled_any (s : ByteArray) (w : World) (_hs : s.size ≤ 1000000) :
    Calls Tryd.prog 36 #[.string s] w fun e w' => e = .returned (.bool (calledL (sb s))) ∧ w = w' := by
  go_enter Tryd.func36, Tryd.ntmps36
  go_wp2_with fail
  go_loopw [3] (fun i wr => ∃ k : Nat, k ≤ s.size ∧ i = .int .i64 k ∧ Hid (∀ j, j < k → (isCap ((sb s).getD j 0) || isNum ((sb s).getD j 0)) = true) ∧ w = wr)
    (fun i _ => s.size - (intOf i).toNat)
  case atStart => exact ⟨0, by omega, rfl, Lib.hid (by intro j hj; omega), rfl⟩
  case round =>
    obtain ⟨k, hk, rfl, HG, rfl⟩ := hrel
    by_cases hlt : k < s.size
    · have hki : (k : Int) < (s.size : Int) := by omega
      obtain ⟨a, ha⟩ : ∃ a : Int, (s[k].toNat : Int) = a := ⟨_, rfl⟩
      have ha1 : 0 ≤ a ∧ a ≤ 255 := by have := s[k].toNat_lt; omega
      have HGB := Lib.hid (show (sb s).getD k 0 = a by rw [sb_getD s k hlt, ha])
      have hnext : (isCap a || isNum a) = true → ∀ j, j < k + 1 → (isCap ((sb s).getD j 0) || isNum ((sb s).getD j 0)) = true := by
        intro h j hj
        by_cases h1 : j < k
        · exact HG.out j h1
        · rw [show j = k from by omega, HGB.out]; exact h
      have HNEXT := Lib.hid hnext; clear hnext
      cases hc : isCap a
      · cases hn : isNum a
        · have HNO := Lib.hid (called_bad s k hlt (by rw [HGB.out, hc, hn]; rfl))
          go_wp2_with (first
            | (go_at_call 43; ((with_reducible refine (refCapital_any _ ?_ ?_ _).mono ?_); (first | omega | skip); (first | omega | skip); rintro e w' ⟨rfl, rfl⟩; rw [hc]))
            | (go_at_call 21; ((with_reducible refine (refDigit_any _ ?_ ?_ _).mono ?_); (first | omega | skip); (first | omega | skip); rintro e w' ⟨rfl, rfl⟩; rw [hn])))
          go_ret
          exact ⟨ret_bool HNO.out.symm, rfl⟩
        · go_wp2_with (first
            | (go_at_call 43; ((with_reducible refine (refCapital_any _ ?_ ?_ _).mono ?_); (first | omega | skip); (first | omega | skip); rintro e w' ⟨rfl, rfl⟩; rw [hc]))
            | (go_at_call 21; ((with_reducible refine (refDigit_any _ ?_ ?_ _).mono ?_); (first | omega | skip); (first | omega | skip); rintro e w' ⟨rfl, rfl⟩; rw [hn])))
          go_roundw
          case rel => exact ⟨k + 1, by omega, by go_num, Lib.hid (HNEXT.out (by rw [hc, hn]; rfl)), by trivial⟩
          case measure => simp [intOf]; omega
      · go_wp2_with (first
          | (go_at_call 43; ((with_reducible refine (refCapital_any _ ?_ ?_ _).mono ?_); (first | omega | skip); (first | omega | skip); rintro e w' ⟨rfl, rfl⟩; rw [hc])))
        go_roundw
        case rel => exact ⟨k + 1, by omega, by go_num, Lib.hid (HNEXT.out (by rw [hc]; rfl)), by trivial⟩
        case measure => simp [intOf]; omega
    · have hki : ¬ (k : Int) < (s.size : Int) := by omega
      have HA := Lib.hid (called_all s (fun j hj => HG.out j (by omega)))
      by_cases h1 : 1 ≤ s.size ∧ s.size ≤ 12
      · have hi1 : (1 : Int) ≤ (s.size : Int) := by omega
        have hi2 : (s.size : Int) ≤ 12 := by omega
        have hp0 : 0 < s.size := by omega
        obtain ⟨a, ha⟩ : ∃ a : Int, (s[0].toNat : Int) = a := ⟨_, rfl⟩
        have ha1 : 0 ≤ a ∧ a ≤ 255 := by have := s[0].toNat_lt; omega
        rw [decide_eq_true h1, Bool.true_and, sb_getD s 0 hp0, ha] at HA
        go_wp2_with (first
          | (go_at_call 43; ((with_reducible refine (refCapital_any _ ?_ ?_ _).mono ?_); (first | omega | skip); (first | omega | skip); rintro e w' ⟨rfl, rfl⟩)))
        go_ret
        exact ⟨ret_bool HA.out.symm, rfl⟩
      · rw [decide_eq_false h1, Bool.false_and] at HA
        by_cases h0 : 1 ≤ s.size
        · have hi1 : (1 : Int) ≤ (s.size : Int) := by omega
          have hi2 : ¬ (s.size : Int) ≤ 12 := by omega
          go_wp2_with fail
          go_ret
          exact ⟨ret_bool HA.out.symm, rfl⟩
        · have hi1 : ¬ (1 : Int) ≤ (s.size : Int) := by omega
          go_wp2_with fail
          go_ret
          exact ⟨ret_bool HA.out.symm, rfl⟩
end Go.Proofs.YtdapnipodnhpkaaDoor
