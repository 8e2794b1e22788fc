/-
  Layer 3, the reference: letters, names, columns.
-/
import Derived.Test.YtdapnipodnhpkaaDoorOwnS
import Derived.Test.YtdapnipodnhpkaaDoorAddrU
namespace Go.Proofs.YtdapnipodnhpkaaDoor
open Go.RowKit

set_option maxHeartbeats 400000 in
theorem refCapital_any (c : Int) (_h0 : 0 ≤ c) (_h1 : c ≤ 255) (w : World) :
    Calls Tryd.prog 43 #[.int .u8 c] w fun e w' => e = .returned (.bool (isCap c)) ∧ w = w' := by
  go_enter Tryd.func43, Tryd.ntmps43
  go_wp2
  all_goals go_ret
  all_goals exact ⟨ret_bool (by unfold isCap; first | rfl | (symm; rw [decide_eq_true_iff]; omega) | (symm; rw [decide_eq_false_iff_not]; omega) | (rw [decide_eq_decide]; omega)), rfl⟩

set_option maxHeartbeats 400000 in
theorem refDigit_any (c : Int) (_h0 : 0 ≤ c) (_h1 : c ≤ 255) (w : World) :
    Calls Tryd.prog 21 #[.int .u8 c] w fun e w' => e = .returned (.bool (isNum c)) ∧ w = w' := by
  go_enter Tryd.func21, Tryd.ntmps21
  go_wp2
  all_goals go_ret
  all_goals exact ⟨ret_bool (by unfold isNum; first | rfl | (symm; rw [decide_eq_true_iff]; omega) | (symm; rw [decide_eq_false_iff_not]; omega) | (rw [decide_eq_decide]; omega)), rfl⟩

set_option maxHeartbeats 400000 in
theorem refLetter_any (c : Int) (_h0 : 0 ≤ c) (_h1 : c ≤ 255) (w : World) :
    Calls Tryd.prog 24 #[.int .u8 c] w fun e w' => e = .returned (.bool (isLet c)) ∧ w = w' := by
  go_enter Tryd.func24, Tryd.ntmps24
  go_wp2
  all_goals go_ret
  all_goals exact ⟨ret_bool (by unfold isLet; first | rfl | (rw [Bool.eq_iff_iff]; simp only [Bool.or_eq_true, decide_eq_true_iff]; omega) | (symm; rw [decide_eq_true_iff]; omega) | (symm; rw [decide_eq_false_iff_not]; omega) | (rw [decide_eq_decide]; omega)), rfl⟩

set_option maxRecDepth 100000 in
set_option maxHeartbeats 400000 in
theorem refName_any (s : ByteArray) (w : World) (_hs : s.size ≤ 1000000) :
    Calls Tryd.prog 27 #[.string s] w fun e w' => e = .returned (.bool (nameL (sb s))) ∧ w = w' := by
  go_enter Tryd.func27, Tryd.ntmps27
  go_wp2
  go_loopw [3] (fun i wr => ∃ k : Nat, k ≤ s.size ∧ i = .int .i64 k ∧ Hid (∀ j, j < k → inName j ((sb s).getD j 0) = true) ∧ w = wr)
    (fun i _ => s.size - (intOf i).toNat)
  case atStart => exact ⟨0, by omega, rfl, Lib.hid (fun j hj => absurd hj (by omega)), rfl⟩
  case round =>
    obtain ⟨k, hk, rfl, HG, rfl⟩ := hrel
    by_cases hlt : k < s.size
    · have hki : (k : Int) < (s.size : Int) := by omega
      obtain ⟨a, ha⟩ : ∃ a : Int, (s[k].toNat : Int) = a := ⟨_, rfl⟩
      have ha1 : 0 ≤ a ∧ a ≤ 255 := by have := s[k].toNat_lt; omega
      have hga : (sb s).getD k 0 = a := by rw [sb_getD s k hlt, ha]
      have HGA := Lib.hid hga; clear hga
      by_cases hl : isLet a = true
      · go_wp2_with (first
          | (go_at_call 24; ((with_reducible refine (refLetter_any _ ?_ ?_ _).mono ?_); (first | omega | skip); (first | omega | skip); rintro e w' ⟨rfl, rfl⟩)))
        go_roundw
        case rel =>
          refine ⟨k + 1, by omega, by go_num, Lib.hid ?_, by trivial⟩
          intro j hj
          by_cases h1 : j < k
          · exact HG.out j h1
          · rw [show j = k from by omega, HGA.out]; unfold inName; rw [hl, Bool.true_or]
        case measure => simp [intOf]; omega
      · have hl' : isLet a = false := by simpa using hl
        clear hl
        by_cases hn : isNum a = true
        · by_cases hk0 : 0 < k
          · have hk1 : (0 : Int) < (k : Int) := by omega
            go_wp2_with (first
              | (go_at_call 24; ((with_reducible refine (refLetter_any _ ?_ ?_ _).mono ?_); (first | omega | skip); (first | omega | skip); rintro e w' ⟨rfl, rfl⟩))
              | (go_at_call 21; ((with_reducible refine (refDigit_any _ ?_ ?_ _).mono ?_); (first | omega | skip); (first | omega | skip); rintro e w' ⟨rfl, rfl⟩)))
            go_roundw
            case rel =>
              refine ⟨k + 1, by omega, by go_num, Lib.hid ?_, by trivial⟩
              intro j hj
              by_cases h1 : j < k
              · exact HG.out j h1
              · rw [show j = k from by omega, HGA.out]; unfold inName; rw [hl', hn, decide_eq_true hk0]; rfl
            case measure => simp [intOf]; omega
          · have hk1 : ¬ (0 : Int) < (k : Int) := by omega
            have hno := nameL_bad s k hlt (by rw [HGA.out]; unfold inName; rw [hl', decide_eq_false hk0]; rfl)
            have HNO := Lib.hid hno; clear hno
            go_wp2_with (first
              | (go_at_call 24; ((with_reducible refine (refLetter_any _ ?_ ?_ _).mono ?_); (first | omega | skip); (first | omega | skip); rintro e w' ⟨rfl, rfl⟩)))
            go_ret
            exact ⟨ret_bool HNO.out.symm, rfl⟩
        · have hn' : isNum a = false := by simpa using hn
          clear hn
          have hno := nameL_bad s k hlt (by rw [HGA.out]; unfold inName; rw [hl', hn', Bool.and_false]; rfl)
          have HNO := Lib.hid hno; clear hno
          go_wp2_with (first
            | (go_at_call 24; ((with_reducible refine (refLetter_any _ ?_ ?_ _).mono ?_); (first | omega | skip); (first | omega | skip); rintro e w' ⟨rfl, rfl⟩))
            | (go_at_call 21; ((with_reducible refine (refDigit_any _ ?_ ?_ _).mono ?_); (first | omega | skip); (first | omega | skip); rintro e w' ⟨rfl, rfl⟩)))
          all_goals go_ret
          all_goals exact ⟨ret_bool HNO.out.symm, rfl⟩
    · have hki : ¬ (k : Int) < (s.size : Int) := by omega
      have hno := nameL_all s (fun j hj => HG.out j (by omega))
      have HNO := Lib.hid hno; clear hno
      go_wp2
      all_goals go_ret
      all_goals exact ⟨ret_bool (by rw [HNO.out]; first | (symm; rw [decide_eq_true_iff]; omega) | (symm; rw [decide_eq_false_iff_not]; omega) | (rw [decide_eq_decide]; omega)), rfl⟩

set_option maxRecDepth 100000 in
set_option maxHeartbeats 400000 in
theorem refReadCol_any (s : ByteArray) (w : World) (_hs : s.size ≤ 1000000) :
    Calls Tryd.prog 44 #[.string s] w fun e w' => e = .returned (.tuple #[.int .i64 (readColL (sb s)), .bool (isCol (sb s))]) ∧ ∃ n, w' = w.drewN n := by
  by_cases hl : 1 ≤ s.size ∧ s.size ≤ 2
  · by_cases h1 : s.size = 1
    · have hp0 : 0 < s.size := by omega
      obtain ⟨a, ha⟩ : ∃ a : Int, (s[0].toNat : Int) = a := ⟨_, rfl⟩
      have ha1 : 0 ≤ a ∧ a ≤ 255 := by have := s[0].toNat_lt; omega
      have hg0 : (sb s).getD 0 0 = a := by rw [sb_getD s 0 hp0, ha]
      have hic : isCol (sb s) = isCap a := by unfold isCol; rw [length_sb, h1, hg0, Bool.and_self]; rfl
      have hrc : readColL (sb s) = if isCap a = true then a - 65 else 0 := by unfold readColL; rw [hic, length_sb, h1, hg0]; rfl
      have HIC := Lib.hid hic; clear hic
      have HRC := Lib.hid hrc; clear hrc
      have hz1 : (s.size : Int) = 1 := by omega
      clear hl hg0
      by_cases hc : isCap a = true
      · have hr : 65 ≤ a ∧ a ≤ 90 := by unfold isCap at hc; rw [decide_eq_true_iff] at hc; exact hc
        go_enter Tryd.func44, Tryd.ntmps44
        go_wp2_with (first
          | (go_at_call 43; ((with_reducible refine (refCapital_any _ ?_ ?_ _).mono ?_); (first | omega | skip); (first | omega | skip); rintro e w' ⟨rfl, rfl⟩)))
        all_goals go_ret2
        all_goals exact ⟨by rw [HIC.out, HRC.out, hc]; rfl, 0, rfl⟩
      · have hc' : isCap a = false := by simpa using hc
        clear hc
        go_enter Tryd.func44, Tryd.ntmps44
        go_wp2_with (first
          | (go_at_call 43; ((with_reducible refine (refCapital_any _ ?_ ?_ _).mono ?_); (first | omega | skip); (first | omega | skip); rintro e w' ⟨rfl, rfl⟩)))
        all_goals go_ret2
        all_goals exact ⟨by rw [HIC.out, HRC.out, hc']; rfl, 0, rfl⟩
    · have h2 : s.size = 2 := by omega
      have hp0 : 0 < s.size := by omega
      have hp1 : 1 < s.size := by omega
      obtain ⟨a, ha⟩ : ∃ a : Int, (s[0].toNat : Int) = a := ⟨_, rfl⟩
      obtain ⟨b, hb⟩ : ∃ b : Int, (s[1].toNat : Int) = b := ⟨_, rfl⟩
      have ha1 : 0 ≤ a ∧ a ≤ 255 := by have := s[0].toNat_lt; omega
      have hb1 : 0 ≤ b ∧ b ≤ 255 := by have := s[1].toNat_lt; omega
      have hg0 : (sb s).getD 0 0 = a := by rw [sb_getD s 0 hp0, ha]
      have hg1 : (sb s).getD 1 0 = b := by rw [sb_getD s 1 hp1, hb]
      have hic : isCol (sb s) = (isCap a && isCap b) := by unfold isCol; rw [length_sb, h2, hg0, hg1]; rfl
      have hrc : readColL (sb s) = if (isCap a && isCap b) = true then 26 * (a - 64) + (b - 65) else 0 := by unfold readColL; rw [hic, length_sb, h2, hg0, hg1]; rfl
      have HIC := Lib.hid hic; clear hic
      have HRC := Lib.hid hrc; clear hrc
      have hz1 : (s.size : Int) = 2 := by omega
      clear hl hg0 hg1 h1
      by_cases hc : isCap a = true
      · have hr : 65 ≤ a ∧ a ≤ 90 := by unfold isCap at hc; rw [decide_eq_true_iff] at hc; exact hc
        by_cases hd : isCap b = true
        · have hr2 : 65 ≤ b ∧ b ≤ 90 := by unfold isCap at hd; rw [decide_eq_true_iff] at hd; exact hd
          go_enter Tryd.func44, Tryd.ntmps44
          go_wp2_with (first
            | (go_at_call 43; ((with_reducible refine (refCapital_any _ ?_ ?_ _).mono ?_); (first | omega | skip); (first | omega | skip); rintro e w' ⟨rfl, rfl⟩)))
          go_quiet (fail)
          go_wp2_with fail
          all_goals go_ret2
          all_goals exact ⟨ret_ib (by rw [HRC.out, hc, hd]; simp only [Bool.and_self, if_true]; omega) (by rw [HIC.out, hc, hd]; rfl), _, rfl⟩
        · have hd' : isCap b = false := by simpa using hd
          clear hd
          go_enter Tryd.func44, Tryd.ntmps44
          go_wp2_with (first
            | (go_at_call 43; ((with_reducible refine (refCapital_any _ ?_ ?_ _).mono ?_); (first | omega | skip); (first | omega | skip); rintro e w' ⟨rfl, rfl⟩)))
          all_goals go_ret2
          all_goals exact ⟨by rw [HIC.out, HRC.out, hc, hd']; rfl, 0, rfl⟩
      · have hc' : isCap a = false := by simpa using hc
        clear hc
        go_enter Tryd.func44, Tryd.ntmps44
        go_wp2_with (first
          | (go_at_call 43; ((with_reducible refine (refCapital_any _ ?_ ?_ _).mono ?_); (first | omega | skip); (first | omega | skip); rintro e w' ⟨rfl, rfl⟩)))
        all_goals go_ret2
        all_goals exact ⟨by rw [HIC.out, HRC.out, hc']; rfl, 0, rfl⟩
  · have hno : isCol (sb s) = false := by unfold isCol; rw [length_sb, decide_eq_false hl, Bool.false_and]
    have hn2 : readColL (sb s) = 0 := by unfold readColL; rw [hno]; rfl
    have HNO := Lib.hid hno; clear hno
    have HN2 := Lib.hid hn2; clear hn2
    go_enter Tryd.func44, Tryd.ntmps44
    go_wp2
    all_goals first | omega | skip
    all_goals go_ret2
    all_goals exact ⟨by rw [HNO.out, HN2.out]; rfl, 0, rfl⟩
end Go.Proofs.YtdapnipodnhpkaaDoor
