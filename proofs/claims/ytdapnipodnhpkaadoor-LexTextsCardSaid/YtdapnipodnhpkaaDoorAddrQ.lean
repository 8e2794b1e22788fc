/-
  Layer 3, the program: bytes, names, a column's letters.
-/
import Derived.Test.YtdapnipodnhpkaaDoorAddrP
namespace Go.Proofs.YtdapnipodnhpkaaDoor
open Go.RowKit

set_option maxHeartbeats 400000 in
theorem isCapital_any (c : Int) (_h0 : 0 ≤ c) (_h1 : c ≤ 255) (w : World) :
    Calls Tryd.prog 64 #[.int .u8 c] w fun e w' => e = .returned (.bool (isCap c)) ∧ w = w' := by
  go_enter Tryd.func64, Tryd.ntmps64
  go_wp2
  all_goals go_ret
  all_goals exact ⟨ret_bool (by unfold isCap; first | rfl | (symm; rw [decide_eq_true_iff]; omega) | (symm; rw [decide_eq_false_iff_not]; omega) | (rw [decide_eq_decide]; omega)), rfl⟩

set_option maxHeartbeats 400000 in
theorem isDigit_any (c : Int) (_h0 : 0 ≤ c) (_h1 : c ≤ 255) (w : World) :
    Calls Tryd.prog 65 #[.int .u8 c] w fun e w' => e = .returned (.bool (isNum c)) ∧ w = w' := by
  go_enter Tryd.func65, Tryd.ntmps65
  go_wp2
  all_goals go_ret
  all_goals exact ⟨ret_bool (by unfold isNum; first | rfl | (symm; rw [decide_eq_true_iff]; omega) | (symm; rw [decide_eq_false_iff_not]; omega) | (rw [decide_eq_decide]; omega)), rfl⟩

theorem isLet_cap {c : Int} (h : isCap c = true) : isLet c = true := by unfold isCap at h; unfold isLet; rw [decide_eq_true_iff] at h ⊢; omega
theorem isLet_nocap {c : Int} (h : isCap c = false) : isLet c = decide (97 ≤ c ∧ c ≤ 122) := by unfold isCap at h; unfold isLet; rw [decide_eq_false_iff_not] at h; rw [decide_eq_decide]; omega

set_option maxHeartbeats 400000 in
theorem isLetter_any (c : Int) (_h0 : 0 ≤ c) (_h1 : c ≤ 255) (w : World) :
    Calls Tryd.prog 71 #[.int .u8 c] w fun e w' => e = .returned (.bool (isLet c)) ∧ w = w' := by
  by_cases hc : isCap c = true
  · have hl := isLet_cap hc
    have HL := Lib.hid hl; clear hl
    go_enter Tryd.func71, Tryd.ntmps71
    go_wp2_with (go_at_call 64; ((with_reducible refine (isCapital_any _ ?_ ?_ _).mono ?_); (first | omega | skip); (first | omega | skip); rintro e w' ⟨rfl, rfl⟩))
    all_goals go_ret
    all_goals exact ⟨ret_bool (by rw [HL.out]), rfl⟩
  · have hc' : isCap c = false := by simpa using hc
    have hl := isLet_nocap hc'
    have HL := Lib.hid hl; clear hl hc
    go_enter Tryd.func71, Tryd.ntmps71
    go_wp2_with (go_at_call 64; ((with_reducible refine (isCapital_any _ ?_ ?_ _).mono ?_); (first | omega | skip); (first | omega | skip); rintro e w' ⟨rfl, rfl⟩))
    all_goals go_ret
    all_goals exact ⟨ret_bool (by rw [HL.out]; first | rfl | (symm; rw [decide_eq_true_iff]; omega) | (symm; rw [decide_eq_false_iff_not]; omega) | (rw [decide_eq_decide]; omega)), rfl⟩

theorem nameL_nil (s : ByteArray) (h : s.size = 0) : nameL (sb s) = false := by
  unfold nameL; rw [length_sb, h, Bool.and_eq_false_iff]; right; rfl
theorem nameL_long (s : ByteArray) (h : 12 < s.size) : nameL (sb s) = false := by
  unfold nameL; rw [length_sb, Bool.and_eq_false_iff]; right; rw [decide_eq_false_iff_not]; omega

set_option maxRecDepth 100000 in
set_option maxHeartbeats 400000 in
theorem name_any (s : ByteArray) (w : World) (_hs : s.size ≤ 1000000) :
    Calls Tryd.prog 62 #[.string s] w fun e w' => e = .returned (.bool (nameL (sb s))) ∧ w = w' := by
  by_cases h0 : s.size = 0
  · have hz := sb_nil s h0
    have hno := nameL_nil s h0
    have HNO := Lib.hid hno; clear hno
    subst hz
    clear h0 _hs
    go_enter Tryd.func62, Tryd.ntmps62
    go_wp2_with fail
    all_goals go_ret
    all_goals exact ⟨ret_bool HNO.out.symm, rfl⟩
  · have hne := text_ne0 s h0
    have hne2 : s.toList.isEmpty = false := by cases hq : s.toList with | nil => exact absurd hq hne | cons a l => rfl
    by_cases h12 : 12 < s.size
    · have hno := nameL_long s h12
      have HNO := Lib.hid hno; clear hno
      have hi12 : (12 : Int) < (s.size : Int) := by omega
      clear h0
      go_enter Tryd.func62, Tryd.ntmps62
      go_wp2_with fail
      all_goals go_ret
      all_goals exact ⟨ret_bool HNO.out.symm, rfl⟩
    · have hi12 : ¬ (12 : Int) < (s.size : Int) := by omega
      have hp0 : 0 < s.size := by omega
      obtain ⟨a, ha⟩ : ∃ a : Int, (s[0].toNat : Int) = a := ⟨_, rfl⟩
      have ha1 : 0 ≤ a ∧ a ≤ 255 := by have := s[0].toNat_lt; omega
      have hga : (sb s).getD 0 0 = a := by rw [sb_getD s 0 hp0, ha]
      have HGA := Lib.hid hga; clear hga
      by_cases hl : isLet a = true
      · have hin : ∀ j, j < 1 → inName j ((sb s).getD j 0) = true := by
          intro j hj; have : j = 0 := by omega
          subst this; rw [HGA.out]; unfold inName; rw [hl]; rfl
        have HIN := Lib.hid hin; clear hin
        clear h0
        go_enter Tryd.func62, Tryd.ntmps62
        go_wp2_with (go_at_call 71; ((with_reducible refine (isLetter_any _ ?_ ?_ _).mono ?_); (first | omega | skip); (first | omega | skip); rintro e w' ⟨rfl, rfl⟩))
        clear hl
        go_loopw [3] (fun i wr => ∃ k : Nat, 1 ≤ k ∧ k ≤ s.size ∧ i = .int .i64 k ∧ Hid (∀ j, j < k → inName j ((sb s).getD j 0) = true) ∧ w = wr)
          (fun i _ => s.size - (intOf i).toNat)
        case atStart => exact ⟨1, by omega, by omega, rfl, HIN, rfl⟩
        case round =>
          obtain ⟨k, hk1, hk, rfl, HG, rfl⟩ := hrel
          by_cases hlt : k < s.size
          · have hki : (k : Int) < (s.size : Int) := by omega
            obtain ⟨b, hb⟩ : ∃ b : Int, (s[k].toNat : Int) = b := ⟨_, rfl⟩
            have hb1 : 0 ≤ b ∧ b ≤ 255 := by have := s[k].toNat_lt; omega
            have hgb : (sb s).getD k 0 = b := by rw [sb_getD s k hlt, hb]
            have HGB := Lib.hid hgb; clear hgb
            by_cases hl : isLet b = true
            · go_wp2_with (first
                | (go_at_call 71; ((with_reducible refine (isLetter_any _ ?_ ?_ _).mono ?_); (first | omega | skip); (first | omega | skip); rintro e w' ⟨rfl, rfl⟩)))
              go_roundw
              case rel =>
                refine ⟨k + 1, by omega, by omega, by go_num, Lib.hid ?_, by trivial⟩
                intro j hj
                by_cases h1 : j < k
                · exact HG.out j h1
                · rw [show j = k from by omega, HGB.out]; unfold inName; rw [hl, Bool.true_or]
              case measure => simp [intOf]; omega
            · have hl' : isLet b = false := by simpa using hl
              clear hl
              by_cases hn : isNum b = true
              · go_wp2_with (first
                  | (go_at_call 71; ((with_reducible refine (isLetter_any _ ?_ ?_ _).mono ?_); (first | omega | skip); (first | omega | skip); rintro e w' ⟨rfl, rfl⟩))
                  | (go_at_call 65; ((with_reducible refine (isDigit_any _ ?_ ?_ _).mono ?_); (first | omega | skip); (first | omega | skip); rintro e w' ⟨rfl, rfl⟩)))
                go_roundw
                case rel =>
                  refine ⟨k + 1, by omega, by omega, by go_num, Lib.hid ?_, by trivial⟩
                  intro j hj
                  by_cases h1 : j < k
                  · exact HG.out j h1
                  · rw [show j = k from by omega, HGB.out]; unfold inName; rw [hl', hn, decide_eq_true (by omega : 0 < k)]; rfl
                case measure => simp [intOf]; omega
              · have hn' : isNum b = false := by simpa using hn
                clear hn
                have hno := nameL_bad s k hlt (by rw [HGB.out]; unfold inName; rw [hl', hn', Bool.and_false]; rfl)
                have HNO := Lib.hid hno; clear hno
                go_wp2_with (first
                  | (go_at_call 71; ((with_reducible refine (isLetter_any _ ?_ ?_ _).mono ?_); (first | omega | skip); (first | omega | skip); rintro e w' ⟨rfl, rfl⟩))
                  | (go_at_call 65; ((with_reducible refine (isDigit_any _ ?_ ?_ _).mono ?_); (first | omega | skip); (first | omega | skip); rintro e w' ⟨rfl, rfl⟩)))
                all_goals go_ret
                all_goals exact ⟨ret_bool HNO.out.symm, rfl⟩
          · have hki : ¬ (k : Int) < (s.size : Int) := by omega
            have hno := nameL_all s (fun j hj => HG.out j (by omega))
            rw [decide_eq_true (by omega)] at hno
            have HNO := Lib.hid hno; clear hno
            go_wp2_with fail
            all_goals go_ret
            all_goals exact ⟨ret_bool HNO.out.symm, rfl⟩
      · have hl' : isLet a = false := by simpa using hl
        have hno := nameL_bad s 0 hp0 (by rw [HGA.out]; unfold inName; rw [hl']; rfl)
        have HNO := Lib.hid hno; clear hno hl h0
        go_enter Tryd.func62, Tryd.ntmps62
        go_wp2_with (go_at_call 71; ((with_reducible refine (isLetter_any _ ?_ ?_ _).mono ?_); (first | omega | skip); (first | omega | skip); rintro e w' ⟨rfl, rfl⟩))
        all_goals go_ret
        all_goals exact ⟨ret_bool HNO.out.symm, rfl⟩
end Go.Proofs.YtdapnipodnhpkaaDoor
