/-
  Layer 4, the program: blanks; a text that stands there; names; by which method a token is read.
-/
import Derived.Test.YtdapnipodnhpkaaDoorLexB
namespace Go.Proofs.YtdapnipodnhpkaaDoor
open Go.RowKit

set_option maxHeartbeats 400000 in
theorem skipBlanks_any (b : Nat) (s : ByteArray) (k : Nat) (w : World) (h : LxAt w b s k) (_hs : s.size ≤ 1000000) (_hk : k ≤ s.size) :
    Calls Tryd.prog 13 #[.pointer (some ⟨b, 0, none⟩)] w fun e w' => w.grownBy w' (some b) ∧ e = .returned (.tuple #[]) ∧ LxAt w' b s (k + ((restL s k).takeWhile isBl).length) := by
  have HW := Lib.hid (whileBlank_any b s k w h _hs _hk); clear h
  go_enter Tryd.func13, Tryd.ntmps13
  go_wp2_with (go_at_call 18; ((with_reducible refine HW.out.mono ?_); rintro e w1 ⟨h1, rfl, h2⟩; have H1 := Lib.hid h1; have H2 := Lib.hid h2; clear h1 h2))
  first
    | exact bodyPost_ret (results_none rfl _ _ _) rfl ⟨H1.out, rfl, H2.out⟩
    | (go_end0; exact ⟨H1.out, rfl, H2.out⟩)

/-- Whether a text stands at the head. -/
def headL (p l : List Int) : Bool := decide (l.take p.length = p)
theorem hasPrefix_nums : ∀ (l p : List UInt8), Lib.hasPrefix l p = headL (p.map fun x => (x.toNat : Int)) (l.map fun x => (x.toNat : Int))
  | l, [] => by unfold Lib.hasPrefix headL; simp
  | [], x :: p => by unfold Lib.hasPrefix headL; simp
  | y :: l, x :: p => by
    have ih := hasPrefix_nums l p
    unfold Lib.hasPrefix headL at ih ⊢
    rw [List.isPrefixOf_cons_cons, ih]
    simp only [List.map_cons, List.length_cons, List.take_succ_cons, List.cons.injEq]
    rw [Bool.eq_iff_iff, Bool.and_eq_true, beq_iff_eq, decide_eq_true_iff, decide_eq_true_iff]
    refine and_congr ⟨fun h => by rw [h], fun h => ?_⟩ Iff.rfl
    apply UInt8.toNat_inj.1; omega
theorem headL_len {p l : List Int} (h : headL p l = true) : p.length ≤ l.length := by
  unfold headL at h; rw [decide_eq_true_iff] at h
  have := congrArg List.length h
  rw [List.length_take] at this; omega
theorem prefix_rest (s t : ByteArray) (k : Nat) : Lib.hasPrefix (s.extract k s.size).data.toList t.data.toList = headL (sb t) (restL s k) := by
  rw [hasPrefix_nums]
  show headL (sb t) (sb (s.extract k s.size)) = _
  congr 1
  by_cases hk : k ≤ s.size
  · have := ext_sbL s k (s.size - k)
    rw [show k + (s.size - k) = s.size from by omega] at this
    rw [this]
    unfold restL
    rw [List.take_of_length_le]
    rw [List.length_drop, length_sb]; omega
  · have h1 : (sb (s.extract k s.size)).length = 0 := by rw [length_sb, ByteArray.size_extract]; omega
    have h2 : (restL s k).length = 0 := by rw [length_restL]; omega
    rw [List.eq_nil_of_length_eq_zero h1, List.eq_nil_of_length_eq_zero h2]

set_option maxHeartbeats 400000 in
theorem take_any (b : Nat) (s t : ByteArray) (k : Nat) (w : World) (h : LxAt w b s k) (_hs : s.size ≤ 1000000) (_hk : k ≤ s.size) (_ht : t.size ≤ 1000000) :
    Calls Tryd.prog 38 #[.pointer (some ⟨b, 0, none⟩), .string t] w fun e w' => w.grownBy w' (some b) ∧ e = .returned (.bool (headL (sb t) (restL s k))) ∧ LxAt w' b s (if headL (sb t) (restL s k) = true then k + t.size else k) := by
  obtain ⟨c0, c1⟩ := h.facts
  have f1 := h.frozen 1
  have HR := Lib.hid h; clear h
  have hz1 : (0 : Int) ≤ (k : Int) := by omega
  have hz2 : (k : Int) ≤ (s.size : Int) := by omega
  cases hq : headL (sb t) (restL s k)
  · have HP := Lib.hid (prefix_rest s t k); rw [hq] at HP
    go_enter Tryd.func38, Tryd.ntmps38
    go_wp2_with fail
    go_quiet ((go_at_call 47; exact Calls.quiet_of_same ((Tryd.strings_HasPrefix _ _ _).mono (fun _ _ ⟨a, c⟩ => ⟨by rw [a, HP.out], c⟩))))
    go_wp2_with fail
    go_ret
    exact ⟨grownBy.drewN' (grownBy.refl' _ _) _, rfl, HR.out.drewN _⟩
  · have HP := Lib.hid (prefix_rest s t k); rw [hq] at HP
    have hle := headL_len hq
    rw [length_restL, length_sb] at hle
    go_enter Tryd.func38, Tryd.ntmps38
    go_wp2_with fail
    go_quiet ((go_at_call 47; exact Calls.quiet_of_same ((Tryd.strings_HasPrefix _ _ _).mono (fun _ _ ⟨a, c⟩ => ⟨by rw [a, HP.out], c⟩))))
    go_wp2_with fail
    go_ret
    exact ⟨grownBy.setCell' (grownBy.drewN' (grownBy.refl' _ _) _) _ _, rfl, (HR.out.drewN _).setK (k + t.size)⟩

/-- Capital letters and digits, few. -/
def nmL (l : List Int) : Bool := decide (∀ x ∈ l, (isCap x || isNum x) = true) && decide (l.length ≤ 12)
theorem nmL_bad (s : ByteArray) (k : Nat) (h : k < s.size) (hx : (isCap ((sb s).getD k 0) || isNum ((sb s).getD k 0)) = false) : nmL (sb s) = false := by
  unfold nmL; rw [Bool.and_eq_false_iff]; left; rw [decide_eq_false_iff_not]; intro hall
  have := hall ((sb s).getD k 0) (by rw [sb_getD s k h]; exact List.mem_of_getElem? (sb_at s k h))
  rw [hx] at this; cases this
theorem nmL_all (s : ByteArray) (h : ∀ j, j < s.size → (isCap ((sb s).getD j 0) || isNum ((sb s).getD j 0)) = true) : nmL (sb s) = decide (s.size ≤ 12) := by
  unfold nmL; rw [decide_eq_true (show ∀ x ∈ sb s, (isCap x || isNum x) = true from ?_), Bool.true_and, length_sb]
  intro x hx
  obtain ⟨j, hj, rfl⟩ := List.mem_iff_getElem.1 hx
  have := h j (by rw [length_sb] at hj; exact hj)
  rw [List.getD_eq_getElem?_getD, List.getElem?_eq_getElem hj] at this
  exact this

set_option maxRecDepth 100000 in
set_option maxHeartbeats 400000 in
theorem isName_any (s : ByteArray) (w : World) (_hs : s.size ≤ 1000000) :
    Calls Tryd.prog 42 #[.string s] w fun e w' => e = .returned (.bool (nmL (sb s))) ∧ w = w' := by
  go_enter Tryd.func42, Tryd.ntmps42
  go_wp2_with fail
  go_loopw [6] (fun i wr => ∃ k : Nat, k ≤ s.size ∧ i = .int .i64 k ∧ Hid (∀ j, j < k → (isCap ((sb s).getD j 0) || isNum ((sb s).getD j 0)) = true) ∧ w = wr)
    (fun i _ => s.size - (intOf i).toNat)
  case atStart => exact ⟨0, by omega, rfl, Lib.hid (by intro j hj; omega), rfl⟩
  case round =>
    obtain ⟨k, hk, rfl, HG, rfl⟩ := hrel
    by_cases hlt : k < s.size
    · have hki : (k : Int) < (s.size : Int) := by omega
      obtain ⟨a, ha⟩ : ∃ a : Int, (s[k].toNat : Int) = a := ⟨_, rfl⟩
      have ha1 : 0 ≤ a ∧ a ≤ 255 := by have := s[k].toNat_lt; omega
      have HGB := Lib.hid (show (sb s).getD k 0 = a by rw [sb_getD s k hlt, ha])
      have hnext : (isCap a || isNum a) = true → ∀ j, j < k + 1 → (isCap ((sb s).getD j 0) || isNum ((sb s).getD j 0)) = true := by
        intro h j hj
        by_cases h1 : j < k
        · exact HG.out j h1
        · rw [show j = k from by omega, HGB.out]; exact h
      have HNEXT := Lib.hid hnext; clear hnext
      cases hc : isCap a
      · cases hn : isNum a
        · have HNO := Lib.hid (nmL_bad s k hlt (by rw [HGB.out, hc, hn]; rfl))
          go_wp2_with (first
            | (go_at_call 39; ((with_reducible refine (lexCapital_any _ ?_ ?_ _).mono ?_); (first | omega | skip); (first | omega | skip); rintro e w' ⟨rfl, rfl⟩; rw [hc]))
            | (go_at_call 28; ((with_reducible refine (lexDigit_any _ ?_ ?_ _).mono ?_); (first | omega | skip); (first | omega | skip); rintro e w' ⟨rfl, rfl⟩; rw [hn])))
          go_ret
          exact ⟨ret_bool HNO.out.symm, rfl⟩
        · go_wp2_with (first
            | (go_at_call 39; ((with_reducible refine (lexCapital_any _ ?_ ?_ _).mono ?_); (first | omega | skip); (first | omega | skip); rintro e w' ⟨rfl, rfl⟩; rw [hc]))
            | (go_at_call 28; ((with_reducible refine (lexDigit_any _ ?_ ?_ _).mono ?_); (first | omega | skip); (first | omega | skip); rintro e w' ⟨rfl, rfl⟩; rw [hn])))
          go_roundw
          case rel => exact ⟨k + 1, by omega, by go_num, Lib.hid (HNEXT.out (by rw [hc, hn]; rfl)), by trivial⟩
          case measure => simp [intOf]; omega
      · go_wp2_with (first
          | (go_at_call 39; ((with_reducible refine (lexCapital_any _ ?_ ?_ _).mono ?_); (first | omega | skip); (first | omega | skip); rintro e w' ⟨rfl, rfl⟩; rw [hc])))
        go_roundw
        case rel => exact ⟨k + 1, by omega, by go_num, Lib.hid (HNEXT.out (by rw [hc]; rfl)), by trivial⟩
        case measure => simp [intOf]; omega
    · have hki : ¬ (k : Int) < (s.size : Int) := by omega
      have HA := Lib.hid (nmL_all s (fun j hj => HG.out j (by omega)))
      go_wp2_with fail
      go_ret
      refine ⟨ret_bool (by rw [HA.out, decide_eq_decide]; omega), rfl⟩

/-- By which method what begins with c is read. -/
def methN (c : Int) : FuncId := if isNum c = true then 29 else if c = 34 then 30 else if c = 35 then 31 else if isBeg c = true then 33 else 34
theorem methN_num {c : Int} (h : isNum c = true) : methN c = 29 := by unfold methN; rw [if_pos h]
theorem methN_quo {c : Int} (h : isNum c = false) (h1 : c = 34) : methN c = 30 := by unfold methN; rw [if_neg (by simp [h]), if_pos h1]
theorem methN_dead {c : Int} (h : isNum c = false) (h1 : ¬ c = 34) (h2 : c = 35) : methN c = 31 := by unfold methN; rw [if_neg (by simp [h]), if_neg h1, if_pos h2]
theorem methN_word {c : Int} (h : isNum c = false) (h1 : ¬ c = 34) (h2 : ¬ c = 35) (h3 : isBeg c = true) : methN c = 33 := by unfold methN; rw [if_neg (by simp [h]), if_neg h1, if_neg h2, if_pos h3]
theorem methN_sign {c : Int} (h : isNum c = false) (h1 : ¬ c = 34) (h2 : ¬ c = 35) (h3 : isBeg c = false) : methN c = 34 := by unfold methN; rw [if_neg (by simp [h]), if_neg h1, if_neg h2, if_neg (by simp [h3])]
set_option maxHeartbeats 400000 in
theorem methodOf_any (c : Int) (_h0 : 0 ≤ c) (_h1 : c ≤ 255) (w : World) :
    Calls Tryd.prog 20 #[.int .u8 c] w fun e w' => e = .returned (.func (.func (methN c)) #[] #[]) ∧ w = w' := by
  cases hn : isNum c
  · by_cases h34 : c = 34
    · have HM := Lib.hid (methN_quo hn h34)
      have hb1 : (c == 34) = true := beq_iff_eq.2 h34
      clear h34
      go_enter Tryd.func20, Tryd.ntmps20
      go_wp2_with (first
        | (go_at_call 28; ((with_reducible refine (lexDigit_any _ ?_ ?_ _).mono ?_); (first | omega | skip); (first | omega | skip); rintro e w' ⟨rfl, rfl⟩; rw [hn]))
        | (go_at_call 32; ((with_reducible refine (beginsWord_any _ ?_ ?_ _).mono ?_); (first | omega | skip); (first | omega | skip); rintro e w' ⟨rfl, rfl⟩; rw [hb])))
      all_goals go_ret
      all_goals exact ⟨by rw [HM.out]; rfl, rfl⟩
    · have hb1 : (c == 34) = false := beq_eq_false_iff_ne.2 h34
      by_cases h35 : c = 35
      · have HM := Lib.hid (methN_dead hn h34 h35)
        have hb2 : (c == 35) = true := beq_iff_eq.2 h35
        clear h34 h35
        go_enter Tryd.func20, Tryd.ntmps20
        go_wp2_with (first
          | (go_at_call 28; ((with_reducible refine (lexDigit_any _ ?_ ?_ _).mono ?_); (first | omega | skip); (first | omega | skip); rintro e w' ⟨rfl, rfl⟩; rw [hn]))
          | (go_at_call 32; ((with_reducible refine (beginsWord_any _ ?_ ?_ _).mono ?_); (first | omega | skip); (first | omega | skip); rintro e w' ⟨rfl, rfl⟩; rw [hb])))
        all_goals go_ret
        all_goals exact ⟨by rw [HM.out]; rfl, rfl⟩
      · have hb2 : (c == 35) = false := beq_eq_false_iff_ne.2 h35
        cases hb : isBeg c
        · have HM := Lib.hid (methN_sign hn h34 h35 hb)
          clear h34 h35
          go_enter Tryd.func20, Tryd.ntmps20
          go_wp2_with (first
            | (go_at_call 28; ((with_reducible refine (lexDigit_any _ ?_ ?_ _).mono ?_); (first | omega | skip); (first | omega | skip); rintro e w' ⟨rfl, rfl⟩; rw [hn]))
            | (go_at_call 32; ((with_reducible refine (beginsWord_any _ ?_ ?_ _).mono ?_); (first | omega | skip); (first | omega | skip); rintro e w' ⟨rfl, rfl⟩; rw [hb])))
          all_goals go_ret
          all_goals exact ⟨by rw [HM.out]; rfl, rfl⟩
        · have HM := Lib.hid (methN_word hn h34 h35 hb)
          clear h34 h35
          go_enter Tryd.func20, Tryd.ntmps20
          go_wp2_with (first
            | (go_at_call 28; ((with_reducible refine (lexDigit_any _ ?_ ?_ _).mono ?_); (first | omega | skip); (first | omega | skip); rintro e w' ⟨rfl, rfl⟩; rw [hn]))
            | (go_at_call 32; ((with_reducible refine (beginsWord_any _ ?_ ?_ _).mono ?_); (first | omega | skip); (first | omega | skip); rintro e w' ⟨rfl, rfl⟩; rw [hb])))
          all_goals go_ret
          all_goals exact ⟨by rw [HM.out]; rfl, rfl⟩
  · have HM := Lib.hid (methN_num hn)
    go_enter Tryd.func20, Tryd.ntmps20
    go_wp2_with (first
      | (go_at_call 28; ((with_reducible refine (lexDigit_any _ ?_ ?_ _).mono ?_); (first | omega | skip); (first | omega | skip); rintro e w' ⟨rfl, rfl⟩; rw [hn]))
      | (go_at_call 32; ((with_reducible refine (beginsWord_any _ ?_ ?_ _).mono ?_); (first | omega | skip); (first | omega | skip); rintro e w' ⟨rfl, rfl⟩; skip)))
    all_goals go_ret
    all_goals exact ⟨by rw [HM.out]; rfl, rfl⟩
end Go.Proofs.YtdapnipodnhpkaaDoor
