/-
  Layer 4, the reference: texts.
-/
import Derived.Test.YtdapnipodnhpkaaDoorLexRA
import Derived.Test.YtdapnipodnhpkaaDoorLexH
namespace Go.Proofs.YtdapnipodnhpkaaDoor
open Go.RowKit

theorem res_rquoted : Tryd.f23.results = #[.cell 4 34, .tmp 5] := by kernel_rfl
set_option maxRecDepth 100000 in
set_option maxHeartbeats 4000000 in
theorem refQuoted_any (s : ByteArray) (k : Nat) (w : World) (_hs : s.size ≤ 1000000) (_hk : k < s.size) :
    Calls Tryd.prog 23 #[.string s, .int .i64 (k : Int)] w (RefTok (quoT (restL s (k + 1))) k w) := by
  have HTK := Lib.hid (TkAt.zero w)
  have HAL := Lib.hid (show Below w.heap.size w (w.alloc (.cells zTok 34)) from (Below.refl _ _).alloc (Nat.le_refl _) _)
  go_enter Tryd.func23, Tryd.ntmps23
  go_wp2_with fail
  go_loopw [6, 7] (fun v i wr => ∃ (p : Nat) (xs : List Int), i = .int .i64 (p : Int) ∧ k + 1 ≤ p ∧ p ≤ s.size ∧ xs.length ≤ p ∧ Hid (QuoSt s k p xs) ∧ Hid (Own8 wr (w.heap.size + 1) v xs) ∧ Hid (TkAt wr w.heap.size Tk.zero) ∧ Hid (Below w.heap.size w wr))
    (fun _ i _ => s.size - (intOf i).toNat)
  case atStart =>
    refine ⟨k + 1, [], by go_num, by omega, by omega, by simp, Lib.hid ?_, Lib.hid (Own.nil _ _ _ _), HTK, HAL⟩
    unfold QuoSt
    cases quoF (restL s (k + 1)) with
    | none => rfl
    | some q => simp
  case round =>
    clear HTK HAL
    obtain ⟨p, xs, rfl, hkp, hps, hxl, HQ, HO, HT, HB⟩ := hrel
    by_cases hlt : p < s.size
    · have hlt2 : (p : Int) < (s.size : Int) := by omega
      obtain ⟨a, ha⟩ : ∃ a : Int, (s[p].toNat : Int) = a := ⟨_, rfl⟩
      have ha1 : 0 ≤ a ∧ a ≤ 255 := by have := s[p].toNat_lt; omega
      by_cases hlow : a < 32
      · have HN := Lib.hid (quo_low HQ.out hlt (by rw [ha]; exact hlow))
        obtain ⟨x0, x1, x2, x3, x4, x5, x6, x7, x8⟩ := HT.out.cells
        obtain ⟨g0, g1, g2, g3, g4, g5, g6, g7, g8⟩ := HT.out.melts
        go_wp2_with fail
        exact bodyPost_ret (out_tokn (HT.out.put9 Tk.zero) _ _ 0 4 5 res_rquoted rfl rfl) rfl ⟨below_set9 HB.out (Nat.le_refl _) _ _ _ _ _ _ _ _ _, .inr ⟨HN.out, Tk.zero, rfl⟩⟩
      · by_cases h34 : a = 34
        · have hb34 : (a == 34) = true := beq_iff_eq.2 h34
          obtain ⟨q, hq⟩ : ∃ q : Nat, p + 1 = q := ⟨_, rfl⟩
          have hqi : (p : Int) + 1 = (q : Int) := by omega
          by_cases hlt3 : q < s.size
          · have hlt5 : ¬ (s.size : Int) ≤ (q : Int) := by omega
            have hlt6 : (q : Int) < (s.size : Int) := by omega
            obtain ⟨a2, ha2⟩ : ∃ a2 : Int, (s[q].toNat : Int) = a2 := ⟨_, rfl⟩
            have ha21 : 0 ≤ a2 ∧ a2 ≤ 255 := by have := s[q].toNat_lt; omega
            by_cases h342 : a2 = 34
            · have hb342 : (a2 == 34) = true := beq_iff_eq.2 h342
              have HQ2 := Lib.hid (show QuoSt s k (q + 1) (xs ++ [34]) by subst hq; exact quo_two HQ.out hkp hlt (by rw [ha, h34]) hlt3 (by rw [ha2, h342]))
              clear HQ
              go_wp2_with (at_builtin; refine wpList_app Elem.u8 (encInt .u8) rfl (.tmp 51) (.tmp 52) rfl (w.heap.size + 1) _ _ rfl (HO.out.alloc _) ⟨_, 0, none⟩ 1 1 [34] rfl rfl ?_ ?_ ?_ ?_ ?_; exact cells_new _ _ _ rfl; omega; (unfold maxLen; omega); (have := HT.out.lt; simp <;> omega); intro v' wz h1 h2; have HOz := Lib.hid h1; have HBz := Lib.hid (((Below.refl (w.heap.size + 1) _).alloc (by have := HT.out.lt; omega) _).trans h2); clear h1 h2; have HTz := Lib.hid (HT.out.below HBz.out (Nat.lt_succ_self _)); have HBB := Lib.hid (HB.out.trans (HBz.out.mono (Nat.le_succ _))))
              go_roundw
              case rel => exact ⟨q + 1, xs ++ [34], by go_num, by omega, by omega, by simp; omega, HQ2, HOz, HTz, HBB⟩
              case measure => simp [intOf]; omega
            · have hb342 : (a2 == 34) = false := beq_eq_false_iff_ne.2 h342
              have HN := Lib.hid (show quoT (restL s (k + 1)) = some ({ Tk.zero with kind := 2, text := strOfNums xs }, q - k) by subst hq; exact quo_last HQ.out hkp hlt (by rw [ha, h34]) (fun h => by rw [ha2]; exact h342))
              clear HQ
              have hconv := run_str8 HO.out
              obtain ⟨x0, x1, x2, x3, x4, x5, x6, x7, x8⟩ := HT.out.cells
              obtain ⟨g0, g1, g2, g3, g4, g5, g6, g7, g8⟩ := HT.out.melts
              go_wp2_with fail
              exact bodyPost_ret (out_tokn (HT.out.put9 (({ Tk.zero with kind := 2, text := strOfNums xs } : Tk).goto k)) _ _ ((q : Int) - (k : Int)) 4 5 res_rquoted rfl rfl) rfl ⟨below_set9 HB.out (Nat.le_refl _) _ _ _ _ _ _ _ _ _, .inl ⟨_, q - k, HN.out, by rw [show ((q : Int) - (k : Int)) = ((q - k : Nat) : Int) by omega]⟩⟩
          · have hlt5 : (s.size : Int) ≤ (q : Int) := by omega
            have HN := Lib.hid (show quoT (restL s (k + 1)) = some ({ Tk.zero with kind := 2, text := strOfNums xs }, q - k) by subst hq; exact quo_last HQ.out hkp hlt (by rw [ha, h34]) (fun h => absurd h hlt3))
            clear HQ
            have hconv := run_str8 HO.out
            obtain ⟨x0, x1, x2, x3, x4, x5, x6, x7, x8⟩ := HT.out.cells
            obtain ⟨g0, g1, g2, g3, g4, g5, g6, g7, g8⟩ := HT.out.melts
            go_wp2_with fail
            exact bodyPost_ret (out_tokn (HT.out.put9 (({ Tk.zero with kind := 2, text := strOfNums xs } : Tk).goto k)) _ _ ((q : Int) - (k : Int)) 4 5 res_rquoted rfl rfl) rfl ⟨below_set9 HB.out (Nat.le_refl _) _ _ _ _ _ _ _ _ _, .inl ⟨_, q - k, HN.out, by rw [show ((q : Int) - (k : Int)) = ((q - k : Nat) : Int) by omega]⟩⟩
        · have hb34 : (a == 34) = false := beq_eq_false_iff_ne.2 h34
          have HQ2 := Lib.hid (quo_next HQ.out hkp hlt ha hlow h34)
          clear HQ
          go_wp2_with (at_builtin; refine wpList_app Elem.u8 (encInt .u8) rfl (.tmp 25) (.tmp 29) rfl (w.heap.size + 1) _ _ rfl (HO.out.alloc _) ⟨_, 0, none⟩ 1 1 [a] rfl rfl ?_ ?_ ?_ ?_ ?_; exact cells_new _ _ _ rfl; omega; (unfold maxLen; omega); (have := HT.out.lt; simp <;> omega); intro v' wz h1 h2; have HOz := Lib.hid h1; have HBz := Lib.hid (((Below.refl (w.heap.size + 1) _).alloc (by have := HT.out.lt; omega) _).trans h2); clear h1 h2; have HTz := Lib.hid (HT.out.below HBz.out (Nat.lt_succ_self _)); have HBB := Lib.hid (HB.out.trans (HBz.out.mono (Nat.le_succ _))))
          go_roundw
          case rel => exact ⟨p + 1, xs ++ [a], by go_num, by omega, by omega, by simp; omega, HQ2, HOz, HTz, HBB⟩
          case measure => simp [intOf]; omega
    · have hlt2 : ¬ (p : Int) < (s.size : Int) := by omega
      have HN := Lib.hid (quo_end HQ.out (by omega))
      obtain ⟨x0, x1, x2, x3, x4, x5, x6, x7, x8⟩ := HT.out.cells
      obtain ⟨g0, g1, g2, g3, g4, g5, g6, g7, g8⟩ := HT.out.melts
      go_wp2_with fail
      exact bodyPost_ret (out_tokn (HT.out.put9 Tk.zero) _ _ 0 4 5 res_rquoted rfl rfl) rfl ⟨below_set9 HB.out (Nat.le_refl _) _ _ _ _ _ _ _ _ _, .inr ⟨HN.out, Tk.zero, rfl⟩⟩
end Go.Proofs.YtdapnipodnhpkaaDoor
