/-
  'chequerlaw4.LexQuotes', walked.
-/
import Derived.Test.YtdapnipodnhpkaaDoorLexK
namespace Go.Proofs.YtdapnipodnhpkaaDoor
open Go.RowKit

theorem dbl_snoc : ∀ (l : List Int) (x : Int), dblL (l ++ [x]) = dblL l ++ (if x = 34 then [34, 34] else [x])
  | [], x => by show (if x = 34 then [34, 34] else [x]) ++ dblL [] = _; unfold dblL; simp
  | y :: l, x => by
    rw [List.cons_append]
    show (if y = 34 then [34, 34] else [y]) ++ dblL (l ++ [x]) = ((if y = 34 then [34, 34] else [y]) ++ dblL l) ++ _
    rw [dbl_snoc l x, List.append_assoc]
theorem sb_cut1 (s : ByteArray) (k : Nat) (h : k < s.size) : sb (s.extract k (k + 1)) = [((s[k].toNat : Nat) : Int)] := by
  rw [ext_sbL, List.drop_eq_getElem_cons (by rw [length_sb]; exact h)]
  simp only [List.take_succ_cons, List.take_zero]
  have := sb_at s k h
  rw [List.getElem?_eq_getElem (by rw [length_sb]; exact h)] at this
  rw [Option.some.inj this]
/-- Whether a byte below 32 stands in a list. -/
def lowL (l : List Int) : Bool := l.any fun x => decide (x < 32)
theorem low_snoc (l : List Int) (x : Int) : lowL (l ++ [x]) = (lowL l || decide (x < 32)) := by unfold lowL; simp
theorem sb_34 : sb ⟨#[34]⟩ = [34] := by decide

set_option maxRecDepth 100000 in
set_option maxHeartbeats 2000000 in
theorem lexQuotes_any (s : ByteArray) (w : World) (hv : Vars w) (_hz : s.size ≤ 9223372036854775807) :
    Calls Tryd.prog 5 #[.string s] w fun e w' => e = .returned (.bool true) ∧ Below w.heap.size w w' := by
  have HV := Lib.hid hv; clear hv
  by_cases hbig : 100 < s.size
  · have hi : (100 : Int) < (s.size : Int) := by omega
    go_enter Tryd.func5, Tryd.ntmps5
    go_wp2_with (first
      | (go_at_call 7; ((with_reducible refine (lexAwake_any _ HV.out).mono ?_); rintro e w3 ⟨rfl, h1⟩; have HB := Lib.hid h1; clear h1)))
    go_ret
    exact ⟨rfl, HB.out⟩
  · have hi : ¬ (100 : Int) < (s.size : Int) := by omega
    go_enter Tryd.func5, Tryd.ntmps5
    go_wp2_with fail
    go_loopw [3, 4, 5] (fun q low i wr => ∃ (k : Nat) (Q : ByteArray) (b : Bool), k ≤ s.size ∧ q = .string Q ∧ low = .bool b ∧ i = .int .i64 k ∧ Q.size ≤ 2 * k ∧ Hid (sb Q = dblL ((sb s).take k)) ∧ Hid (b = lowL ((sb s).take k)) ∧ w = wr)
      (fun _ _ i _ => s.size - (intOf i).toNat)
    case atStart => exact ⟨0, ⟨#[]⟩, false, by omega, rfl, rfl, rfl, by decide, Lib.hid rfl, Lib.hid rfl, rfl⟩
    case round =>
      obtain ⟨k, Q, b, hk, rfl, rfl, rfl, hQ, HQ, HL, rfl⟩ := hrel
      by_cases hlt : k < s.size
      · have hki : (k : Int) < (s.size : Int) := by omega
        obtain ⟨a, ha⟩ : ∃ a : Int, (s[k].toNat : Int) = a := ⟨_, rfl⟩
        have ha1 : 0 ≤ a ∧ a ≤ 255 := by have := s[k].toNat_lt; omega
        have HT := Lib.hid (show (sb s).take (k + 1) = (sb s).take k ++ [a] by rw [sb_take s k hlt, ha])
        have HC := Lib.hid (show sb (s.extract k (k + 1)) = [a] by rw [sb_cut1 s k hlt, ha])
        have hcz : (s.extract k (k + 1)).size = 1 := by rw [← length_sb, HC.out]; rfl
        have hsum : Q.size + (⟨#[34]⟩ : ByteArray).size + (s.extract k (k + 1)).size ≤ 1000 := by rw [hcz]; show Q.size + 1 + 1 ≤ 1000; omega
        have hsum2 : Q.size + (s.extract k (k + 1)).size ≤ 1000 := by rw [hcz]; omega
        have hex1 : (k : Int) + 1 ≤ (s.size : Int) := by omega
        by_cases h34 : a = 34
        · have hb34 : (a == 34) = true := beq_iff_eq.2 h34
          have hnl : ¬ a < 32 := by omega
          have HQ2 := Lib.hid (show sb (Q ++ ⟨#[34]⟩ ++ s.extract k (k + 1)) = dblL ((sb s).take (k + 1)) by rw [sb_append, sb_append, HQ.out, HC.out, HT.out, dbl_snoc, if_pos h34, sb_34, h34]; simp)
          have HL2 := Lib.hid (show b = lowL ((sb s).take (k + 1)) by rw [HT.out, low_snoc, ← HL.out, decide_eq_false hnl, Bool.or_false])
          have HZ := Lib.hid (show (Q ++ ⟨#[34]⟩ ++ s.extract k (k + 1)).size ≤ 2 * (k + 1) by rw [ByteArray.size_append, ByteArray.size_append, hcz]; show Q.size + 1 + 1 ≤ _; omega)
          clear h34
          cases b
          · go_wp2_with fail
            go_roundw
            case rel => exact ⟨k + 1, _, false, by omega, rfl, rfl, by go_num, HZ.out, HQ2, HL2, by trivial⟩
            case measure => simp [intOf]; omega
          · go_wp2_with fail
            go_roundw
            case rel => exact ⟨k + 1, _, true, by omega, rfl, rfl, by go_num, HZ.out, HQ2, HL2, by trivial⟩
            case measure => simp [intOf]; omega
        · have hb34 : (a == 34) = false := beq_eq_false_iff_ne.2 h34
          have HQ2 := Lib.hid (show sb (Q ++ s.extract k (k + 1)) = dblL ((sb s).take (k + 1)) by rw [sb_append, HQ.out, HC.out, HT.out, dbl_snoc, if_neg h34])
          have HZ := Lib.hid (show (Q ++ s.extract k (k + 1)).size ≤ 2 * (k + 1) by rw [ByteArray.size_append, hcz]; omega)
          have HL2 := Lib.hid (show (b || decide (a < 32)) = lowL ((sb s).take (k + 1)) by rw [HT.out, low_snoc, ← HL.out])
          clear h34
          by_cases hl : a < 32
          · rw [decide_eq_true hl, Bool.or_true] at HL2
            cases b
            · go_wp2_with fail
              go_roundw
              case rel => exact ⟨k + 1, _, true, by omega, rfl, rfl, by go_num, HZ.out, HQ2, HL2, by trivial⟩
              case measure => simp [intOf]; omega
            · go_wp2_with fail
              go_roundw
              case rel => exact ⟨k + 1, _, true, by omega, rfl, rfl, by go_num, HZ.out, HQ2, HL2, by trivial⟩
              case measure => simp [intOf]; omega
          · rw [decide_eq_false hl, Bool.or_false] at HL2
            cases b
            · go_wp2_with fail
              go_roundw
              case rel => exact ⟨k + 1, _, false, by omega, rfl, rfl, by go_num, HZ.out, HQ2, HL2, by trivial⟩
              case measure => simp [intOf]; omega
            · go_wp2_with fail
              go_roundw
              case rel => exact ⟨k + 1, _, true, by omega, rfl, rfl, by go_num, HZ.out, HQ2, HL2, by trivial⟩
              case measure => simp [intOf]; omega
      · have hki : ¬ (k : Int) < (s.size : Int) := by omega
        have hall : (sb s).take k = sb s := by rw [List.take_of_length_le]; rw [length_sb]; omega
        rw [hall] at HQ HL
        have hz1 : (⟨#[34]⟩ : ByteArray).size + Q.size ≤ 1000 := by show 1 + Q.size ≤ 1000; omega
        have hz2 : (⟨#[34]⟩ ++ Q : ByteArray).size + (⟨#[34]⟩ : ByteArray).size ≤ 1000 := by rw [ByteArray.size_append]; show 1 + Q.size + 1 ≤ 1000; omega
        have hz3 : (⟨#[34]⟩ ++ Q ++ ⟨#[34]⟩ : ByteArray).size ≤ 300 := by rw [ByteArray.size_append, ByteArray.size_append]; show 1 + Q.size + 1 ≤ 300; omega
        have hsb : sb (⟨#[34]⟩ ++ Q ++ ⟨#[34]⟩) = 34 :: (dblL (sb s) ++ [34]) := by rw [sb_append, sb_append, HQ.out, sb_34]; rfl
        cases hb : b
        · subst hb
          have hlq := lex_quote (sb s) (fun x hx hlt => by
            have : lowL (sb s) = true := by unfold lowL; rw [List.any_eq_true]; exact ⟨x, hx, decide_eq_true hlt⟩
            rw [← HL.out] at this; cases this)
          rw [← hsb, str_sb] at hlq
          have HX := Lib.hid (lex_is _ w HV.out hz3 _ hlq (by simp))
          clear hlq hsb
          go_wp2_with (first
            | (go_at_call 8; ((with_reducible refine HX.out.mono ?_); rintro e w1 ⟨hb, g, cap, rfl, hg0, hg1, ho⟩; have HB := Lib.hid hb; have k1 := ho.cell 0 _ rfl 0 (by omega); have k2 := ho.cell 0 _ rfl 1 (by omega); simp [tokA, Tk.goto] at k1 k2; simp only [List.length_cons, List.length_nil]; clear hb ho))
            | (go_at_call 7; ((with_reducible refine (lexAwake_any _ (HV.out.below HB.out)).mono ?_); rintro e w3 ⟨rfl, h1⟩; have HB3 := Lib.hid (HB.out.trans (h1.mono HB.out.size)); clear h1))
            | go_in)
          go_ret
          exact ⟨rfl, HB3.out⟩
        · subst hb
          have hlq := lex_low (sb s) (by
            have h1 := HL.out
            unfold lowL at h1; rw [eq_comm, List.any_eq_true] at h1
            obtain ⟨x, hx, h2⟩ := h1
            exact ⟨x, hx, of_decide_eq_true h2⟩)
          rw [← hsb] at hlq
          have HX := Lib.hid (lex_isnt _ w HV.out hz3 hlq)
          clear hlq hsb
          go_wp2_with (first
            | (go_at_call 8; ((with_reducible refine HX.out.mono ?_); rintro e w1 ⟨hb, rfl⟩; have HB := Lib.hid hb; clear hb))
            | (go_at_call 7; ((with_reducible refine (lexAwake_any _ (HV.out.below HB.out)).mono ?_); rintro e w3 ⟨rfl, h1⟩; have HB3 := Lib.hid (HB.out.trans (h1.mono HB.out.size)); clear h1))
            | go_in)
          go_ret
          exact ⟨rfl, HB3.out⟩
end Go.Proofs.YtdapnipodnhpkaaDoor
