/-
  Numbers and texts as bytes: the program's writers and the reference's.
-/
import Derived.Test.YtlghholonjmeaaaCodeM
import Derived.Test.YtlghholonjmeaaaOwnS
namespace Go.Proofs.Ytlghholonjmeaaa
open Go.RowKit

theorem or128 (n : Nat) (h : n < 128) : bits .or .u8 (n : Int) 128 = ((n + 128 : Nat) : Int) := by
  have := u8_or_nat n 128 (by omega) (by decide)
  rw [Nat.or_comm, nat_join 7 128 n (by decide) (by omega)] at this
  have e : ((128 : Nat) : Int) = 128 := rfl
  rw [e] at this
  rw [this]; omega

set_option maxRecDepth 100000 in
set_option maxHeartbeats 400000 in
theorem appendNumber_any (base : Nat) (v : Value) (xs : List Int) (n : Nat) (w : World) (_hn : n ≤ 9223372036854775807) (hown : Own8 w base v xs) (_hb : base ≤ w.heap.size) (_hl : xs.length ≤ 1000000000) :
    Calls Try.prog 27 #[v, .int .i64 (n : Int)] w fun e w' => ∃ v', e = .returned v' ∧ Own8 w' base v' (xs ++ putL n) ∧ Below base w w' := by
  have HO := Lib.hid hown; clear hown
  go_enter Try.func27, Try.ntmps27
  go_wp2
  go_loopw [0, 1] (fun v i wr => ∃ (m f : Nat) (ys : List Int), f ≤ 9 ∧ Hid (xs ++ putL n = ys ++ putF f m ∧ m < 2 ^ (7 * f) ∧ 0 < f) ∧ ys.length ≤ 1000000009 - f ∧ m ≤ 9223372036854775807 ∧ i = .int .i64 (m : Int) ∧ Own8 wr base v ys ∧ Below base w wr)
    (fun _ i _ => (intOf i).toNat)
  case atStart => exact ⟨n, 9, xs, by omega, Lib.hid ⟨rfl, by omega, by omega⟩, by omega, by omega, rfl, HO.out, Below.refl _ _⟩
  case round =>
    obtain ⟨m, f, ys, hf, HM, hys, hm, rfl, hown, hbl⟩ := hrel
    have HO := Lib.hid hown; clear hown
    have HB := Lib.hid hbl; clear hbl
    by_cases hlt : 128 ≤ m
    · have hor : bits .or .u8 ((m : Int) % 128) 128 = ((m % 128 + 128 : Nat) : Int) := or128 (m % 128) (by omega)
      have HOR := Lib.hid hor; clear hor
      have hmi : (128 : Int) ≤ (m : Int) := by omega
      go_wp2_with (at_builtin; refine wpList_app Elem.u8 (encInt .u8) rfl (.tmp 7) (.tmp 12) rfl base _ ys rfl (HO.out.alloc _) ⟨wr.heap.size, 0, none⟩ 1 1 [bits .or .u8 ((m : Int) % 128) 128] rfl rfl ?_ ?_ ?_ ?_ ?_; exact cells_new _ _ _ rfl; omega; (unfold maxLen; omega); (have := HB.out.size; simp; omega); intro v3 w3 h1 h2; have H3 := Lib.hid h1; clear h1; have H4 := Lib.hid h2; clear h2)
      go_roundw
      case rel =>
        obtain ⟨g, rfl⟩ : ∃ g, f = g + 1 := ⟨f - 1, by have := HM.out.2.2; omega⟩
        have hg : 0 < g := by
          rcases Nat.eq_zero_or_pos g with h | h
          · subst h; have := HM.out.2.1; omega
          · exact h
        have hp : 2 ^ (7 * (g + 1)) = 128 * 2 ^ (7 * g) := by rw [show 7 * (g + 1) = 7 + 7 * g from by omega, Nat.pow_add]
        refine ⟨m / 128, g, ys ++ [bits .or .u8 ((m : Int) % 128) 128], by omega, Lib.hid ⟨?_, ?_, hg⟩, ?_, by omega, by go_num, H3.out, (HB.out.alloc (by have := HB.out.size; omega) _).trans H4.out⟩
        · rw [HM.out.1, putF_ge _ _ (by omega), HOR.out, List.append_assoc]; rfl
        · have := HM.out.2.1; omega
        · simp; omega
      case measure => simp [intOf]; omega
    · have hmi : ¬ (128 : Int) ≤ (m : Int) := by omega
      go_wp2_with (at_builtin; refine wpList_app Elem.u8 (encInt .u8) rfl (.tmp 16) (.tmp 19) rfl base _ ys rfl (HO.out.alloc _) ⟨wr.heap.size, 0, none⟩ 1 1 [(m : Int)] rfl rfl ?_ ?_ ?_ ?_ ?_; exact cells_new _ _ _ rfl; omega; (unfold maxLen; omega); (have := HB.out.size; simp; omega); intro v3 w3 h1 h2; have H3 := Lib.hid h1; clear h1; have H4 := Lib.hid h2; clear h2)
      go_ret
      obtain ⟨g, rfl⟩ : ∃ g, f = g + 1 := ⟨f - 1, by have := HM.out.2.2; omega⟩
      refine ⟨_, rfl, ?_, (HB.out.alloc (by have := HB.out.size; omega) _).trans H4.out⟩
      rw [HM.out.1, putF_lt _ _ (by omega)]; exact H3.out

set_option maxRecDepth 100000 in
set_option maxHeartbeats 400000 in
theorem put_any (n : Nat) (w : World) (_hn : n ≤ 9223372036854775807) :
    Calls Try.prog 14 #[.int .i64 (n : Int)] w fun e w' => ∃ v', e = .returned v' ∧ Own8 w' w.heap.size v' (putL n) ∧ Below w.heap.size w w' := by
  go_enter Try.func14, Try.ntmps14
  go_wp2_with fail
  refine (appendNumber_any w.heap.size _ [] n w _hn (Own.nil _ _ _ _) (Nat.le_refl _) (by simp)).mono ?_
  rintro e w1 ⟨v1, rfl, h1, h2⟩
  have H1 := Lib.hid h1; clear h1
  have H2 := Lib.hid h2; clear h2
  go_wp2_with fail
  go_ret
  exact ⟨_, rfl, H1.out, H2.out⟩
set_option maxHeartbeats 400000 in
theorem put_neg (n : Int) (w : World) (_hn : n < 0) :
    Calls Try.prog 14 #[.int .i64 n] w fun e w' => ∃ v', e = .returned v' ∧ Own8 w' w.heap.size v' [] ∧ Below w.heap.size w w' := by
  go_enter Try.func14, Try.ntmps14
  go_wp2_with fail
  go_ret
  exact ⟨_, rfl, Own.nil _ _ _ _, Below.refl _ _⟩

set_option maxRecDepth 100000 in
set_option maxHeartbeats 400000 in
theorem appendText_any (base : Nat) (v : Value) (xs : List Int) (s : ByteArray) (w : World) (_hs : s.size ≤ 1000000000) (hown : Own8 w base v xs) (_hb : base ≤ w.heap.size) (_hl : xs.length ≤ 1000000000) :
    Calls Try.prog 28 #[v, .string s] w fun e w' => ∃ v', e = .returned v' ∧ Own8 w' base v' (xs ++ putTextL (sb s)) ∧ Below base w w' := by
  have HO := Lib.hid hown; clear hown
  have hlp := length_putL s.size
  have HLP := Lib.hid hlp; clear hlp
  go_enter Try.func28, Try.ntmps28
  go_wp2_with fail
  refine (appendNumber_any base _ xs s.size w (by omega) HO.out _hb _hl).mono ?_
  rintro e w1 ⟨v1, rfl, h1, h2⟩
  have H1 := Lib.hid h1; clear h1
  have H2 := Lib.hid h2; clear h2
  go_wp2_with (at_builtin; refine wpList_app_src Elem.u8 (encInt .u8) rfl (.tmp 8) (.tmp 9) rfl base _ (xs ++ putL s.size) rfl H1.out (.string s) s.size (sb s) rfl (length_sb s) (src_text s) ?_ ?_ ?_ ?_; (rw [List.length_append]; have := HLP.out; omega); (rw [List.length_append]; have := HLP.out; unfold maxLen; omega); (have := H2.out.size; omega); intro v3 w3 h1 h2; have H3 := Lib.hid h1; clear h1; have H4 := Lib.hid h2; clear h2)
  go_ret
  refine ⟨_, rfl, ?_, H2.out.trans H4.out⟩
  unfold putTextL; rw [length_sb, ← List.append_assoc]; exact H3.out
set_option maxHeartbeats 400000 in
theorem putText_any (s : ByteArray) (w : World) (_hs : s.size ≤ 1000000000) :
    Calls Try.prog 16 #[.string s] w fun e w' => ∃ v', e = .returned v' ∧ Own8 w' w.heap.size v' (putTextL (sb s)) ∧ Below w.heap.size w w' := by
  go_enter Try.func16, Try.ntmps16
  go_wp2_with fail
  refine (appendText_any w.heap.size _ [] s w _hs (Own.nil _ _ _ _) (Nat.le_refl _) (by simp)).mono ?_
  rintro e w1 ⟨v1, rfl, h1, h2⟩
  have H1 := Lib.hid h1; clear h1
  have H2 := Lib.hid h2; clear h2
  go_wp2_with fail
  go_ret
  exact ⟨_, rfl, H1.out, H2.out⟩

set_option maxRecDepth 100000 in
set_option maxHeartbeats 400000 in
theorem refPut_any (n : Nat) (w : World) (_hn : n ≤ 9223372036854775807) :
    Calls Try.prog 15 #[.int .i64 (n : Int)] w fun e w' => ∃ v', e = .returned v' ∧ Own8 w' w.heap.size v' (putL n) ∧ Below w.heap.size w w' := by
  go_enter Try.func15, Try.ntmps15
  go_wp2_with fail
  go_loopw [0, 3] (fun i v wr => ∃ (m f : Nat) (ys : List Int), f ≤ 9 ∧ Hid (putL n = ys ++ putF f m ∧ m < 2 ^ (7 * f) ∧ 0 < f) ∧ ys.length ≤ 9 - f ∧ m ≤ 9223372036854775807 ∧ i = .int .i64 (m : Int) ∧ Own8 wr w.heap.size v ys ∧ Below w.heap.size w wr)
    (fun i _ _ => (intOf i).toNat)
  case atStart => exact ⟨n, 9, [], by omega, Lib.hid ⟨rfl, by omega, by omega⟩, by simp, by omega, rfl, Own.nil _ _ _ _, Below.refl _ _⟩
  case round =>
    obtain ⟨m, f, ys, hf, HM, hys, hm, rfl, hown, hbl⟩ := hrel
    have HO := Lib.hid hown; clear hown
    have HB := Lib.hid hbl; clear hbl
    by_cases hlt : 128 ≤ m
    · have hmi : (128 : Int) ≤ (m : Int) := by omega
      go_wp2_with (at_builtin; refine wpList_app Elem.u8 (encInt .u8) rfl (.tmp 8) (.tmp 13) rfl w.heap.size _ ys rfl (HO.out.alloc _) ⟨wr.heap.size, 0, none⟩ 1 1 [128 + (m : Int) % 128] rfl rfl ?_ ?_ ?_ ?_ ?_; exact cells_new _ _ _ rfl; omega; (unfold maxLen; omega); (have := HB.out.size; simp; omega); intro v3 w3 h1 h2; have H3 := Lib.hid h1; clear h1; have H4 := Lib.hid h2; clear h2)
      go_roundw
      case rel =>
        obtain ⟨g, rfl⟩ : ∃ g, f = g + 1 := ⟨f - 1, by have := HM.out.2.2; omega⟩
        have hg : 0 < g := by
          rcases Nat.eq_zero_or_pos g with h | h
          · subst h; have := HM.out.2.1; omega
          · exact h
        have hp : 2 ^ (7 * (g + 1)) = 128 * 2 ^ (7 * g) := by rw [show 7 * (g + 1) = 7 + 7 * g from by omega, Nat.pow_add]
        refine ⟨m / 128, g, ys ++ [128 + (m : Int) % 128], by omega, Lib.hid ⟨?_, ?_, hg⟩, ?_, by omega, by go_num, H3.out, (HB.out.alloc (by have := HB.out.size; omega) _).trans H4.out⟩
        · rw [HM.out.1, putF_ge _ _ (by omega), List.append_assoc, show ((m % 128 + 128 : Nat) : Int) = 128 + (m : Int) % 128 from by omega]; rfl
        · have := HM.out.2.1; omega
        · simp; omega
      case measure => simp [intOf]; omega
    · have hmi : ¬ (128 : Int) ≤ (m : Int) := by omega
      go_wp2_with (at_builtin; refine wpList_app Elem.u8 (encInt .u8) rfl (.tmp 17) (.tmp 20) rfl w.heap.size _ ys rfl (HO.out.alloc _) ⟨wr.heap.size, 0, none⟩ 1 1 [(m : Int)] rfl rfl ?_ ?_ ?_ ?_ ?_; exact cells_new _ _ _ rfl; omega; (unfold maxLen; omega); (have := HB.out.size; simp; omega); intro v3 w3 h1 h2; have H3 := Lib.hid h1; clear h1; have H4 := Lib.hid h2; clear h2)
      go_ret
      obtain ⟨g, rfl⟩ : ∃ g, f = g + 1 := ⟨f - 1, by have := HM.out.2.2; omega⟩
      refine ⟨_, rfl, ?_, (HB.out.alloc (by have := HB.out.size; omega) _).trans H4.out⟩
      rw [HM.out.1, putF_lt _ _ (by omega)]; exact H3.out
set_option maxHeartbeats 400000 in
theorem refPut_neg (n : Int) (w : World) (_hn : n < 0) :
    Calls Try.prog 15 #[.int .i64 n] w fun e w' => ∃ v', e = .returned v' ∧ Own8 w' w.heap.size v' [] ∧ Below w.heap.size w w' := by
  go_enter Try.func15, Try.ntmps15
  go_wp2_with fail
  go_ret
  exact ⟨_, rfl, Own.nil _ _ _ _, Below.refl _ _⟩
set_option maxRecDepth 100000 in
set_option maxHeartbeats 400000 in
theorem refPutText_any (s : ByteArray) (w : World) (_hs : s.size ≤ 1000000000) :
    Calls Try.prog 17 #[.string s] w fun e w' => ∃ v', e = .returned v' ∧ Own8 w' w.heap.size v' (putTextL (sb s)) ∧ Below w.heap.size w w' := by
  have hlp := length_putL s.size
  have HLP := Lib.hid hlp; clear hlp
  go_enter Try.func17, Try.ntmps17
  go_wp2_with fail
  refine (refPut_any s.size w (by omega)).mono ?_
  rintro e w1 ⟨v1, rfl, h1, h2⟩
  have H1 := Lib.hid h1; clear h1
  have H2 := Lib.hid h2; clear h2
  go_wp2_with (at_builtin; refine wpList_app_src Elem.u8 (encInt .u8) rfl (.tmp 5) (.tmp 6) rfl w.heap.size _ (putL s.size) rfl H1.out (.string s) s.size (sb s) rfl (length_sb s) (src_text s) ?_ ?_ ?_ ?_; (have := HLP.out; omega); (have := HLP.out; unfold maxLen; omega); exact H2.out.size; intro v3 w3 h1 h2; have H3 := Lib.hid h1; clear h1; have H4 := Lib.hid h2; clear h2)
  go_ret
  refine ⟨_, rfl, ?_, H2.out.trans H4.out⟩
  unfold putTextL; rw [length_sb]; exact H3.out
end Go.Proofs.Ytlghholonjmeaaa
