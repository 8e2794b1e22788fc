/-
 Texts of layers, put together.
-/
import Derived.Test.YtkdamdmnchcceaaGreatDoorMT7
import Derived.MapKept
namespace Go.Proofs.YtkdamdmnchcceaaGreatDoor
open Go.RowKit
theorem run_one8 (w : World) (t : TypeId) (x : Int) : (convert 37 9 (.slice (some ⟨w.heap.size, 0, none⟩) 1 1)).run Tryz.prog (w.alloc (.cells #[.int .u8 x] t)) = .ok (.string (strOfNums [x])) (w.alloc (.cells #[.int .u8 x] t)) := by
 refine run_convert_bytes_arg _ _ 5 Tryz.underlying37 Tryz.underlying5 _ 0 _ 1 [x] rfl (fun i hi => ?_) _ Tryz.underlying9
 rw [Nat.zero_add]
 have : i = 0 := by simp at hi; exact hi
 subst this
 exact cells_new (w := w) _ _ [.int .u8 x] rfl 0 _ rfl
theorem run_two8 (w : World) (t : TypeId) (x y : Int) : (convert 37 9 (.slice (some ⟨w.heap.size, 0, none⟩) 2 2)).run Tryz.prog (w.alloc (.cells #[.int .u8 x, .int .u8 y] t)) = .ok (.string (strOfNums [x, y])) (w.alloc (.cells #[.int .u8 x, .int .u8 y] t)) := by
 refine run_convert_bytes_arg _ _ 5 Tryz.underlying37 Tryz.underlying5 _ 0 _ 2 [x, y] rfl (fun i hi => ?_) _ Tryz.underlying9
 rw [Nat.zero_add]
 have h : i = 0 ∨ i = 1 := by simp at hi; omega
 rcases h with rfl | rfl
 · exact cells_new (w := w) _ _ [.int .u8 x, .int .u8 y] rfl 0 _ rfl
 · exact cells_new (w := w) _ _ [.int .u8 x, .int .u8 y] rfl 1 _ rfl
set_option maxRecDepth 100000 in
set_option maxHeartbeats 400000 in
theorem refDigits_nat (n : Nat) (_h1 : n ≤ 9223372036854775807) (w : World) :
 Calls Tryz.prog 26 #[.int .i64 n] w fun e w' => e = .returned (.string (strOfNums (digL n))) ∧ Below w.heap.size w w' := by
 have hn0 : ¬ (n : Int) < 0 := by omega
 go_enter Tryz.func26, Tryz.ntmps26
 go_wp2
 go_loopw [3, 4] (fun u v wr => ∃ (m : Nat) (t : List Int), m ≤ 9223372036854775807 ∧ u = .int .u64 m ∧ v = .string (strOfNums t) ∧ Hid (digL m ++ t = digL n ∧ 2 * t.length + m ≤ n) ∧ Below w.heap.size w wr)
  (fun u _ _ => (intOf u).toNat)
 case atStart => exact ⟨n, [], by omega, by go_num, rfl, Lib.hid ⟨by rw [List.append_nil], by simp⟩, Below.refl _ _⟩
 case round =>
  obtain ⟨m, t, hm, rfl, rfl, HT, hbl⟩ := hrel
  have HB := Lib.hid hbl; clear hbl
  have hcv := fun (w : World) => run_one8 w 5 (48 + (m : Int) % 10)
  have hcv2 := fun (w : World) => run_one8 w 5 (48 + (m : Int))
  have hsz : (strOfNums [48 + (m : Int) % 10]).size + (strOfNums t).size ≤ 9223372036854775807 := by rw [strOfNums_size, strOfNums_size]; have := HT.out.2; simp only [List.length_cons, List.length_nil]; by_cases h : t.length = 0 <;> by_cases h2 : m = 0 <;> omega
  have hsz2 : (strOfNums [48 + (m : Int)]).size + (strOfNums t).size ≤ 9223372036854775807 := by rw [strOfNums_size, strOfNums_size]; have := HT.out.2; simp only [List.length_cons, List.length_nil]; by_cases h : t.length = 0 <;> by_cases h2 : m = 0 <;> omega
  by_cases hlt : 10 ≤ m
  · have hki : (10 : Int) ≤ (m : Int) := by omega
    have hd := digL_more m (by omega)
    have HD := Lib.hid hd; clear hd
    go_wp2
    go_roundw
    case rel =>
     refine ⟨m / 10, (48 + (m : Int) % 10) :: t, by omega, by go_num, val_str (str_append _ _), Lib.hid ⟨?_, ?_⟩, HB.out.alloc HB.out.size _⟩
     · rw [← HT.out.1, HD.out, List.append_assoc, show ((m % 10 : Nat) : Int) = (m : Int) % 10 from by omega]; rfl
     · have := HT.out.2; simp only [List.length_cons]; omega
    case measure => simp [intOf]; omega
  · have hki : ¬ (10 : Int) ≤ (m : Int) := by omega
    have hd := digL_small m (by omega)
    have HD := Lib.hid hd; clear hd
    go_wp2
    go_ret
    exact ⟨ret_str (by rw [str_append, ← HT.out.1, HD.out]), HB.out.alloc HB.out.size _⟩
set_option maxRecDepth 100000 in
set_option maxHeartbeats 400000 in
theorem refCol_any (n : Int) (_h0 : -9223372036854775808 ≤ n) (_h1 : n ≤ 9223372036854775807) (w : World) :
 Calls Tryz.prog 68 #[.int .i64 n] w fun e w' => e = .returned (.string (strOfNums (colL n))) ∧ Below w.heap.size w w' := by
 by_cases hr : n < 0 ∨ 701 < n
 · have hc : colL n = [] := by unfold colL; rw [if_pos hr]
   have HC := Lib.hid hc; clear hc
   go_enter Tryz.func68, Tryz.ntmps68
   go_wp2
   all_goals first | omega | skip
   all_goals go_ret
   all_goals exact ⟨by rw [HC.out]; rfl, Below.refl _ _⟩
 · have h0 : ¬ n < 0 := by omega
   have h2 : ¬ 701 < n := by omega
   have h0' : 0 ≤ n := by omega
   by_cases h26 : n < 26
   · have hc : colL n = [65 + n] := by unfold colL; rw [if_neg hr, if_pos h26]
     have HC := Lib.hid hc; clear hc hr
     have hcv := fun (w : World) => run_one8 w 5 (65 + n)
     go_enter Tryz.func68, Tryz.ntmps68
     go_wp2
     all_goals go_ret
     all_goals exact ⟨by rw [HC.out]; rfl, (Below.refl _ _).alloc (Nat.le_refl _) _⟩
   · have hc : colL n = [65 + n / 26 - 1, 65 + n % 26] := by unfold colL; rw [if_neg hr, if_neg h26]; congr 1; omega
     have HC := Lib.hid hc; clear hc hr
     have hcv := fun (w : World) => run_two8 w 5 (65 + n / 26 - 1) (65 + n % 26)
     go_enter Tryz.func68, Tryz.ntmps68
     go_wp2
     all_goals go_ret
     all_goals exact ⟨by rw [HC.out]; rfl, (Below.refl _ _).alloc (Nat.le_refl _) _⟩
set_option maxRecDepth 100000 in
set_option maxHeartbeats 400000 in
theorem refMay_any (s : ByteArray) (c r : Int) (ac ar : Bool) (w : World) (_hs : s.size ≤ 1000000) :
 Calls Tryz.prog 66 #[.agg #[.string s, .int .i64 c, .int .i64 r, .bool ac, .bool ar]] w fun e w' => e = .returned (.bool (mayL (sb s) c r)) ∧ Below w.heap.size w w' := by
 by_cases h0 : s.size = 0
 · have := sb_nil s h0
   subst this
   have hm : mayL (sb ⟨#[]⟩) c r = decide (0 ≤ c ∧ c ≤ 701 ∧ 0 ≤ r ∧ r ≤ 998) := by unfold mayL; rw [show decide (sb ⟨#[]⟩ = []) = true from by decide, Bool.true_or, Bool.true_and]
   have HM := Lib.hid hm; clear hm
   go_enter Tryz.func66, Tryz.ntmps66
   go_wp2
   all_goals go_ret
   all_goals exact ⟨ret_bool (by rw [HM.out]; first | (symm; rw [decide_eq_true_iff]; omega) | (symm; rw [decide_eq_false_iff_not]; omega) | (rw [decide_eq_decide]; omega)), (Below.refl _ _).alloc (Nat.le_refl _) _⟩
 · have hne := text_ne0 s h0
   have hm : mayL (sb s) c r = (nameL (sb s) && decide (0 ≤ c ∧ c ≤ 701 ∧ 0 ≤ r ∧ r ≤ 998)) := by
    unfold mayL; rw [decide_eq_false (by intro h; have := length_sb s; rw [h] at this; exact h0 this.symm), Bool.false_or]
   have HM := Lib.hid hm; clear hm h0
   by_cases hn : nameL (sb s) = true
   · go_enter Tryz.func66, Tryz.ntmps66
     go_wp2_with (first
      | (go_at_call 94; ((with_reducible refine (refName_any _ _ ?_).mono ?_); (first | omega | skip); rintro e w' ⟨rfl, rfl⟩)))
     all_goals go_ret
     all_goals exact ⟨ret_bool (by rw [HM.out, hn, Bool.true_and]; first | (symm; rw [decide_eq_true_iff]; omega) | (symm; rw [decide_eq_false_iff_not]; omega) | (rw [decide_eq_decide]; omega)), (Below.refl _ _).alloc (Nat.le_refl _) _⟩
   · have hn' : nameL (sb s) = false := by simpa using hn
     clear hn
     go_enter Tryz.func66, Tryz.ntmps66
     go_wp2_with (first
      | (go_at_call 94; ((with_reducible refine (refName_any _ _ ?_).mono ?_); (first | omega | skip); rintro e w' ⟨rfl, rfl⟩)))
     all_goals go_ret
     all_goals exact ⟨ret_bool (by rw [HM.out, hn', Bool.false_and]), (Below.refl _ _).alloc (Nat.le_refl _) _⟩
set_option maxRecDepth 100000 in
set_option maxHeartbeats 400000 in
theorem text_enn (s : ByteArray) (c r : Int) (k : Nat) (w : World) (_hs : s.size ≤ 1000000) (h0 : s.size = 0) (hm : mayL (sb s) c r = true) (hc0 : 0 ≤ c) (hc1 : c ≤ 701) (hr0 : 0 ≤ r) (hr1 : r ≤ 998) (hk : r + 1 = (k : Int)) (hz1 : (strOfNums (colL c)).size ≤ 2) (hz2 : (strOfNums (digL k)).size ≤ 1000) :
 Calls Tryz.prog 37 #[.agg #[.string s, .int .i64 c, .int .i64 r, .bool false, .bool false]] w fun e w' => e = .returned (.string (strOfNums (textL (sb s) c r false false))) ∧ Below w.heap.size w w' := by
       have hk2 : (r + 1).toNat = k := by omega
       have he : sb s = [] := List.eq_nil_of_length_eq_zero (by rw [length_sb]; exact h0)
       have ht : ([] ++ colL c) ++ digL k = textL (sb s) c r false false := by unfold textL; rw [if_pos hm, hk2, if_pos he]; simp
       have HT := Lib.hid ht; clear ht hk2 he
       have := sb_nil s h0
       subst this
       clear h0
       have hR0 := RefAt.new w ⟨#[]⟩ c r false false
       have HR0 := Lib.hid hR0; clear hR0
       go_enter Tryz.func37, Tryz.ntmps37
       go_wp2_with (first
        | (go_at_call 66; ((with_reducible refine (refMay_any _ _ _ _ _ _ ?_).mono ?_); (first | omega | skip); rintro e w1 ⟨rfl, h1⟩; have hR1 := HR0.out.below h1 HR0.out.lt; obtain ⟨x0, x1, x2, x3, x4⟩ := hR1.facts; have HR1 := Lib.hid hR1; clear hR1; have H1 := Lib.hid h1; clear h1))
        | (go_at_call 68; ((with_reducible refine (refCol_any _ ?_ ?_ _).mono ?_); (first | omega | skip); (first | omega | skip); rintro e w2 ⟨rfl, h2⟩; have hR2 := HR1.out.below h2 HR1.out.lt; clear x0 x1 x2 x3 x4; obtain ⟨x0, x1, x2, x3, x4⟩ := hR2.facts; have HR2 := Lib.hid hR2; clear hR2; have H2 := Lib.hid h2; clear h2))
        | (go_at_call 26; ((with_reducible refine (refDigits_nat _ ?_ _).mono ?_); (first | omega | skip); rintro e w3 ⟨rfl, h3⟩; clear x0 x1 x2 x3 x4; have H3 := Lib.hid h3; clear h3)))
       go_ret
       exact ⟨ret_str ((cat_eq (cat_eq str_e (Eq.refl (strOfNums (colL c)))) (Eq.refl (strOfNums (digL k)))).trans (congrArg strOfNums HT.out)), below3 ((Below.refl _ _).alloc (Nat.le_refl _) _) H1.out H2.out H3.out⟩
set_option maxRecDepth 100000 in
set_option maxHeartbeats 400000 in
theorem text_end (s : ByteArray) (c r : Int) (k : Nat) (w : World) (_hs : s.size ≤ 1000000) (h0 : s.size = 0) (hm : mayL (sb s) c r = true) (hc0 : 0 ≤ c) (hc1 : c ≤ 701) (hr0 : 0 ≤ r) (hr1 : r ≤ 998) (hk : r + 1 = (k : Int)) (hz1 : (strOfNums (colL c)).size ≤ 2) (hz2 : (strOfNums (digL k)).size ≤ 1000) :
 Calls Tryz.prog 37 #[.agg #[.string s, .int .i64 c, .int .i64 r, .bool false, .bool true]] w fun e w' => e = .returned (.string (strOfNums (textL (sb s) c r false true))) ∧ Below w.heap.size w w' := by
       have hk2 : (r + 1).toNat = k := by omega
       have he : sb s = [] := List.eq_nil_of_length_eq_zero (by rw [length_sb]; exact h0)
       have ht : (([] ++ colL c) ++ [36]) ++ digL k = textL (sb s) c r false true := by unfold textL; rw [if_pos hm, hk2, if_pos he]; simp
       have HT := Lib.hid ht; clear ht hk2 he
       have := sb_nil s h0
       subst this
       clear h0
       have hR0 := RefAt.new w ⟨#[]⟩ c r false true
       have HR0 := Lib.hid hR0; clear hR0
       go_enter Tryz.func37, Tryz.ntmps37
       go_wp2_with (first
        | (go_at_call 66; ((with_reducible refine (refMay_any _ _ _ _ _ _ ?_).mono ?_); (first | omega | skip); rintro e w1 ⟨rfl, h1⟩; have hR1 := HR0.out.below h1 HR0.out.lt; obtain ⟨x0, x1, x2, x3, x4⟩ := hR1.facts; have HR1 := Lib.hid hR1; clear hR1; have H1 := Lib.hid h1; clear h1))
        | (go_at_call 68; ((with_reducible refine (refCol_any _ ?_ ?_ _).mono ?_); (first | omega | skip); (first | omega | skip); rintro e w2 ⟨rfl, h2⟩; have hR2 := HR1.out.below h2 HR1.out.lt; clear x0 x1 x2 x3 x4; obtain ⟨x0, x1, x2, x3, x4⟩ := hR2.facts; have HR2 := Lib.hid hR2; clear hR2; have H2 := Lib.hid h2; clear h2))
        | (go_at_call 26; ((with_reducible refine (refDigits_nat _ ?_ _).mono ?_); (first | omega | skip); rintro e w3 ⟨rfl, h3⟩; clear x0 x1 x2 x3 x4; have H3 := Lib.hid h3; clear h3)))
       go_ret
       exact ⟨ret_str ((cat_eq (cat_eq (cat_eq str_e (Eq.refl (strOfNums (colL c)))) str_d) (Eq.refl (strOfNums (digL k)))).trans (congrArg strOfNums HT.out)), below3 ((Below.refl _ _).alloc (Nat.le_refl _) _) H1.out H2.out H3.out⟩
set_option maxRecDepth 100000 in
set_option maxHeartbeats 400000 in
theorem text_edn (s : ByteArray) (c r : Int) (k : Nat) (w : World) (_hs : s.size ≤ 1000000) (h0 : s.size = 0) (hm : mayL (sb s) c r = true) (hc0 : 0 ≤ c) (hc1 : c ≤ 701) (hr0 : 0 ≤ r) (hr1 : r ≤ 998) (hk : r + 1 = (k : Int)) (hz1 : (strOfNums (colL c)).size ≤ 2) (hz2 : (strOfNums (digL k)).size ≤ 1000) :
 Calls Tryz.prog 37 #[.agg #[.string s, .int .i64 c, .int .i64 r, .bool true, .bool false]] w fun e w' => e = .returned (.string (strOfNums (textL (sb s) c r true false))) ∧ Below w.heap.size w w' := by
       have hk2 : (r + 1).toNat = k := by omega
       have he : sb s = [] := List.eq_nil_of_length_eq_zero (by rw [length_sb]; exact h0)
       have ht : (([] ++ [36]) ++ colL c) ++ digL k = textL (sb s) c r true false := by unfold textL; rw [if_pos hm, hk2, if_pos he]; simp
       have HT := Lib.hid ht; clear ht hk2 he
       have := sb_nil s h0
       subst this
       clear h0
       have hR0 := RefAt.new w ⟨#[]⟩ c r true false
       have HR0 := Lib.hid hR0; clear hR0
       go_enter Tryz.func37, Tryz.ntmps37
       go_wp2_with (first
        | (go_at_call 66; ((with_reducible refine (refMay_any _ _ _ _ _ _ ?_).mono ?_); (first | omega | skip); rintro e w1 ⟨rfl, h1⟩; have hR1 := HR0.out.below h1 HR0.out.lt; obtain ⟨x0, x1, x2, x3, x4⟩ := hR1.facts; have HR1 := Lib.hid hR1; clear hR1; have H1 := Lib.hid h1; clear h1))
        | (go_at_call 68; ((with_reducible refine (refCol_any _ ?_ ?_ _).mono ?_); (first | omega | skip); (first | omega | skip); rintro e w2 ⟨rfl, h2⟩; have hR2 := HR1.out.below h2 HR1.out.lt; clear x0 x1 x2 x3 x4; obtain ⟨x0, x1, x2, x3, x4⟩ := hR2.facts; have HR2 := Lib.hid hR2; clear hR2; have H2 := Lib.hid h2; clear h2))
        | (go_at_call 26; ((with_reducible refine (refDigits_nat _ ?_ _).mono ?_); (first | omega | skip); rintro e w3 ⟨rfl, h3⟩; clear x0 x1 x2 x3 x4; have H3 := Lib.hid h3; clear h3)))
       go_ret
       exact ⟨ret_str ((cat_eq (cat_eq (cat_eq str_e str_d) (Eq.refl (strOfNums (colL c)))) (Eq.refl (strOfNums (digL k)))).trans (congrArg strOfNums HT.out)), below3 ((Below.refl _ _).alloc (Nat.le_refl _) _) H1.out H2.out H3.out⟩
set_option maxRecDepth 100000 in
set_option maxHeartbeats 400000 in
theorem text_edd (s : ByteArray) (c r : Int) (k : Nat) (w : World) (_hs : s.size ≤ 1000000) (h0 : s.size = 0) (hm : mayL (sb s) c r = true) (hc0 : 0 ≤ c) (hc1 : c ≤ 701) (hr0 : 0 ≤ r) (hr1 : r ≤ 998) (hk : r + 1 = (k : Int)) (hz1 : (strOfNums (colL c)).size ≤ 2) (hz2 : (strOfNums (digL k)).size ≤ 1000) :
 Calls Tryz.prog 37 #[.agg #[.string s, .int .i64 c, .int .i64 r, .bool true, .bool true]] w fun e w' => e = .returned (.string (strOfNums (textL (sb s) c r true true))) ∧ Below w.heap.size w w' := by
       have hk2 : (r + 1).toNat = k := by omega
       have he : sb s = [] := List.eq_nil_of_length_eq_zero (by rw [length_sb]; exact h0)
       have ht : ((([] ++ [36]) ++ colL c) ++ [36]) ++ digL k = textL (sb s) c r true true := by unfold textL; rw [if_pos hm, hk2, if_pos he]; simp
       have HT := Lib.hid ht; clear ht hk2 he
       have := sb_nil s h0
       subst this
       clear h0
       have hR0 := RefAt.new w ⟨#[]⟩ c r true true
       have HR0 := Lib.hid hR0; clear hR0
       go_enter Tryz.func37, Tryz.ntmps37
       go_wp2_with (first
        | (go_at_call 66; ((with_reducible refine (refMay_any _ _ _ _ _ _ ?_).mono ?_); (first | omega | skip); rintro e w1 ⟨rfl, h1⟩; have hR1 := HR0.out.below h1 HR0.out.lt; obtain ⟨x0, x1, x2, x3, x4⟩ := hR1.facts; have HR1 := Lib.hid hR1; clear hR1; have H1 := Lib.hid h1; clear h1))
        | (go_at_call 68; ((with_reducible refine (refCol_any _ ?_ ?_ _).mono ?_); (first | omega | skip); (first | omega | skip); rintro e w2 ⟨rfl, h2⟩; have hR2 := HR1.out.below h2 HR1.out.lt; clear x0 x1 x2 x3 x4; obtain ⟨x0, x1, x2, x3, x4⟩ := hR2.facts; have HR2 := Lib.hid hR2; clear hR2; have H2 := Lib.hid h2; clear h2))
        | (go_at_call 26; ((with_reducible refine (refDigits_nat _ ?_ _).mono ?_); (first | omega | skip); rintro e w3 ⟨rfl, h3⟩; clear x0 x1 x2 x3 x4; have H3 := Lib.hid h3; clear h3)))
       go_ret
       exact ⟨ret_str ((cat_eq (cat_eq (cat_eq (cat_eq str_e str_d) (Eq.refl (strOfNums (colL c)))) str_d) (Eq.refl (strOfNums (digL k)))).trans (congrArg strOfNums HT.out)), below3 ((Below.refl _ _).alloc (Nat.le_refl _) _) H1.out H2.out H3.out⟩
set_option maxRecDepth 100000 in
set_option maxHeartbeats 400000 in
theorem text_snn (s : ByteArray) (c r : Int) (k : Nat) (w : World) (_hs : s.size ≤ 1000000) (h0 : ¬ s.size = 0) (hm : mayL (sb s) c r = true) (hc0 : 0 ≤ c) (hc1 : c ≤ 701) (hr0 : 0 ≤ r) (hr1 : r ≤ 998) (hk : r + 1 = (k : Int)) (hz1 : (strOfNums (colL c)).size ≤ 2) (hz2 : (strOfNums (digL k)).size ≤ 1000) :
 Calls Tryz.prog 37 #[.agg #[.string s, .int .i64 c, .int .i64 r, .bool false, .bool false]] w fun e w' => e = .returned (.string (strOfNums (textL (sb s) c r false false))) ∧ Below w.heap.size w w' := by
       have hk2 : (r + 1).toNat = k := by omega
       have he : ¬ sb s = [] := by intro h; have := length_sb s; rw [h] at this; exact h0 this.symm
       have ht : ((sb s ++ [33]) ++ colL c) ++ digL k = textL (sb s) c r false false := by unfold textL; rw [if_pos hm, hk2, if_neg he]; simp
       have HT := Lib.hid ht; clear ht hk2 he
       have hne : s.toList.isEmpty = false := by cases hq : s.toList with | nil => exact absurd hq (text_ne0 s h0) | cons a l => rfl
       clear h0
       have hR0 := RefAt.new w s c r false false
       have HR0 := Lib.hid hR0; clear hR0
       go_enter Tryz.func37, Tryz.ntmps37
       go_wp2_with (first
        | (go_at_call 66; ((with_reducible refine (refMay_any _ _ _ _ _ _ ?_).mono ?_); (first | omega | skip); rintro e w1 ⟨rfl, h1⟩; have hR1 := HR0.out.below h1 HR0.out.lt; obtain ⟨x0, x1, x2, x3, x4⟩ := hR1.facts; have HR1 := Lib.hid hR1; clear hR1; have H1 := Lib.hid h1; clear h1))
        | (go_at_call 68; ((with_reducible refine (refCol_any _ ?_ ?_ _).mono ?_); (first | omega | skip); (first | omega | skip); rintro e w2 ⟨rfl, h2⟩; have hR2 := HR1.out.below h2 HR1.out.lt; clear x0 x1 x2 x3 x4; obtain ⟨x0, x1, x2, x3, x4⟩ := hR2.facts; have HR2 := Lib.hid hR2; clear hR2; have H2 := Lib.hid h2; clear h2))
        | (go_at_call 26; ((with_reducible refine (refDigits_nat _ ?_ _).mono ?_); (first | omega | skip); rintro e w3 ⟨rfl, h3⟩; clear x0 x1 x2 x3 x4; have H3 := Lib.hid h3; clear h3)))
       go_ret
       exact ⟨ret_str ((cat_eq (cat_eq (cat_eq (str_sb s).symm str_b) (Eq.refl (strOfNums (colL c)))) (Eq.refl (strOfNums (digL k)))).trans (congrArg strOfNums HT.out)), below3 ((Below.refl _ _).alloc (Nat.le_refl _) _) H1.out H2.out H3.out⟩
set_option maxRecDepth 100000 in
set_option maxHeartbeats 400000 in
theorem text_snd (s : ByteArray) (c r : Int) (k : Nat) (w : World) (_hs : s.size ≤ 1000000) (h0 : ¬ s.size = 0) (hm : mayL (sb s) c r = true) (hc0 : 0 ≤ c) (hc1 : c ≤ 701) (hr0 : 0 ≤ r) (hr1 : r ≤ 998) (hk : r + 1 = (k : Int)) (hz1 : (strOfNums (colL c)).size ≤ 2) (hz2 : (strOfNums (digL k)).size ≤ 1000) :
 Calls Tryz.prog 37 #[.agg #[.string s, .int .i64 c, .int .i64 r, .bool false, .bool true]] w fun e w' => e = .returned (.string (strOfNums (textL (sb s) c r false true))) ∧ Below w.heap.size w w' := by
       have hk2 : (r + 1).toNat = k := by omega
       have he : ¬ sb s = [] := by intro h; have := length_sb s; rw [h] at this; exact h0 this.symm
       have ht : (((sb s ++ [33]) ++ colL c) ++ [36]) ++ digL k = textL (sb s) c r false true := by unfold textL; rw [if_pos hm, hk2, if_neg he]; simp
       have HT := Lib.hid ht; clear ht hk2 he
       have hne : s.toList.isEmpty = false := by cases hq : s.toList with | nil => exact absurd hq (text_ne0 s h0) | cons a l => rfl
       clear h0
       have hR0 := RefAt.new w s c r false true
       have HR0 := Lib.hid hR0; clear hR0
       go_enter Tryz.func37, Tryz.ntmps37
       go_wp2_with (first
        | (go_at_call 66; ((with_reducible refine (refMay_any _ _ _ _ _ _ ?_).mono ?_); (first | omega | skip); rintro e w1 ⟨rfl, h1⟩; have hR1 := HR0.out.below h1 HR0.out.lt; obtain ⟨x0, x1, x2, x3, x4⟩ := hR1.facts; have HR1 := Lib.hid hR1; clear hR1; have H1 := Lib.hid h1; clear h1))
        | (go_at_call 68; ((with_reducible refine (refCol_any _ ?_ ?_ _).mono ?_); (first | omega | skip); (first | omega | skip); rintro e w2 ⟨rfl, h2⟩; have hR2 := HR1.out.below h2 HR1.out.lt; clear x0 x1 x2 x3 x4; obtain ⟨x0, x1, x2, x3, x4⟩ := hR2.facts; have HR2 := Lib.hid hR2; clear hR2; have H2 := Lib.hid h2; clear h2))
        | (go_at_call 26; ((with_reducible refine (refDigits_nat _ ?_ _).mono ?_); (first | omega | skip); rintro e w3 ⟨rfl, h3⟩; clear x0 x1 x2 x3 x4; have H3 := Lib.hid h3; clear h3)))
       go_ret
       exact ⟨ret_str ((cat_eq (cat_eq (cat_eq (cat_eq (str_sb s).symm str_b) (Eq.refl (strOfNums (colL c)))) str_d) (Eq.refl (strOfNums (digL k)))).trans (congrArg strOfNums HT.out)), below3 ((Below.refl _ _).alloc (Nat.le_refl _) _) H1.out H2.out H3.out⟩
set_option maxRecDepth 100000 in
set_option maxHeartbeats 400000 in
theorem text_sdn (s : ByteArray) (c r : Int) (k : Nat) (w : World) (_hs : s.size ≤ 1000000) (h0 : ¬ s.size = 0) (hm : mayL (sb s) c r = true) (hc0 : 0 ≤ c) (hc1 : c ≤ 701) (hr0 : 0 ≤ r) (hr1 : r ≤ 998) (hk : r + 1 = (k : Int)) (hz1 : (strOfNums (colL c)).size ≤ 2) (hz2 : (strOfNums (digL k)).size ≤ 1000) :
 Calls Tryz.prog 37 #[.agg #[.string s, .int .i64 c, .int .i64 r, .bool true, .bool false]] w fun e w' => e = .returned (.string (strOfNums (textL (sb s) c r true false))) ∧ Below w.heap.size w w' := by
       have hk2 : (r + 1).toNat = k := by omega
       have he : ¬ sb s = [] := by intro h; have := length_sb s; rw [h] at this; exact h0 this.symm
       have ht : (((sb s ++ [33]) ++ [36]) ++ colL c) ++ digL k = textL (sb s) c r true false := by unfold textL; rw [if_pos hm, hk2, if_neg he]; simp
       have HT := Lib.hid ht; clear ht hk2 he
       have hne : s.toList.isEmpty = false := by cases hq : s.toList with | nil => exact absurd hq (text_ne0 s h0) | cons a l => rfl
       clear h0
       have hR0 := RefAt.new w s c r true false
       have HR0 := Lib.hid hR0; clear hR0
       go_enter Tryz.func37, Tryz.ntmps37
       go_wp2_with (first
        | (go_at_call 66; ((with_reducible refine (refMay_any _ _ _ _ _ _ ?_).mono ?_); (first | omega | skip); rintro e w1 ⟨rfl, h1⟩; have hR1 := HR0.out.below h1 HR0.out.lt; obtain ⟨x0, x1, x2, x3, x4⟩ := hR1.facts; have HR1 := Lib.hid hR1; clear hR1; have H1 := Lib.hid h1; clear h1))
        | (go_at_call 68; ((with_reducible refine (refCol_any _ ?_ ?_ _).mono ?_); (first | omega | skip); (first | omega | skip); rintro e w2 ⟨rfl, h2⟩; have hR2 := HR1.out.below h2 HR1.out.lt; clear x0 x1 x2 x3 x4; obtain ⟨x0, x1, x2, x3, x4⟩ := hR2.facts; have HR2 := Lib.hid hR2; clear hR2; have H2 := Lib.hid h2; clear h2))
        | (go_at_call 26; ((with_reducible refine (refDigits_nat _ ?_ _).mono ?_); (first | omega | skip); rintro e w3 ⟨rfl, h3⟩; clear x0 x1 x2 x3 x4; have H3 := Lib.hid h3; clear h3)))
       go_ret
       exact ⟨ret_str ((cat_eq (cat_eq (cat_eq (cat_eq (str_sb s).symm str_b) str_d) (Eq.refl (strOfNums (colL c)))) (Eq.refl (strOfNums (digL k)))).trans (congrArg strOfNums HT.out)), below3 ((Below.refl _ _).alloc (Nat.le_refl _) _) H1.out H2.out H3.out⟩
set_option maxRecDepth 100000 in
set_option maxHeartbeats 400000 in
theorem text_sdd (s : ByteArray) (c r : Int) (k : Nat) (w : World) (_hs : s.size ≤ 1000000) (h0 : ¬ s.size = 0) (hm : mayL (sb s) c r = true) (hc0 : 0 ≤ c) (hc1 : c ≤ 701) (hr0 : 0 ≤ r) (hr1 : r ≤ 998) (hk : r + 1 = (k : Int)) (hz1 : (strOfNums (colL c)).size ≤ 2) (hz2 : (strOfNums (digL k)).size ≤ 1000) :
 Calls Tryz.prog 37 #[.agg #[.string s, .int .i64 c, .int .i64 r, .bool true, .bool true]] w fun e w' => e = .returned (.string (strOfNums (textL (sb s) c r true true))) ∧ Below w.heap.size w w' := by
       have hk2 : (r + 1).toNat = k := by omega
       have he : ¬ sb s = [] := by intro h; have := length_sb s; rw [h] at this; exact h0 this.symm
       have ht : ((((sb s ++ [33]) ++ [36]) ++ colL c) ++ [36]) ++ digL k = textL (sb s) c r true true := by unfold textL; rw [if_pos hm, hk2, if_neg he]; simp
       have HT := Lib.hid ht; clear ht hk2 he
       have hne : s.toList.isEmpty = false := by cases hq : s.toList with | nil => exact absurd hq (text_ne0 s h0) | cons a l => rfl
       clear h0
       have hR0 := RefAt.new w s c r true true
       have HR0 := Lib.hid hR0; clear hR0
       go_enter Tryz.func37, Tryz.ntmps37
       go_wp2_with (first
        | (go_at_call 66; ((with_reducible refine (refMay_any _ _ _ _ _ _ ?_).mono ?_); (first | omega | skip); rintro e w1 ⟨rfl, h1⟩; have hR1 := HR0.out.below h1 HR0.out.lt; obtain ⟨x0, x1, x2, x3, x4⟩ := hR1.facts; have HR1 := Lib.hid hR1; clear hR1; have H1 := Lib.hid h1; clear h1))
        | (go_at_call 68; ((with_reducible refine (refCol_any _ ?_ ?_ _).mono ?_); (first | omega | skip); (first | omega | skip); rintro e w2 ⟨rfl, h2⟩; have hR2 := HR1.out.below h2 HR1.out.lt; clear x0 x1 x2 x3 x4; obtain ⟨x0, x1, x2, x3, x4⟩ := hR2.facts; have HR2 := Lib.hid hR2; clear hR2; have H2 := Lib.hid h2; clear h2))
        | (go_at_call 26; ((with_reducible refine (refDigits_nat _ ?_ _).mono ?_); (first | omega | skip); rintro e w3 ⟨rfl, h3⟩; clear x0 x1 x2 x3 x4; have H3 := Lib.hid h3; clear h3)))
       go_ret
       exact ⟨ret_str ((cat_eq (cat_eq (cat_eq (cat_eq (cat_eq (str_sb s).symm str_b) str_d) (Eq.refl (strOfNums (colL c)))) str_d) (Eq.refl (strOfNums (digL k)))).trans (congrArg strOfNums HT.out)), below3 ((Below.refl _ _).alloc (Nat.le_refl _) _) H1.out H2.out H3.out⟩
set_option maxRecDepth 100000 in
set_option maxHeartbeats 400000 in
theorem refText_any (s : ByteArray) (c r : Int) (ac ar : Bool) (w : World) (_hs : s.size ≤ 1000000) :
 Calls Tryz.prog 37 #[.agg #[.string s, .int .i64 c, .int .i64 r, .bool ac, .bool ar]] w fun e w' => e = .returned (.string (strOfNums (textL (sb s) c r ac ar))) ∧ Below w.heap.size w w' := by
 by_cases hm : mayL (sb s) c r = true
 · obtain ⟨hc0, hc1, hr0, hr1⟩ := mayL_parts hm
   have hl1 := length_colL c
   obtain ⟨k, hk⟩ : ∃ k : Nat, r + 1 = (k : Int) := ⟨(r + 1).toNat, by omega⟩
   have hl2 := length_digL k
   have hz1 : (strOfNums (colL c)).size ≤ 2 := by rw [strOfNums_size]; exact hl1
   have hz2 : (strOfNums (digL k)).size ≤ 1000 := by rw [strOfNums_size]; omega
   by_cases h0 : s.size = 0
   · cases ac <;> cases ar
     · exact text_enn s c r k w _hs h0 hm hc0 hc1 hr0 hr1 hk hz1 hz2
     · exact text_end s c r k w _hs h0 hm hc0 hc1 hr0 hr1 hk hz1 hz2
     · exact text_edn s c r k w _hs h0 hm hc0 hc1 hr0 hr1 hk hz1 hz2
     · exact text_edd s c r k w _hs h0 hm hc0 hc1 hr0 hr1 hk hz1 hz2
   · cases ac <;> cases ar
     · exact text_snn s c r k w _hs h0 hm hc0 hc1 hr0 hr1 hk hz1 hz2
     · exact text_snd s c r k w _hs h0 hm hc0 hc1 hr0 hr1 hk hz1 hz2
     · exact text_sdn s c r k w _hs h0 hm hc0 hc1 hr0 hr1 hk hz1 hz2
     · exact text_sdd s c r k w _hs h0 hm hc0 hc1 hr0 hr1 hk hz1 hz2
 · have hm' : mayL (sb s) c r = false := by simpa using hm
   have ht : textL (sb s) c r ac ar = [] := by unfold textL; rw [if_neg hm]
   have HT := Lib.hid ht; clear ht hm
   go_enter Tryz.func37, Tryz.ntmps37
   go_wp2_with (first
    | (go_at_call 66; ((with_reducible refine (refMay_any _ _ _ _ _ _ ?_).mono ?_); (first | omega | skip); rintro e w1 ⟨rfl, h1⟩; have H1 := Lib.hid h1; clear h1)))
   go_ret
   exact ⟨by rw [HT.out]; rfl, ((Below.refl _ _).alloc (Nat.le_refl _) _).trans (H1.out.mono ((Below.refl _ _).alloc (Nat.le_refl _) _).size)⟩
def Rd.absColF (d : Rd) : Rd := { d with ac := d.mark, k := d.k + (dol d.mark).length }
def Rd.colF (d : Rd) : Rd := { d with c := readColL (d.rest.takeWhile isCap), k := d.k + (d.rest.takeWhile isCap).length }
def Rd.absRowF (d : Rd) : Rd := { d with ar := d.mark, k := d.k + (dol d.mark).length }
def Rd.at4 (d : Rd) : Rd := d.absColF.colF.absRowF
theorem length_digL3 (u : Nat) (h : u ≤ 999) : (digL u).length ≤ 3 := by
 by_cases h1 : u < 10
 · rw [digL_small u h1]; simp
 · rw [digL_more u h1, List.length_append]
   by_cases h2 : u / 10 < 10
   · rw [digL_small _ h2]; simp
   · rw [digL_more _ h2, List.length_append, digL_small _ (by omega)]; simp
theorem isRow_len {l : List Int} (hall : ∀ x ∈ l, isNum x = true) (h : isRow l = true) : l.length ≤ 3 := by
 obtain ⟨h1, h2, h3⟩ := isRow_parts h
 obtain ⟨h4, h5⟩ := digL_valL _ _ rfl h1 hall h2
 rw [← h5]; exact length_digL3 _ (by omega)
theorem cand_of (s : ByteArray) (d1 d : Rd) (h1 : ∀ e, (Rd.start s).sheet = some e → e = d1) (hs : d1.s = s) (h : readS s = some d) :
 isCol (d1.absColF.rest.takeWhile isCap) = true ∧ (∀ x ∈ d1.at4.rest, isNum x = true) ∧ d1.at4.rest.length ≤ 3 ∧ d.sh = d1.at4.sh ∧ d.c = d1.at4.c ∧ d.ac = d1.at4.ac ∧ d.ar = d1.at4.ar ∧ d.r = valL d1.at4.rest - 1 := by
 unfold readS at h
 simp only [Option.bind_eq_some_iff] at h
 obtain ⟨d5, ⟨d4, ⟨d3, ⟨d2, ⟨e1, g1, g2⟩, g3⟩, g4⟩, g5⟩, g6⟩ := h
 have := h1 e1 g1
 subst this
 have e2 : d2 = e1.absColF := by unfold Rd.absCol at g2; injection g2 with g2; exact g2.symm
 subst e2
 unfold Rd.col at g3
 by_cases hc : isCol (e1.absColF.rest.takeWhile isCap) = true
 · rw [if_pos hc] at g3
   have e3 : d3 = e1.absColF.colF := by injection g3 with g3; exact g3.symm
   subst e3
   have e4 : d4 = e1.at4 := by unfold Rd.absRow at g4; injection g4 with g4; exact g4.symm
   subst e4
   unfold Rd.row at g5
   by_cases hr : isRow (e1.at4.rest.takeWhile isNum) = true
   · rw [if_pos hr] at g5; injection g5 with g5; subst g5
     unfold Rd.fin at g6
     by_cases hk : e1.at4.k + (e1.at4.rest.takeWhile isNum).length = e1.at4.s.size
     · rw [if_pos hk] at g6; injection g6 with g6; subst g6
       have hl := length_rest e1.at4
       have hsp := take_split isNum e1.at4.rest
       have hdrop : e1.at4.rest.drop (e1.at4.rest.takeWhile isNum).length = [] := by rw [List.drop_eq_nil_iff]; omega
       rw [hdrop, List.append_nil] at hsp
       have hall := take_all isNum e1.at4.rest
       have hlen := isRow_len hall hr
       rw [hsp] at hall hlen
       refine ⟨hc, hall, hlen, rfl, rfl, rfl, rfl, ?_⟩
       show valL (e1.at4.rest.takeWhile isNum) - 1 = _
       rw [hsp]
     · rw [if_neg hk] at g6; cases g6
   · rw [if_neg hr] at g5; cases g5
 · rw [if_neg hc] at g3; cases g3
structure RSt (w wr : World) (sh : ByteArray) (c r : Int) (ac ar : Bool) : Prop where
 res : RefAt wr w.heap.size ⟨#[]⟩ 0 0 false false
 ref : RefAt wr (w.heap.size + 1) sh c r ac ar
 below : Below w.heap.size w wr
theorem RefAt.drewN {w : World} {b : Nat} {s : ByteArray} {c r : Int} {ac ar : Bool} (h : RefAt w b s c r ac ar) (n : Nat) : RefAt (w.drewN n) b s c r ac ar := h
theorem RefAt.frozen {w : World} {b : Nat} {s : ByteArray} {c r : Int} {ac ar : Bool} (h : RefAt w b s c r ac ar) (j : Nat) : w.frozen? ⟨b, j, none⟩ = false := frozen_of_row w b j _ _ h
theorem RefAt.other {w : World} {b : Nat} {s : ByteArray} {c r : Int} {ac ar : Bool} (h : RefAt w b s c r ac ar) (a : Addr) (v : Value) (hne : b ≠ a.block) : RefAt (w.setCell a v) b s c r ac ar := by
 unfold RefAt; rw [heap_setCell_other w a b v hne]; exact h
theorem RSt.drewN {w wr : World} {sh : ByteArray} {c r : Int} {ac ar : Bool} (h : RSt w wr sh c r ac ar) (n : Nat) : RSt w (wr.drewN n) sh c r ac ar := ⟨h.res.drewN n, h.ref.drewN n, ⟨h.below.os, h.below.tape, h.below.output, h.below.size, h.below.block⟩⟩
theorem RSt.next {w wr w2 : World} {sh : ByteArray} {c r : Int} {ac ar : Bool} (h : RSt w wr sh c r ac ar) (hb : Below wr.heap.size wr w2) : RSt w w2 sh c r ac ar :=
 ⟨h.res.below hb h.res.lt, h.ref.below hb h.ref.lt, h.below.trans (hb.mono h.below.size)⟩
theorem RSt.set (i : Nat) {w wr : World} {sh : ByteArray} {c r : Int} {ac ar : Bool} (h : RSt w wr sh c r ac ar) (v : Value) (sh' : ByteArray) (c' r' : Int) (ac' ar' : Bool)
 (hv : (#[.string sh, .int .i64 c, .int .i64 r, .bool ac, .bool ar] : Array Value).setIfInBounds i v = #[.string sh', .int .i64 c', .int .i64 r', .bool ac', .bool ar']) : RSt w (wr.setCell ⟨w.heap.size + 1, i, none⟩ v) sh' c' r' ac' ar' := by
 refine ⟨h.res.other _ _ (by show w.heap.size ≠ w.heap.size + 1; omega), ?_, h.below.setCell (by show w.heap.size ≤ w.heap.size + 1; omega) _⟩
 have hr := h.ref
 unfold RefAt at hr ⊢
 rw [heap_setCell_same wr (w.heap.size + 1) i _ _ _ hr, hv]
end Go.Proofs.YtkdamdmnchcceaaGreatDoor
