/-
  Layer 3, the reference: a reference's text.
-/
import Derived.Test.YtdapnipodnhpkaaDoorAddrC
namespace Go.Proofs.YtdapnipodnhpkaaDoor
open Go.RowKit

set_option maxRecDepth 100000 in
set_option maxHeartbeats 400000 in
theorem text_enn (s : ByteArray) (c r : Int) (k : Nat) (w : World) (_hs : s.size ≤ 1000000) (h0 : s.size = 0) (hm : mayL (sb s) c r = true) (hc0 : 0 ≤ c) (hc1 : c ≤ 701) (hr0 : 0 ≤ r) (hr1 : r ≤ 998) (hk : r + 1 = (k : Int)) (hz1 : (strOfNums (colL c)).size ≤ 2) (hz2 : (strOfNums (digL k)).size ≤ 1000) :
    Calls Tryd.prog 12 #[.agg #[.string s, .int .i64 c, .int .i64 r, .bool false, .bool false]] w fun e w' => e = .returned (.string (strOfNums (textL (sb s) c r false false))) ∧ Below w.heap.size w w' := by
          have hk2 : (r + 1).toNat = k := by omega
          have he : sb s = [] := List.eq_nil_of_length_eq_zero (by rw [length_sb]; exact h0)
          have ht : ([] ++ colL c) ++ digL k = textL (sb s) c r false false := by unfold textL; rw [if_pos hm, hk2, if_pos he]; simp
          have HT := Lib.hid ht; clear ht hk2 he
          have := sb_nil s h0
          subst this
          clear h0
          have hR0 := RefAt.new w ⟨#[]⟩ c r false false
          have HR0 := Lib.hid hR0; clear hR0
          go_enter Tryd.func12, Tryd.ntmps12
          go_wp2_with (first
            | (go_at_call 16; ((with_reducible refine (refMay_any _ _ _ _ _ _ ?_).mono ?_); (first | omega | skip); rintro e w1 ⟨rfl, h1⟩; have hR1 := HR0.out.below h1 HR0.out.lt; obtain ⟨x0, x1, x2, x3, x4⟩ := hR1.facts; have HR1 := Lib.hid hR1; clear hR1; have H1 := Lib.hid h1; clear h1))
            | (go_at_call 17; ((with_reducible refine (refCol_any _ ?_ ?_ _).mono ?_); (first | omega | skip); (first | omega | skip); rintro e w2 ⟨rfl, h2⟩; have hR2 := HR1.out.below h2 HR1.out.lt; clear x0 x1 x2 x3 x4; obtain ⟨x0, x1, x2, x3, x4⟩ := hR2.facts; have HR2 := Lib.hid hR2; clear hR2; have H2 := Lib.hid h2; clear h2))
            | (go_at_call 11; ((with_reducible refine (refDigits_nat _ ?_ _).mono ?_); (first | omega | skip); rintro e w3 ⟨rfl, h3⟩; clear x0 x1 x2 x3 x4; have H3 := Lib.hid h3; clear h3)))
          go_ret
          exact ⟨ret_str ((cat_eq (cat_eq str_e (Eq.refl (strOfNums (colL c)))) (Eq.refl (strOfNums (digL k)))).trans (congrArg strOfNums HT.out)), below3 ((Below.refl _ _).alloc (Nat.le_refl _) _) H1.out H2.out H3.out⟩
set_option maxRecDepth 100000 in
set_option maxHeartbeats 400000 in
theorem text_end (s : ByteArray) (c r : Int) (k : Nat) (w : World) (_hs : s.size ≤ 1000000) (h0 : s.size = 0) (hm : mayL (sb s) c r = true) (hc0 : 0 ≤ c) (hc1 : c ≤ 701) (hr0 : 0 ≤ r) (hr1 : r ≤ 998) (hk : r + 1 = (k : Int)) (hz1 : (strOfNums (colL c)).size ≤ 2) (hz2 : (strOfNums (digL k)).size ≤ 1000) :
    Calls Tryd.prog 12 #[.agg #[.string s, .int .i64 c, .int .i64 r, .bool false, .bool true]] w fun e w' => e = .returned (.string (strOfNums (textL (sb s) c r false true))) ∧ Below w.heap.size w w' := by
          have hk2 : (r + 1).toNat = k := by omega
          have he : sb s = [] := List.eq_nil_of_length_eq_zero (by rw [length_sb]; exact h0)
          have ht : (([] ++ colL c) ++ [36]) ++ digL k = textL (sb s) c r false true := by unfold textL; rw [if_pos hm, hk2, if_pos he]; simp
          have HT := Lib.hid ht; clear ht hk2 he
          have := sb_nil s h0
          subst this
          clear h0
          have hR0 := RefAt.new w ⟨#[]⟩ c r false true
          have HR0 := Lib.hid hR0; clear hR0
          go_enter Tryd.func12, Tryd.ntmps12
          go_wp2_with (first
            | (go_at_call 16; ((with_reducible refine (refMay_any _ _ _ _ _ _ ?_).mono ?_); (first | omega | skip); rintro e w1 ⟨rfl, h1⟩; have hR1 := HR0.out.below h1 HR0.out.lt; obtain ⟨x0, x1, x2, x3, x4⟩ := hR1.facts; have HR1 := Lib.hid hR1; clear hR1; have H1 := Lib.hid h1; clear h1))
            | (go_at_call 17; ((with_reducible refine (refCol_any _ ?_ ?_ _).mono ?_); (first | omega | skip); (first | omega | skip); rintro e w2 ⟨rfl, h2⟩; have hR2 := HR1.out.below h2 HR1.out.lt; clear x0 x1 x2 x3 x4; obtain ⟨x0, x1, x2, x3, x4⟩ := hR2.facts; have HR2 := Lib.hid hR2; clear hR2; have H2 := Lib.hid h2; clear h2))
            | (go_at_call 11; ((with_reducible refine (refDigits_nat _ ?_ _).mono ?_); (first | omega | skip); rintro e w3 ⟨rfl, h3⟩; clear x0 x1 x2 x3 x4; have H3 := Lib.hid h3; clear h3)))
          go_ret
          exact ⟨ret_str ((cat_eq (cat_eq (cat_eq str_e (Eq.refl (strOfNums (colL c)))) str_d) (Eq.refl (strOfNums (digL k)))).trans (congrArg strOfNums HT.out)), below3 ((Below.refl _ _).alloc (Nat.le_refl _) _) H1.out H2.out H3.out⟩
set_option maxRecDepth 100000 in
set_option maxHeartbeats 400000 in
theorem text_edn (s : ByteArray) (c r : Int) (k : Nat) (w : World) (_hs : s.size ≤ 1000000) (h0 : s.size = 0) (hm : mayL (sb s) c r = true) (hc0 : 0 ≤ c) (hc1 : c ≤ 701) (hr0 : 0 ≤ r) (hr1 : r ≤ 998) (hk : r + 1 = (k : Int)) (hz1 : (strOfNums (colL c)).size ≤ 2) (hz2 : (strOfNums (digL k)).size ≤ 1000) :
    Calls Tryd.prog 12 #[.agg #[.string s, .int .i64 c, .int .i64 r, .bool true, .bool false]] w fun e w' => e = .returned (.string (strOfNums (textL (sb s) c r true false))) ∧ Below w.heap.size w w' := by
          have hk2 : (r + 1).toNat = k := by omega
          have he : sb s = [] := List.eq_nil_of_length_eq_zero (by rw [length_sb]; exact h0)
          have ht : (([] ++ [36]) ++ colL c) ++ digL k = textL (sb s) c r true false := by unfold textL; rw [if_pos hm, hk2, if_pos he]; simp
          have HT := Lib.hid ht; clear ht hk2 he
          have := sb_nil s h0
          subst this
          clear h0
          have hR0 := RefAt.new w ⟨#[]⟩ c r true false
          have HR0 := Lib.hid hR0; clear hR0
          go_enter Tryd.func12, Tryd.ntmps12
          go_wp2_with (first
            | (go_at_call 16; ((with_reducible refine (refMay_any _ _ _ _ _ _ ?_).mono ?_); (first | omega | skip); rintro e w1 ⟨rfl, h1⟩; have hR1 := HR0.out.below h1 HR0.out.lt; obtain ⟨x0, x1, x2, x3, x4⟩ := hR1.facts; have HR1 := Lib.hid hR1; clear hR1; have H1 := Lib.hid h1; clear h1))
            | (go_at_call 17; ((with_reducible refine (refCol_any _ ?_ ?_ _).mono ?_); (first | omega | skip); (first | omega | skip); rintro e w2 ⟨rfl, h2⟩; have hR2 := HR1.out.below h2 HR1.out.lt; clear x0 x1 x2 x3 x4; obtain ⟨x0, x1, x2, x3, x4⟩ := hR2.facts; have HR2 := Lib.hid hR2; clear hR2; have H2 := Lib.hid h2; clear h2))
            | (go_at_call 11; ((with_reducible refine (refDigits_nat _ ?_ _).mono ?_); (first | omega | skip); rintro e w3 ⟨rfl, h3⟩; clear x0 x1 x2 x3 x4; have H3 := Lib.hid h3; clear h3)))
          go_ret
          exact ⟨ret_str ((cat_eq (cat_eq (cat_eq str_e str_d) (Eq.refl (strOfNums (colL c)))) (Eq.refl (strOfNums (digL k)))).trans (congrArg strOfNums HT.out)), below3 ((Below.refl _ _).alloc (Nat.le_refl _) _) H1.out H2.out H3.out⟩
set_option maxRecDepth 100000 in
set_option maxHeartbeats 400000 in
theorem text_edd (s : ByteArray) (c r : Int) (k : Nat) (w : World) (_hs : s.size ≤ 1000000) (h0 : s.size = 0) (hm : mayL (sb s) c r = true) (hc0 : 0 ≤ c) (hc1 : c ≤ 701) (hr0 : 0 ≤ r) (hr1 : r ≤ 998) (hk : r + 1 = (k : Int)) (hz1 : (strOfNums (colL c)).size ≤ 2) (hz2 : (strOfNums (digL k)).size ≤ 1000) :
    Calls Tryd.prog 12 #[.agg #[.string s, .int .i64 c, .int .i64 r, .bool true, .bool true]] w fun e w' => e = .returned (.string (strOfNums (textL (sb s) c r true true))) ∧ Below w.heap.size w w' := by
          have hk2 : (r + 1).toNat = k := by omega
          have he : sb s = [] := List.eq_nil_of_length_eq_zero (by rw [length_sb]; exact h0)
          have ht : ((([] ++ [36]) ++ colL c) ++ [36]) ++ digL k = textL (sb s) c r true true := by unfold textL; rw [if_pos hm, hk2, if_pos he]; simp
          have HT := Lib.hid ht; clear ht hk2 he
          have := sb_nil s h0
          subst this
          clear h0
          have hR0 := RefAt.new w ⟨#[]⟩ c r true true
          have HR0 := Lib.hid hR0; clear hR0
          go_enter Tryd.func12, Tryd.ntmps12
          go_wp2_with (first
            | (go_at_call 16; ((with_reducible refine (refMay_any _ _ _ _ _ _ ?_).mono ?_); (first | omega | skip); rintro e w1 ⟨rfl, h1⟩; have hR1 := HR0.out.below h1 HR0.out.lt; obtain ⟨x0, x1, x2, x3, x4⟩ := hR1.facts; have HR1 := Lib.hid hR1; clear hR1; have H1 := Lib.hid h1; clear h1))
            | (go_at_call 17; ((with_reducible refine (refCol_any _ ?_ ?_ _).mono ?_); (first | omega | skip); (first | omega | skip); rintro e w2 ⟨rfl, h2⟩; have hR2 := HR1.out.below h2 HR1.out.lt; clear x0 x1 x2 x3 x4; obtain ⟨x0, x1, x2, x3, x4⟩ := hR2.facts; have HR2 := Lib.hid hR2; clear hR2; have H2 := Lib.hid h2; clear h2))
            | (go_at_call 11; ((with_reducible refine (refDigits_nat _ ?_ _).mono ?_); (first | omega | skip); rintro e w3 ⟨rfl, h3⟩; clear x0 x1 x2 x3 x4; have H3 := Lib.hid h3; clear h3)))
          go_ret
          exact ⟨ret_str ((cat_eq (cat_eq (cat_eq (cat_eq str_e str_d) (Eq.refl (strOfNums (colL c)))) str_d) (Eq.refl (strOfNums (digL k)))).trans (congrArg strOfNums HT.out)), below3 ((Below.refl _ _).alloc (Nat.le_refl _) _) H1.out H2.out H3.out⟩
set_option maxRecDepth 100000 in
set_option maxHeartbeats 400000 in
theorem text_snn (s : ByteArray) (c r : Int) (k : Nat) (w : World) (_hs : s.size ≤ 1000000) (h0 : ¬ s.size = 0) (hm : mayL (sb s) c r = true) (hc0 : 0 ≤ c) (hc1 : c ≤ 701) (hr0 : 0 ≤ r) (hr1 : r ≤ 998) (hk : r + 1 = (k : Int)) (hz1 : (strOfNums (colL c)).size ≤ 2) (hz2 : (strOfNums (digL k)).size ≤ 1000) :
    Calls Tryd.prog 12 #[.agg #[.string s, .int .i64 c, .int .i64 r, .bool false, .bool false]] w fun e w' => e = .returned (.string (strOfNums (textL (sb s) c r false false))) ∧ Below w.heap.size w w' := by
          have hk2 : (r + 1).toNat = k := by omega
          have he : ¬ sb s = [] := by intro h; have := length_sb s; rw [h] at this; exact h0 this.symm
          have ht : ((sb s ++ [33]) ++ colL c) ++ digL k = textL (sb s) c r false false := by unfold textL; rw [if_pos hm, hk2, if_neg he]; simp
          have HT := Lib.hid ht; clear ht hk2 he
          have hne : s.toList.isEmpty = false := by cases hq : s.toList with | nil => exact absurd hq (text_ne0 s h0) | cons a l => rfl
          clear h0
          have hR0 := RefAt.new w s c r false false
          have HR0 := Lib.hid hR0; clear hR0
          go_enter Tryd.func12, Tryd.ntmps12
          go_wp2_with (first
            | (go_at_call 16; ((with_reducible refine (refMay_any _ _ _ _ _ _ ?_).mono ?_); (first | omega | skip); rintro e w1 ⟨rfl, h1⟩; have hR1 := HR0.out.below h1 HR0.out.lt; obtain ⟨x0, x1, x2, x3, x4⟩ := hR1.facts; have HR1 := Lib.hid hR1; clear hR1; have H1 := Lib.hid h1; clear h1))
            | (go_at_call 17; ((with_reducible refine (refCol_any _ ?_ ?_ _).mono ?_); (first | omega | skip); (first | omega | skip); rintro e w2 ⟨rfl, h2⟩; have hR2 := HR1.out.below h2 HR1.out.lt; clear x0 x1 x2 x3 x4; obtain ⟨x0, x1, x2, x3, x4⟩ := hR2.facts; have HR2 := Lib.hid hR2; clear hR2; have H2 := Lib.hid h2; clear h2))
            | (go_at_call 11; ((with_reducible refine (refDigits_nat _ ?_ _).mono ?_); (first | omega | skip); rintro e w3 ⟨rfl, h3⟩; clear x0 x1 x2 x3 x4; have H3 := Lib.hid h3; clear h3)))
          go_ret
          exact ⟨ret_str ((cat_eq (cat_eq (cat_eq (str_sb s).symm str_b) (Eq.refl (strOfNums (colL c)))) (Eq.refl (strOfNums (digL k)))).trans (congrArg strOfNums HT.out)), below3 ((Below.refl _ _).alloc (Nat.le_refl _) _) H1.out H2.out H3.out⟩
set_option maxRecDepth 100000 in
set_option maxHeartbeats 400000 in
theorem text_snd (s : ByteArray) (c r : Int) (k : Nat) (w : World) (_hs : s.size ≤ 1000000) (h0 : ¬ s.size = 0) (hm : mayL (sb s) c r = true) (hc0 : 0 ≤ c) (hc1 : c ≤ 701) (hr0 : 0 ≤ r) (hr1 : r ≤ 998) (hk : r + 1 = (k : Int)) (hz1 : (strOfNums (colL c)).size ≤ 2) (hz2 : (strOfNums (digL k)).size ≤ 1000) :
    Calls Tryd.prog 12 #[.agg #[.string s, .int .i64 c, .int .i64 r, .bool false, .bool true]] w fun e w' => e = .returned (.string (strOfNums (textL (sb s) c r false true))) ∧ Below w.heap.size w w' := by
          have hk2 : (r + 1).toNat = k := by omega
          have he : ¬ sb s = [] := by intro h; have := length_sb s; rw [h] at this; exact h0 this.symm
          have ht : (((sb s ++ [33]) ++ colL c) ++ [36]) ++ digL k = textL (sb s) c r false true := by unfold textL; rw [if_pos hm, hk2, if_neg he]; simp
          have HT := Lib.hid ht; clear ht hk2 he
          have hne : s.toList.isEmpty = false := by cases hq : s.toList with | nil => exact absurd hq (text_ne0 s h0) | cons a l => rfl
          clear h0
          have hR0 := RefAt.new w s c r false true
          have HR0 := Lib.hid hR0; clear hR0
          go_enter Tryd.func12, Tryd.ntmps12
          go_wp2_with (first
            | (go_at_call 16; ((with_reducible refine (refMay_any _ _ _ _ _ _ ?_).mono ?_); (first | omega | skip); rintro e w1 ⟨rfl, h1⟩; have hR1 := HR0.out.below h1 HR0.out.lt; obtain ⟨x0, x1, x2, x3, x4⟩ := hR1.facts; have HR1 := Lib.hid hR1; clear hR1; have H1 := Lib.hid h1; clear h1))
            | (go_at_call 17; ((with_reducible refine (refCol_any _ ?_ ?_ _).mono ?_); (first | omega | skip); (first | omega | skip); rintro e w2 ⟨rfl, h2⟩; have hR2 := HR1.out.below h2 HR1.out.lt; clear x0 x1 x2 x3 x4; obtain ⟨x0, x1, x2, x3, x4⟩ := hR2.facts; have HR2 := Lib.hid hR2; clear hR2; have H2 := Lib.hid h2; clear h2))
            | (go_at_call 11; ((with_reducible refine (refDigits_nat _ ?_ _).mono ?_); (first | omega | skip); rintro e w3 ⟨rfl, h3⟩; clear x0 x1 x2 x3 x4; have H3 := Lib.hid h3; clear h3)))
          go_ret
          exact ⟨ret_str ((cat_eq (cat_eq (cat_eq (cat_eq (str_sb s).symm str_b) (Eq.refl (strOfNums (colL c)))) str_d) (Eq.refl (strOfNums (digL k)))).trans (congrArg strOfNums HT.out)), below3 ((Below.refl _ _).alloc (Nat.le_refl _) _) H1.out H2.out H3.out⟩
set_option maxRecDepth 100000 in
set_option maxHeartbeats 400000 in
theorem text_sdn (s : ByteArray) (c r : Int) (k : Nat) (w : World) (_hs : s.size ≤ 1000000) (h0 : ¬ s.size = 0) (hm : mayL (sb s) c r = true) (hc0 : 0 ≤ c) (hc1 : c ≤ 701) (hr0 : 0 ≤ r) (hr1 : r ≤ 998) (hk : r + 1 = (k : Int)) (hz1 : (strOfNums (colL c)).size ≤ 2) (hz2 : (strOfNums (digL k)).size ≤ 1000) :
    Calls Tryd.prog 12 #[.agg #[.string s, .int .i64 c, .int .i64 r, .bool true, .bool false]] w fun e w' => e = .returned (.string (strOfNums (textL (sb s) c r true false))) ∧ Below w.heap.size w w' := by
          have hk2 : (r + 1).toNat = k := by omega
          have he : ¬ sb s = [] := by intro h; have := length_sb s; rw [h] at this; exact h0 this.symm
          have ht : (((sb s ++ [33]) ++ [36]) ++ colL c) ++ digL k = textL (sb s) c r true false := by unfold textL; rw [if_pos hm, hk2, if_neg he]; simp
          have HT := Lib.hid ht; clear ht hk2 he
          have hne : s.toList.isEmpty = false := by cases hq : s.toList with | nil => exact absurd hq (text_ne0 s h0) | cons a l => rfl
          clear h0
          have hR0 := RefAt.new w s c r true false
          have HR0 := Lib.hid hR0; clear hR0
          go_enter Tryd.func12, Tryd.ntmps12
          go_wp2_with (first
            | (go_at_call 16; ((with_reducible refine (refMay_any _ _ _ _ _ _ ?_).mono ?_); (first | omega | skip); rintro e w1 ⟨rfl, h1⟩; have hR1 := HR0.out.below h1 HR0.out.lt; obtain ⟨x0, x1, x2, x3, x4⟩ := hR1.facts; have HR1 := Lib.hid hR1; clear hR1; have H1 := Lib.hid h1; clear h1))
            | (go_at_call 17; ((with_reducible refine (refCol_any _ ?_ ?_ _).mono ?_); (first | omega | skip); (first | omega | skip); rintro e w2 ⟨rfl, h2⟩; have hR2 := HR1.out.below h2 HR1.out.lt; clear x0 x1 x2 x3 x4; obtain ⟨x0, x1, x2, x3, x4⟩ := hR2.facts; have HR2 := Lib.hid hR2; clear hR2; have H2 := Lib.hid h2; clear h2))
            | (go_at_call 11; ((with_reducible refine (refDigits_nat _ ?_ _).mono ?_); (first | omega | skip); rintro e w3 ⟨rfl, h3⟩; clear x0 x1 x2 x3 x4; have H3 := Lib.hid h3; clear h3)))
          go_ret
          exact ⟨ret_str ((cat_eq (cat_eq (cat_eq (cat_eq (str_sb s).symm str_b) str_d) (Eq.refl (strOfNums (colL c)))) (Eq.refl (strOfNums (digL k)))).trans (congrArg strOfNums HT.out)), below3 ((Below.refl _ _).alloc (Nat.le_refl _) _) H1.out H2.out H3.out⟩
set_option maxRecDepth 100000 in
set_option maxHeartbeats 400000 in
theorem text_sdd (s : ByteArray) (c r : Int) (k : Nat) (w : World) (_hs : s.size ≤ 1000000) (h0 : ¬ s.size = 0) (hm : mayL (sb s) c r = true) (hc0 : 0 ≤ c) (hc1 : c ≤ 701) (hr0 : 0 ≤ r) (hr1 : r ≤ 998) (hk : r + 1 = (k : Int)) (hz1 : (strOfNums (colL c)).size ≤ 2) (hz2 : (strOfNums (digL k)).size ≤ 1000) :
    Calls Tryd.prog 12 #[.agg #[.string s, .int .i64 c, .int .i64 r, .bool true, .bool true]] w fun e w' => e = .returned (.string (strOfNums (textL (sb s) c r true true))) ∧ Below w.heap.size w w' := by
          have hk2 : (r + 1).toNat = k := by omega
          have he : ¬ sb s = [] := by intro h; have := length_sb s; rw [h] at this; exact h0 this.symm
          have ht : ((((sb s ++ [33]) ++ [36]) ++ colL c) ++ [36]) ++ digL k = textL (sb s) c r true true := by unfold textL; rw [if_pos hm, hk2, if_neg he]; simp
          have HT := Lib.hid ht; clear ht hk2 he
          have hne : s.toList.isEmpty = false := by cases hq : s.toList with | nil => exact absurd hq (text_ne0 s h0) | cons a l => rfl
          clear h0
          have hR0 := RefAt.new w s c r true true
          have HR0 := Lib.hid hR0; clear hR0
          go_enter Tryd.func12, Tryd.ntmps12
          go_wp2_with (first
            | (go_at_call 16; ((with_reducible refine (refMay_any _ _ _ _ _ _ ?_).mono ?_); (first | omega | skip); rintro e w1 ⟨rfl, h1⟩; have hR1 := HR0.out.below h1 HR0.out.lt; obtain ⟨x0, x1, x2, x3, x4⟩ := hR1.facts; have HR1 := Lib.hid hR1; clear hR1; have H1 := Lib.hid h1; clear h1))
            | (go_at_call 17; ((with_reducible refine (refCol_any _ ?_ ?_ _).mono ?_); (first | omega | skip); (first | omega | skip); rintro e w2 ⟨rfl, h2⟩; have hR2 := HR1.out.below h2 HR1.out.lt; clear x0 x1 x2 x3 x4; obtain ⟨x0, x1, x2, x3, x4⟩ := hR2.facts; have HR2 := Lib.hid hR2; clear hR2; have H2 := Lib.hid h2; clear h2))
            | (go_at_call 11; ((with_reducible refine (refDigits_nat _ ?_ _).mono ?_); (first | omega | skip); rintro e w3 ⟨rfl, h3⟩; clear x0 x1 x2 x3 x4; have H3 := Lib.hid h3; clear h3)))
          go_ret
          exact ⟨ret_str ((cat_eq (cat_eq (cat_eq (cat_eq (cat_eq (str_sb s).symm str_b) str_d) (Eq.refl (strOfNums (colL c)))) str_d) (Eq.refl (strOfNums (digL k)))).trans (congrArg strOfNums HT.out)), below3 ((Below.refl _ _).alloc (Nat.le_refl _) _) H1.out H2.out H3.out⟩

set_option maxRecDepth 100000 in
set_option maxHeartbeats 400000 in
theorem refText_any (s : ByteArray) (c r : Int) (ac ar : Bool) (w : World) (_hs : s.size ≤ 1000000) :
    Calls Tryd.prog 12 #[.agg #[.string s, .int .i64 c, .int .i64 r, .bool ac, .bool ar]] w fun e w' => e = .returned (.string (strOfNums (textL (sb s) c r ac ar))) ∧ Below w.heap.size w w' := by
  by_cases hm : mayL (sb s) c r = true
  · obtain ⟨hc0, hc1, hr0, hr1⟩ := mayL_parts hm
    have hl1 := length_colL c
    obtain ⟨k, hk⟩ : ∃ k : Nat, r + 1 = (k : Int) := ⟨(r + 1).toNat, by omega⟩
    have hl2 := length_digL k
    have hz1 : (strOfNums (colL c)).size ≤ 2 := by rw [strOfNums_size]; exact hl1
    have hz2 : (strOfNums (digL k)).size ≤ 1000 := by rw [strOfNums_size]; omega
    by_cases h0 : s.size = 0
    · cases ac <;> cases ar
      · exact text_enn s c r k w _hs h0 hm hc0 hc1 hr0 hr1 hk hz1 hz2
      · exact text_end s c r k w _hs h0 hm hc0 hc1 hr0 hr1 hk hz1 hz2
      · exact text_edn s c r k w _hs h0 hm hc0 hc1 hr0 hr1 hk hz1 hz2
      · exact text_edd s c r k w _hs h0 hm hc0 hc1 hr0 hr1 hk hz1 hz2
    · cases ac <;> cases ar
      · exact text_snn s c r k w _hs h0 hm hc0 hc1 hr0 hr1 hk hz1 hz2
      · exact text_snd s c r k w _hs h0 hm hc0 hc1 hr0 hr1 hk hz1 hz2
      · exact text_sdn s c r k w _hs h0 hm hc0 hc1 hr0 hr1 hk hz1 hz2
      · exact text_sdd s c r k w _hs h0 hm hc0 hc1 hr0 hr1 hk hz1 hz2
  · have hm' : mayL (sb s) c r = false := by simpa using hm
    have ht : textL (sb s) c r ac ar = [] := by unfold textL; rw [if_neg hm]
    have HT := Lib.hid ht; clear ht hm
    go_enter Tryd.func12, Tryd.ntmps12
    go_wp2_with (first
      | (go_at_call 16; ((with_reducible refine (refMay_any _ _ _ _ _ _ ?_).mono ?_); (first | omega | skip); rintro e w1 ⟨rfl, h1⟩; have H1 := Lib.hid h1; clear h1)))
    go_ret
    exact ⟨by rw [HT.out]; rfl, ((Below.refl _ _).alloc (Nat.le_refl _) _).trans (H1.out.mono ((Below.refl _ _).alloc (Nat.le_refl _) _).size)⟩
end Go.Proofs.YtdapnipodnhpkaaDoor
