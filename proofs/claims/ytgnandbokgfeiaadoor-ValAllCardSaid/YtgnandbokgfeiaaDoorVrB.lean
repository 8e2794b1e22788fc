/-
  Layer 7, the reference: texts, what may be, numbers.
-/
import Derived.Test.YtgnandbokgfeiaaDoorVrA
namespace Go.Proofs.YtgnandbokgfeiaaDoor
open Go.RowKit

set_option maxRecDepth 100000 in
set_option maxHeartbeats 1600000 in
theorem rtext_1 (v : Vl) (h1 : v.k = 1) (ha : VOk v) (w : World) : Calls Tryd.prog 16 #[.agg #[.int .i64 v.k, .int .i64 v.n, .string v.s]] w fun e w' => e = .returned (.string (strOfNums (decL v.n))) ∧ Below w.heap.size w w' := by
  have e1 : (v.k == 1) = true := beq_iff_eq.2 h1
  have hi := refDigits_any v.n ha.1 ha.2.1 (w.alloc (.cells #[.int .i64 v.k, .int .i64 v.n, .string v.s] 23))
  have HI := Lib.hid hi
  clear hi ha
  have HB := Lib.hid (below_vl w v)
  clear h1
  go_enter Tryd.func16, Tryd.ntmps16
  go_wp2_with (go_at_call 24; ((with_reducible refine HI.out.mono ?_); rintro e w2 ⟨rfl, hb⟩; have HB2 := Lib.hid (HB.out.trans (hb.mono HB.out.size)); clear hb))
  go_ret
  exact ⟨rfl, HB2.out⟩
set_option maxRecDepth 100000 in
set_option maxHeartbeats 1600000 in
theorem rtext_2 (v : Vl) (h1 : ¬ v.k = 1) (h2 : v.k = 2) (w : World) : Calls Tryd.prog 16 #[.agg #[.int .i64 v.k, .int .i64 v.n, .string v.s]] w fun e w' => e = .returned (.string v.s) ∧ Below w.heap.size w w' := by
  have e1 : (v.k == 1) = false := beq_eq_false_iff_ne.2 h1
  have e2 : (v.k == 2) = true := beq_iff_eq.2 h2
  have HB := Lib.hid (below_vl w v)
  clear h1 h2
  go_enter Tryd.func16, Tryd.ntmps16
  go_wp2_with fail
  go_ret
  exact ⟨rfl, HB.out⟩
set_option maxRecDepth 100000 in
set_option maxHeartbeats 1600000 in
theorem rtext_3 (v : Vl) (h1 : ¬ v.k = 1) (h2 : ¬ v.k = 2) (h3 : v.k = 3) (hn : v.n = 1) (w : World) : Calls Tryd.prog 16 #[.agg #[.int .i64 v.k, .int .i64 v.n, .string v.s]] w fun e w' => e = .returned (.string ⟨#[84, 82, 85, 69]⟩) ∧ Below w.heap.size w w' := by
  have e1 : (v.k == 1) = false := beq_eq_false_iff_ne.2 h1
  have e2 : (v.k == 2) = false := beq_eq_false_iff_ne.2 h2
  have e3 : (v.k == 3) = true := beq_iff_eq.2 h3
  have en : (v.n == 1) = true := beq_iff_eq.2 hn
  clear hn
  have HB := Lib.hid (below_vl w v)
  clear h1 h2 h3
  go_enter Tryd.func16, Tryd.ntmps16
  go_wp2_with fail
  go_ret
  exact ⟨rfl, HB.out⟩
set_option maxRecDepth 100000 in
set_option maxHeartbeats 1600000 in
theorem rtext_4 (v : Vl) (h1 : ¬ v.k = 1) (h2 : ¬ v.k = 2) (h3 : v.k = 3) (hn : ¬ v.n = 1) (w : World) : Calls Tryd.prog 16 #[.agg #[.int .i64 v.k, .int .i64 v.n, .string v.s]] w fun e w' => e = .returned (.string ⟨#[70, 65, 76, 83, 69]⟩) ∧ Below w.heap.size w w' := by
  have e1 : (v.k == 1) = false := beq_eq_false_iff_ne.2 h1
  have e2 : (v.k == 2) = false := beq_eq_false_iff_ne.2 h2
  have e3 : (v.k == 3) = true := beq_iff_eq.2 h3
  have en : (v.n == 1) = false := beq_eq_false_iff_ne.2 hn
  clear hn
  have HB := Lib.hid (below_vl w v)
  clear h1 h2 h3
  go_enter Tryd.func16, Tryd.ntmps16
  go_wp2_with fail
  go_ret
  exact ⟨rfl, HB.out⟩
set_option maxRecDepth 100000 in
set_option maxHeartbeats 1600000 in
theorem rtext_6 (v : Vl) (h1 : ¬ v.k = 1) (h2 : ¬ v.k = 2) (h3 : ¬ v.k = 3) (h4 : ¬ v.k = 4) (w : World) : Calls Tryd.prog 16 #[.agg #[.int .i64 v.k, .int .i64 v.n, .string v.s]] w fun e w' => e = .returned (.string ⟨#[]⟩) ∧ Below w.heap.size w w' := by
  have e1 : (v.k == 1) = false := beq_eq_false_iff_ne.2 h1
  have e2 : (v.k == 2) = false := beq_eq_false_iff_ne.2 h2
  have e3 : (v.k == 3) = false := beq_eq_false_iff_ne.2 h3
  have e4 : (v.k == 4) = false := beq_eq_false_iff_ne.2 h4
  have HB := Lib.hid (below_vl w v)
  clear h1 h2 h3 h4
  go_enter Tryd.func16, Tryd.ntmps16
  go_wp2_with fail
  go_ret
  exact ⟨rfl, HB.out⟩
set_option maxRecDepth 100000 in
set_option maxHeartbeats 1600000 in
theorem rtext_e1 (s : ByteArray) (w : World) : Calls Tryd.prog 16 #[.agg #[.int .i64 4, .int .i64 1, .string s]] w fun e w' => e = .returned (.string ⟨#[35, 86, 65, 76, 85, 69, 33]⟩) ∧ Below w.heap.size w w' := by
  have hb1 := (Below.refl w.heap.size w).alloc (Nat.le_refl _) (.cells #[.int .i64 4, .int .i64 1, .string s] 23)
  have HB := Lib.hid (hb1.alloc hb1.size (.cells etA 9))
  clear hb1
  go_enter Tryd.func16, Tryd.ntmps16
  go_wp2_with fail
  go_ret
  exact ⟨rfl, HB.out⟩
set_option maxRecDepth 100000 in
set_option maxHeartbeats 1600000 in
theorem rtext_e2 (s : ByteArray) (w : World) : Calls Tryd.prog 16 #[.agg #[.int .i64 4, .int .i64 2, .string s]] w fun e w' => e = .returned (.string ⟨#[35, 78, 85, 77, 33]⟩) ∧ Below w.heap.size w w' := by
  have hb1 := (Below.refl w.heap.size w).alloc (Nat.le_refl _) (.cells #[.int .i64 4, .int .i64 2, .string s] 23)
  have HB := Lib.hid (hb1.alloc hb1.size (.cells etA 9))
  clear hb1
  go_enter Tryd.func16, Tryd.ntmps16
  go_wp2_with fail
  go_ret
  exact ⟨rfl, HB.out⟩
set_option maxRecDepth 100000 in
set_option maxHeartbeats 1600000 in
theorem rtext_e3 (s : ByteArray) (w : World) : Calls Tryd.prog 16 #[.agg #[.int .i64 4, .int .i64 3, .string s]] w fun e w' => e = .returned (.string ⟨#[35, 68, 73, 86, 48, 33]⟩) ∧ Below w.heap.size w w' := by
  have hb1 := (Below.refl w.heap.size w).alloc (Nat.le_refl _) (.cells #[.int .i64 4, .int .i64 3, .string s] 23)
  have HB := Lib.hid (hb1.alloc hb1.size (.cells etA 9))
  clear hb1
  go_enter Tryd.func16, Tryd.ntmps16
  go_wp2_with fail
  go_ret
  exact ⟨rfl, HB.out⟩
set_option maxRecDepth 100000 in
set_option maxHeartbeats 1600000 in
theorem rtext_e4 (s : ByteArray) (w : World) : Calls Tryd.prog 16 #[.agg #[.int .i64 4, .int .i64 4, .string s]] w fun e w' => e = .returned (.string ⟨#[35, 82, 69, 70, 33]⟩) ∧ Below w.heap.size w w' := by
  have hb1 := (Below.refl w.heap.size w).alloc (Nat.le_refl _) (.cells #[.int .i64 4, .int .i64 4, .string s] 23)
  have HB := Lib.hid (hb1.alloc hb1.size (.cells etA 9))
  clear hb1
  go_enter Tryd.func16, Tryd.ntmps16
  go_wp2_with fail
  go_ret
  exact ⟨rfl, HB.out⟩
set_option maxRecDepth 100000 in
set_option maxHeartbeats 1600000 in
theorem rtext_e5 (s : ByteArray) (w : World) : Calls Tryd.prog 16 #[.agg #[.int .i64 4, .int .i64 5, .string s]] w fun e w' => e = .returned (.string ⟨#[35, 78, 65, 77, 69, 33]⟩) ∧ Below w.heap.size w w' := by
  have hb1 := (Below.refl w.heap.size w).alloc (Nat.le_refl _) (.cells #[.int .i64 4, .int .i64 5, .string s] 23)
  have HB := Lib.hid (hb1.alloc hb1.size (.cells etA 9))
  clear hb1
  go_enter Tryd.func16, Tryd.ntmps16
  go_wp2_with fail
  go_ret
  exact ⟨rfl, HB.out⟩
set_option maxRecDepth 100000 in
set_option maxHeartbeats 1600000 in
theorem rtext_e6 (s : ByteArray) (w : World) : Calls Tryd.prog 16 #[.agg #[.int .i64 4, .int .i64 6, .string s]] w fun e w' => e = .returned (.string ⟨#[35, 67, 89, 67, 76, 69, 33]⟩) ∧ Below w.heap.size w w' := by
  have hb1 := (Below.refl w.heap.size w).alloc (Nat.le_refl _) (.cells #[.int .i64 4, .int .i64 6, .string s] 23)
  have HB := Lib.hid (hb1.alloc hb1.size (.cells etA 9))
  clear hb1
  go_enter Tryd.func16, Tryd.ntmps16
  go_wp2_with fail
  go_ret
  exact ⟨rfl, HB.out⟩
theorem rtext_any (v : Vl) (ha : VOk v) (hm : mayV v = true) (w : World) : Calls Tryd.prog 16 #[.agg #[.int .i64 v.k, .int .i64 v.n, .string v.s]] w fun e w' => e = .returned (.string (textV v)) ∧ Below w.heap.size w w' := by
  by_cases h1 : v.k = 1
  · rw [show textV v = strOfNums (decL v.n) from by unfold textV; rw [if_pos h1]]; exact rtext_1 v h1 ha w
  by_cases h2 : v.k = 2
  · rw [show textV v = v.s from by unfold textV; rw [if_neg h1, if_pos h2]]; exact rtext_2 v h1 h2 w
  by_cases h3 : v.k = 3
  · by_cases hn : v.n = 1
    · rw [show textV v = ⟨#[84, 82, 85, 69]⟩ from by unfold textV; rw [if_neg h1, if_neg h2, if_pos h3, if_pos hn]]; exact rtext_3 v h1 h2 h3 hn w
    · rw [show textV v = ⟨#[70, 65, 76, 83, 69]⟩ from by unfold textV; rw [if_neg h1, if_neg h2, if_pos h3, if_neg hn]]; exact rtext_4 v h1 h2 h3 hn w
  by_cases h4 : v.k = 4
  · obtain ⟨_, m1, m2⟩ := may_err hm h4
    have hn : v.n = 1 ∨ v.n = 2 ∨ v.n = 3 ∨ v.n = 4 ∨ v.n = 5 ∨ v.n = 6 := by omega
    have ht : textV v = errT v.n := by unfold textV; rw [if_neg h1, if_neg h2, if_neg h3, if_pos h4]
    rw [ht, h4]
    rcases hn with h | h | h | h | h | h <;> rw [h]
    · exact rtext_e1 v.s w
    · exact rtext_e2 v.s w
    · exact rtext_e3 v.s w
    · exact rtext_e4 v.s w
    · exact rtext_e5 v.s w
    · exact rtext_e6 v.s w
  · rw [show textV v = ⟨#[]⟩ from by unfold textV; rw [if_neg h1, if_neg h2, if_neg h3, if_neg h4]]; exact rtext_6 v h1 h2 h3 h4 w
theorem nil_list : (⟨#[]⟩ : ByteArray).toList = [] := by rw [list_bytes]
theorem text_nil {s : ByteArray} (h : s.toList = []) : s = ⟨#[]⟩ := by
  by_cases h0 : s.size = 0
  · exact sb_nil s h0
  · exact absurd h (text_ne0 s h0)
set_option maxRecDepth 100000 in
set_option maxHeartbeats 1600000 in
theorem rmay_0t (v : Vl)  (h0 : v.k = 0) (hn : v.n = 0) (hs : v.s = ⟨#[]⟩) (w : World) : Calls Tryd.prog 9 #[.agg #[.int .i64 v.k, .int .i64 v.n, .string v.s]] w fun e w' => e = .returned (.bool true) ∧ Below w.heap.size w w' := by
  have e0 : (v.k == 0) = true := beq_iff_eq.2 h0
  have en : (v.n == 0) = true := beq_iff_eq.2 hn
  clear hn
  have es3 : v.s.toList = [] := by rw [hs]; exact nil_list
  have es : (v.s.toList == []) = true := by rw [es3]; rfl
  have es2 : v.s.toList.isEmpty = true := by rw [es3]; rfl
  clear hs
  have HB := Lib.hid (below_vl w v)
  clear h0
  go_enter Tryd.func9, Tryd.ntmps9
  go_wp2_with fail
  all_goals go_ret
  all_goals exact ⟨rfl, HB.out⟩
set_option maxRecDepth 100000 in
set_option maxHeartbeats 1600000 in
theorem rmay_0n (v : Vl)  (h0 : v.k = 0) (hn : ¬ v.n = 0) (w : World) : Calls Tryd.prog 9 #[.agg #[.int .i64 v.k, .int .i64 v.n, .string v.s]] w fun e w' => e = .returned (.bool false) ∧ Below w.heap.size w w' := by
  have e0 : (v.k == 0) = true := beq_iff_eq.2 h0
  have en : (v.n == 0) = false := beq_eq_false_iff_ne.2 hn
  clear hn
  have HB := Lib.hid (below_vl w v)
  clear h0
  go_enter Tryd.func9, Tryd.ntmps9
  go_wp2_with fail
  all_goals go_ret
  all_goals exact ⟨rfl, HB.out⟩
set_option maxRecDepth 100000 in
set_option maxHeartbeats 1600000 in
theorem rmay_0s (v : Vl)  (h0 : v.k = 0) (hn : v.n = 0) (hs : ¬ v.s = ⟨#[]⟩) (w : World) : Calls Tryd.prog 9 #[.agg #[.int .i64 v.k, .int .i64 v.n, .string v.s]] w fun e w' => e = .returned (.bool false) ∧ Below w.heap.size w w' := by
  have e0 : (v.k == 0) = true := beq_iff_eq.2 h0
  have en : (v.n == 0) = true := beq_iff_eq.2 hn
  clear hn
  have es3 : ¬ v.s.toList = [] := fun e => hs (text_nil e)
  have es : (v.s.toList == []) = false := beq_eq_false_iff_ne.2 es3
  have es2 : v.s.toList.isEmpty = false := by cases h : v.s.toList with | nil => exact absurd h es3 | cons a b => rfl
  clear hs
  have HB := Lib.hid (below_vl w v)
  clear h0
  go_enter Tryd.func9, Tryd.ntmps9
  go_wp2_with fail
  all_goals go_ret
  all_goals exact ⟨rfl, HB.out⟩
set_option maxRecDepth 100000 in
set_option maxHeartbeats 1600000 in
theorem rmay_1t (v : Vl) (h0 : ¬ v.k = 0) (h1 : v.k = 1) (hs : v.s = ⟨#[]⟩) (w : World) : Calls Tryd.prog 9 #[.agg #[.int .i64 v.k, .int .i64 v.n, .string v.s]] w fun e w' => e = .returned (.bool true) ∧ Below w.heap.size w w' := by
  have e0 : (v.k == 0) = false := beq_eq_false_iff_ne.2 h0
  have e1 : (v.k == 1) = true := beq_iff_eq.2 h1
  have es3 : v.s.toList = [] := by rw [hs]; exact nil_list
  have es : (v.s.toList == []) = true := by rw [es3]; rfl
  have es2 : v.s.toList.isEmpty = true := by rw [es3]; rfl
  clear hs
  have HB := Lib.hid (below_vl w v)
  clear h0 h1
  go_enter Tryd.func9, Tryd.ntmps9
  go_wp2_with fail
  all_goals go_ret
  all_goals exact ⟨rfl, HB.out⟩
set_option maxRecDepth 100000 in
set_option maxHeartbeats 1600000 in
theorem rmay_1s (v : Vl) (h0 : ¬ v.k = 0) (h1 : v.k = 1) (hs : ¬ v.s = ⟨#[]⟩) (w : World) : Calls Tryd.prog 9 #[.agg #[.int .i64 v.k, .int .i64 v.n, .string v.s]] w fun e w' => e = .returned (.bool false) ∧ Below w.heap.size w w' := by
  have e0 : (v.k == 0) = false := beq_eq_false_iff_ne.2 h0
  have e1 : (v.k == 1) = true := beq_iff_eq.2 h1
  have es3 : ¬ v.s.toList = [] := fun e => hs (text_nil e)
  have es : (v.s.toList == []) = false := beq_eq_false_iff_ne.2 es3
  have es2 : v.s.toList.isEmpty = false := by cases h : v.s.toList with | nil => exact absurd h es3 | cons a b => rfl
  clear hs
  have HB := Lib.hid (below_vl w v)
  clear h0 h1
  go_enter Tryd.func9, Tryd.ntmps9
  go_wp2_with fail
  all_goals go_ret
  all_goals exact ⟨rfl, HB.out⟩
set_option maxRecDepth 100000 in
set_option maxHeartbeats 1600000 in
theorem rmay_2t (v : Vl) (h0 : ¬ v.k = 0) (h1 : ¬ v.k = 1) (h2 : v.k = 2) (hn : v.n = 0) (hl : v.s.size ≤ 200) (w : World) : Calls Tryd.prog 9 #[.agg #[.int .i64 v.k, .int .i64 v.n, .string v.s]] w fun e w' => e = .returned (.bool true) ∧ Below w.heap.size w w' := by
  have e0 : (v.k == 0) = false := beq_eq_false_iff_ne.2 h0
  have e1 : (v.k == 1) = false := beq_eq_false_iff_ne.2 h1
  have e2 : (v.k == 2) = true := beq_iff_eq.2 h2
  have en : (v.n == 0) = true := beq_iff_eq.2 hn
  clear hn
  have el : (v.s.size : Int) ≤ 200 := by omega
  clear hl
  have HB := Lib.hid (below_vl w v)
  clear h0 h1 h2
  go_enter Tryd.func9, Tryd.ntmps9
  go_wp2_with fail
  all_goals go_ret
  all_goals exact ⟨rfl, HB.out⟩
set_option maxRecDepth 100000 in
set_option maxHeartbeats 1600000 in
theorem rmay_2n (v : Vl) (h0 : ¬ v.k = 0) (h1 : ¬ v.k = 1) (h2 : v.k = 2) (hn : ¬ v.n = 0) (w : World) : Calls Tryd.prog 9 #[.agg #[.int .i64 v.k, .int .i64 v.n, .string v.s]] w fun e w' => e = .returned (.bool false) ∧ Below w.heap.size w w' := by
  have e0 : (v.k == 0) = false := beq_eq_false_iff_ne.2 h0
  have e1 : (v.k == 1) = false := beq_eq_false_iff_ne.2 h1
  have e2 : (v.k == 2) = true := beq_iff_eq.2 h2
  have en : (v.n == 0) = false := beq_eq_false_iff_ne.2 hn
  clear hn
  have HB := Lib.hid (below_vl w v)
  clear h0 h1 h2
  go_enter Tryd.func9, Tryd.ntmps9
  go_wp2_with fail
  all_goals go_ret
  all_goals exact ⟨rfl, HB.out⟩
set_option maxRecDepth 100000 in
set_option maxHeartbeats 1600000 in
theorem rmay_2l (v : Vl) (h0 : ¬ v.k = 0) (h1 : ¬ v.k = 1) (h2 : v.k = 2) (hn : v.n = 0) (hl : ¬ v.s.size ≤ 200) (w : World) : Calls Tryd.prog 9 #[.agg #[.int .i64 v.k, .int .i64 v.n, .string v.s]] w fun e w' => e = .returned (.bool false) ∧ Below w.heap.size w w' := by
  have e0 : (v.k == 0) = false := beq_eq_false_iff_ne.2 h0
  have e1 : (v.k == 1) = false := beq_eq_false_iff_ne.2 h1
  have e2 : (v.k == 2) = true := beq_iff_eq.2 h2
  have en : (v.n == 0) = true := beq_iff_eq.2 hn
  clear hn
  have el : ¬ (v.s.size : Int) ≤ 200 := by omega
  clear hl
  have HB := Lib.hid (below_vl w v)
  clear h0 h1 h2
  go_enter Tryd.func9, Tryd.ntmps9
  go_wp2_with fail
  all_goals go_ret
  all_goals exact ⟨rfl, HB.out⟩
set_option maxRecDepth 100000 in
set_option maxHeartbeats 1600000 in
theorem rmay_3a (v : Vl) (h0 : ¬ v.k = 0) (h1 : ¬ v.k = 1) (h2 : ¬ v.k = 2) (h3 : v.k = 3) (hs : v.s = ⟨#[]⟩) (hn : v.n = 0) (w : World) : Calls Tryd.prog 9 #[.agg #[.int .i64 v.k, .int .i64 v.n, .string v.s]] w fun e w' => e = .returned (.bool true) ∧ Below w.heap.size w w' := by
  have e0 : (v.k == 0) = false := beq_eq_false_iff_ne.2 h0
  have e1 : (v.k == 1) = false := beq_eq_false_iff_ne.2 h1
  have e2 : (v.k == 2) = false := beq_eq_false_iff_ne.2 h2
  have e3 : (v.k == 3) = true := beq_iff_eq.2 h3
  have es3 : v.s.toList = [] := by rw [hs]; exact nil_list
  have es : (v.s.toList == []) = true := by rw [es3]; rfl
  have es2 : v.s.toList.isEmpty = true := by rw [es3]; rfl
  clear hs
  have en : (v.n == 0) = true := beq_iff_eq.2 hn
  clear hn
  have HB := Lib.hid (below_vl w v)
  clear h0 h1 h2 h3
  go_enter Tryd.func9, Tryd.ntmps9
  go_wp2_with fail
  all_goals go_ret
  all_goals exact ⟨rfl, HB.out⟩
set_option maxRecDepth 100000 in
set_option maxHeartbeats 1600000 in
theorem rmay_3b (v : Vl) (h0 : ¬ v.k = 0) (h1 : ¬ v.k = 1) (h2 : ¬ v.k = 2) (h3 : v.k = 3) (hs : v.s = ⟨#[]⟩) (hn : v.n = 1) (w : World) : Calls Tryd.prog 9 #[.agg #[.int .i64 v.k, .int .i64 v.n, .string v.s]] w fun e w' => e = .returned (.bool true) ∧ Below w.heap.size w w' := by
  have e0 : (v.k == 0) = false := beq_eq_false_iff_ne.2 h0
  have e1 : (v.k == 1) = false := beq_eq_false_iff_ne.2 h1
  have e2 : (v.k == 2) = false := beq_eq_false_iff_ne.2 h2
  have e3 : (v.k == 3) = true := beq_iff_eq.2 h3
  have es3 : v.s.toList = [] := by rw [hs]; exact nil_list
  have es : (v.s.toList == []) = true := by rw [es3]; rfl
  have es2 : v.s.toList.isEmpty = true := by rw [es3]; rfl
  clear hs
  have en : (v.n == 0) = false := beq_eq_false_iff_ne.2 (by omega)
  have en1 : (v.n == 1) = true := beq_iff_eq.2 hn
  clear hn
  have HB := Lib.hid (below_vl w v)
  clear h0 h1 h2 h3
  go_enter Tryd.func9, Tryd.ntmps9
  go_wp2_with fail
  all_goals go_ret
  all_goals exact ⟨rfl, HB.out⟩
set_option maxRecDepth 100000 in
set_option maxHeartbeats 1600000 in
theorem rmay_3n (v : Vl) (h0 : ¬ v.k = 0) (h1 : ¬ v.k = 1) (h2 : ¬ v.k = 2) (h3 : v.k = 3) (hs : v.s = ⟨#[]⟩) (hn : ¬ v.n = 0) (hn1 : ¬ v.n = 1) (w : World) : Calls Tryd.prog 9 #[.agg #[.int .i64 v.k, .int .i64 v.n, .string v.s]] w fun e w' => e = .returned (.bool false) ∧ Below w.heap.size w w' := by
  have e0 : (v.k == 0) = false := beq_eq_false_iff_ne.2 h0
  have e1 : (v.k == 1) = false := beq_eq_false_iff_ne.2 h1
  have e2 : (v.k == 2) = false := beq_eq_false_iff_ne.2 h2
  have e3 : (v.k == 3) = true := beq_iff_eq.2 h3
  have es3 : v.s.toList = [] := by rw [hs]; exact nil_list
  have es : (v.s.toList == []) = true := by rw [es3]; rfl
  have es2 : v.s.toList.isEmpty = true := by rw [es3]; rfl
  clear hs
  have en : (v.n == 0) = false := beq_eq_false_iff_ne.2 hn
  have en1 : (v.n == 1) = false := beq_eq_false_iff_ne.2 hn1
  clear hn hn1
  have HB := Lib.hid (below_vl w v)
  clear h0 h1 h2 h3
  go_enter Tryd.func9, Tryd.ntmps9
  go_wp2_with fail
  all_goals go_ret
  all_goals exact ⟨rfl, HB.out⟩
set_option maxRecDepth 100000 in
set_option maxHeartbeats 1600000 in
theorem rmay_3s (v : Vl) (h0 : ¬ v.k = 0) (h1 : ¬ v.k = 1) (h2 : ¬ v.k = 2) (h3 : v.k = 3) (hs : ¬ v.s = ⟨#[]⟩) (w : World) : Calls Tryd.prog 9 #[.agg #[.int .i64 v.k, .int .i64 v.n, .string v.s]] w fun e w' => e = .returned (.bool false) ∧ Below w.heap.size w w' := by
  have e0 : (v.k == 0) = false := beq_eq_false_iff_ne.2 h0
  have e1 : (v.k == 1) = false := beq_eq_false_iff_ne.2 h1
  have e2 : (v.k == 2) = false := beq_eq_false_iff_ne.2 h2
  have e3 : (v.k == 3) = true := beq_iff_eq.2 h3
  have es3 : ¬ v.s.toList = [] := fun e => hs (text_nil e)
  have es : (v.s.toList == []) = false := beq_eq_false_iff_ne.2 es3
  have es2 : v.s.toList.isEmpty = false := by cases h : v.s.toList with | nil => exact absurd h es3 | cons a b => rfl
  clear hs
  have HB := Lib.hid (below_vl w v)
  clear h0 h1 h2 h3
  go_enter Tryd.func9, Tryd.ntmps9
  go_wp2_with fail
  all_goals go_ret
  all_goals exact ⟨rfl, HB.out⟩
set_option maxRecDepth 100000 in
set_option maxHeartbeats 1600000 in
theorem rmay_4t (v : Vl) (h0 : ¬ v.k = 0) (h1 : ¬ v.k = 1) (h2 : ¬ v.k = 2) (h3 : ¬ v.k = 3) (h4 : v.k = 4) (hs : v.s = ⟨#[]⟩) (hn : 1 ≤ v.n) (hn6 : v.n ≤ 6) (w : World) : Calls Tryd.prog 9 #[.agg #[.int .i64 v.k, .int .i64 v.n, .string v.s]] w fun e w' => e = .returned (.bool true) ∧ Below w.heap.size w w' := by
  have e0 : (v.k == 0) = false := beq_eq_false_iff_ne.2 h0
  have e1 : (v.k == 1) = false := beq_eq_false_iff_ne.2 h1
  have e2 : (v.k == 2) = false := beq_eq_false_iff_ne.2 h2
  have e3 : (v.k == 3) = false := beq_eq_false_iff_ne.2 h3
  have e4 : (v.k == 4) = true := beq_iff_eq.2 h4
  have es3 : v.s.toList = [] := by rw [hs]; exact nil_list
  have es : (v.s.toList == []) = true := by rw [es3]; rfl
  have es2 : v.s.toList.isEmpty = true := by rw [es3]; rfl
  clear hs
  have HB := Lib.hid (below_vl w v)
  clear h0 h1 h2 h3 h4
  go_enter Tryd.func9, Tryd.ntmps9
  go_wp2_with fail
  all_goals go_ret
  all_goals exact ⟨rfl, HB.out⟩
set_option maxRecDepth 100000 in
set_option maxHeartbeats 1600000 in
theorem rmay_4a (v : Vl) (h0 : ¬ v.k = 0) (h1 : ¬ v.k = 1) (h2 : ¬ v.k = 2) (h3 : ¬ v.k = 3) (h4 : v.k = 4) (hs : v.s = ⟨#[]⟩) (hn : ¬ 1 ≤ v.n) (w : World) : Calls Tryd.prog 9 #[.agg #[.int .i64 v.k, .int .i64 v.n, .string v.s]] w fun e w' => e = .returned (.bool false) ∧ Below w.heap.size w w' := by
  have e0 : (v.k == 0) = false := beq_eq_false_iff_ne.2 h0
  have e1 : (v.k == 1) = false := beq_eq_false_iff_ne.2 h1
  have e2 : (v.k == 2) = false := beq_eq_false_iff_ne.2 h2
  have e3 : (v.k == 3) = false := beq_eq_false_iff_ne.2 h3
  have e4 : (v.k == 4) = true := beq_iff_eq.2 h4
  have es3 : v.s.toList = [] := by rw [hs]; exact nil_list
  have es : (v.s.toList == []) = true := by rw [es3]; rfl
  have es2 : v.s.toList.isEmpty = true := by rw [es3]; rfl
  clear hs
  have HB := Lib.hid (below_vl w v)
  clear h0 h1 h2 h3 h4
  go_enter Tryd.func9, Tryd.ntmps9
  go_wp2_with fail
  all_goals go_ret
  all_goals exact ⟨rfl, HB.out⟩
set_option maxRecDepth 100000 in
set_option maxHeartbeats 1600000 in
theorem rmay_4b (v : Vl) (h0 : ¬ v.k = 0) (h1 : ¬ v.k = 1) (h2 : ¬ v.k = 2) (h3 : ¬ v.k = 3) (h4 : v.k = 4) (hs : v.s = ⟨#[]⟩) (hn : 1 ≤ v.n) (hn6 : ¬ v.n ≤ 6) (w : World) : Calls Tryd.prog 9 #[.agg #[.int .i64 v.k, .int .i64 v.n, .string v.s]] w fun e w' => e = .returned (.bool false) ∧ Below w.heap.size w w' := by
  have e0 : (v.k == 0) = false := beq_eq_false_iff_ne.2 h0
  have e1 : (v.k == 1) = false := beq_eq_false_iff_ne.2 h1
  have e2 : (v.k == 2) = false := beq_eq_false_iff_ne.2 h2
  have e3 : (v.k == 3) = false := beq_eq_false_iff_ne.2 h3
  have e4 : (v.k == 4) = true := beq_iff_eq.2 h4
  have es3 : v.s.toList = [] := by rw [hs]; exact nil_list
  have es : (v.s.toList == []) = true := by rw [es3]; rfl
  have es2 : v.s.toList.isEmpty = true := by rw [es3]; rfl
  clear hs
  have HB := Lib.hid (below_vl w v)
  clear h0 h1 h2 h3 h4
  go_enter Tryd.func9, Tryd.ntmps9
  go_wp2_with fail
  all_goals go_ret
  all_goals exact ⟨rfl, HB.out⟩
set_option maxRecDepth 100000 in
set_option maxHeartbeats 1600000 in
theorem rmay_4s (v : Vl) (h0 : ¬ v.k = 0) (h1 : ¬ v.k = 1) (h2 : ¬ v.k = 2) (h3 : ¬ v.k = 3) (h4 : v.k = 4) (hs : ¬ v.s = ⟨#[]⟩) (w : World) : Calls Tryd.prog 9 #[.agg #[.int .i64 v.k, .int .i64 v.n, .string v.s]] w fun e w' => e = .returned (.bool false) ∧ Below w.heap.size w w' := by
  have e0 : (v.k == 0) = false := beq_eq_false_iff_ne.2 h0
  have e1 : (v.k == 1) = false := beq_eq_false_iff_ne.2 h1
  have e2 : (v.k == 2) = false := beq_eq_false_iff_ne.2 h2
  have e3 : (v.k == 3) = false := beq_eq_false_iff_ne.2 h3
  have e4 : (v.k == 4) = true := beq_iff_eq.2 h4
  have es3 : ¬ v.s.toList = [] := fun e => hs (text_nil e)
  have es : (v.s.toList == []) = false := beq_eq_false_iff_ne.2 es3
  have es2 : v.s.toList.isEmpty = false := by cases h : v.s.toList with | nil => exact absurd h es3 | cons a b => rfl
  clear hs
  have HB := Lib.hid (below_vl w v)
  clear h0 h1 h2 h3 h4
  go_enter Tryd.func9, Tryd.ntmps9
  go_wp2_with fail
  all_goals go_ret
  all_goals exact ⟨rfl, HB.out⟩
set_option maxRecDepth 100000 in
set_option maxHeartbeats 1600000 in
theorem rmay_x (v : Vl) (h0 : ¬ v.k = 0) (h1 : ¬ v.k = 1) (h2 : ¬ v.k = 2) (h3 : ¬ v.k = 3) (h4 : ¬ v.k = 4) (w : World) : Calls Tryd.prog 9 #[.agg #[.int .i64 v.k, .int .i64 v.n, .string v.s]] w fun e w' => e = .returned (.bool false) ∧ Below w.heap.size w w' := by
  have e0 : (v.k == 0) = false := beq_eq_false_iff_ne.2 h0
  have e1 : (v.k == 1) = false := beq_eq_false_iff_ne.2 h1
  have e2 : (v.k == 2) = false := beq_eq_false_iff_ne.2 h2
  have e3 : (v.k == 3) = false := beq_eq_false_iff_ne.2 h3
  have e4 : (v.k == 4) = false := beq_eq_false_iff_ne.2 h4
  have HB := Lib.hid (below_vl w v)
  clear h0 h1 h2 h3 h4
  go_enter Tryd.func9, Tryd.ntmps9
  go_wp2_with fail
  all_goals go_ret
  all_goals exact ⟨rfl, HB.out⟩
theorem rmay_any (v : Vl) (w : World) : Calls Tryd.prog 9 #[.agg #[.int .i64 v.k, .int .i64 v.n, .string v.s]] w fun e w' => e = .returned (.bool (mayV v)) ∧ Below w.heap.size w w' := by
  unfold mayV
  by_cases h0 : v.k = 0
  · rw [if_pos h0]
    by_cases hn : v.n = 0
    · by_cases hs : v.s = ⟨#[]⟩
      · rw [decide_eq_true ⟨hn, hs⟩]; exact rmay_0t v h0 hn hs w
      · rw [decide_eq_false (fun h => hs h.2)]; exact rmay_0s v h0 hn hs w
    · rw [decide_eq_false (fun h => hn h.1)]; exact rmay_0n v h0 hn w
  rw [if_neg h0]
  by_cases h1 : v.k = 1
  · rw [if_pos h1]
    by_cases hs : v.s = ⟨#[]⟩
    · rw [decide_eq_true hs]; exact rmay_1t v h0 h1 hs w
    · rw [decide_eq_false hs]; exact rmay_1s v h0 h1 hs w
  rw [if_neg h1]
  by_cases h2 : v.k = 2
  · rw [if_pos h2]
    by_cases hn : v.n = 0
    · by_cases hl : v.s.size ≤ 200
      · rw [decide_eq_true ⟨hn, hl⟩]; exact rmay_2t v h0 h1 h2 hn hl w
      · rw [decide_eq_false (fun h => hl h.2)]; exact rmay_2l v h0 h1 h2 hn hl w
    · rw [decide_eq_false (fun h => hn h.1)]; exact rmay_2n v h0 h1 h2 hn w
  rw [if_neg h2]
  by_cases h3 : v.k = 3
  · rw [if_pos h3]
    by_cases hs : v.s = ⟨#[]⟩
    · by_cases hn : v.n = 0
      · rw [decide_eq_true ⟨hs, .inl hn⟩]; exact rmay_3a v h0 h1 h2 h3 hs hn w
      · by_cases hn1 : v.n = 1
        · rw [decide_eq_true ⟨hs, .inr hn1⟩]; exact rmay_3b v h0 h1 h2 h3 hs hn1 w
        · rw [decide_eq_false (fun h => h.2.elim hn hn1)]; exact rmay_3n v h0 h1 h2 h3 hs hn hn1 w
    · rw [decide_eq_false (fun h => hs h.1)]; exact rmay_3s v h0 h1 h2 h3 hs w
  rw [if_neg h3]
  by_cases h4 : v.k = 4
  · rw [if_pos h4]
    by_cases hs : v.s = ⟨#[]⟩
    · by_cases hn : 1 ≤ v.n
      · by_cases hn6 : v.n ≤ 6
        · rw [decide_eq_true ⟨hs, hn, hn6⟩]; exact rmay_4t v h0 h1 h2 h3 h4 hs hn hn6 w
        · rw [decide_eq_false (fun h => hn6 h.2.2)]; exact rmay_4b v h0 h1 h2 h3 h4 hs hn hn6 w
      · rw [decide_eq_false (fun h => hn h.2.1)]; exact rmay_4a v h0 h1 h2 h3 h4 hs hn w
    · rw [decide_eq_false (fun h => hs h.1)]; exact rmay_4s v h0 h1 h2 h3 h4 hs w
  rw [if_neg h4]
  exact rmay_x v h0 h1 h2 h3 h4 w
end Go.Proofs.YtgnandbokgfeiaaDoor
