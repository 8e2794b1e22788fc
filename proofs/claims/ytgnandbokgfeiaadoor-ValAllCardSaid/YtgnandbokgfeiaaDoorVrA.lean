/-
  Layer 7, the reference: small functions.
-/
import Derived.Test.YtgnandbokgfeiaaDoorVaT
import Derived.Test.YtgnandbokgfeiaaDoorDigA
namespace Go.Proofs.YtgnandbokgfeiaaDoor
open Go.RowKit

theorem res_rno : Tryd.f28.results = #[.cell 2 23] := by kernel_rfl
theorem res_rnum : Tryd.f29.results = #[.cell 2 23] := by kernel_rfl
theorem res_rtruth : Tryd.f33.results = #[.cell 2 23] := by kernel_rfl
theorem res_ras : Tryd.f49.results = #[.cell 4 23] := by kernel_rfl
set_option maxRecDepth 100000 in
set_option maxHeartbeats 1600000 in
theorem rno_any (n : Int) (w : World) : Calls Tryd.prog 28 #[.int .i64 n] w fun e w' => e = .returned (.agg #[.int .i64 (Vl.err n).k, .int .i64 (Vl.err n).n, .string (Vl.err n).s]) ∧ Below w.heap.size w w' := by
  have HN := Lib.hid (VlAt.new w (Vl.err n))
  have HB := Lib.hid (below_vl w (Vl.err n))
  go_enter Tryd.func28, Tryd.ntmps28
  go_wp2_with fail
  exact bodyPost_ret (out_vl HN.out _ _ 2 res_rno rfl) rfl ⟨rfl, HB.out⟩
set_option maxRecDepth 100000 in
set_option maxHeartbeats 1600000 in
theorem rnum_any (n : Int) (w : World) : Calls Tryd.prog 29 #[.int .i64 n] w fun e w' => e = .returned (.agg #[.int .i64 (Vl.num n).k, .int .i64 (Vl.num n).n, .string (Vl.num n).s]) ∧ Below w.heap.size w w' := by
  have HN := Lib.hid (VlAt.new w (Vl.num n))
  have HB := Lib.hid (below_vl w (Vl.num n))
  go_enter Tryd.func29, Tryd.ntmps29
  go_wp2_with fail
  exact bodyPost_ret (out_vl HN.out _ _ 2 res_rnum rfl) rfl ⟨rfl, HB.out⟩
set_option maxRecDepth 100000 in
set_option maxHeartbeats 1600000 in
theorem rtruth_false (w : World) : Calls Tryd.prog 33 #[.bool false] w fun e w' => e = .returned (.agg #[.int .i64 (Vl.truth false).k, .int .i64 (Vl.truth false).n, .string (Vl.truth false).s]) ∧ Below w.heap.size w w' := by
  have HN := Lib.hid (VlAt.new w (Vl.truth false))
  have HB := Lib.hid (below_vl w (Vl.truth false))
  go_enter Tryd.func33, Tryd.ntmps33
  go_wp2_with fail
  exact bodyPost_ret (out_vl HN.out _ _ 2 res_rtruth rfl) rfl ⟨rfl, HB.out⟩
set_option maxRecDepth 100000 in
set_option maxHeartbeats 1600000 in
theorem rtruth_true (w : World) : Calls Tryd.prog 33 #[.bool true] w fun e w' => e = .returned (.agg #[.int .i64 (Vl.truth true).k, .int .i64 (Vl.truth true).n, .string (Vl.truth true).s]) ∧ Below w.heap.size w w' := by
  have HN := Lib.hid (VlAt.new w (Vl.truth true))
  have HB := Lib.hid (below_vl w (Vl.truth true))
  go_enter Tryd.func33, Tryd.ntmps33
  go_wp2_with fail
  exact bodyPost_ret (out_vl HN.out _ _ 2 res_rtruth rfl) rfl ⟨rfl, HB.out⟩
theorem rtruth_any (b : Bool) (w : World) : Calls Tryd.prog 33 #[.bool b] w fun e w' => e = .returned (.agg #[.int .i64 (Vl.truth b).k, .int .i64 (Vl.truth b).n, .string (Vl.truth b).s]) ∧ Below w.heap.size w w' := by
  cases b with
  | false => exact rtruth_false w
  | true => exact rtruth_true w
theorem may_none {v : Vl} (h : mayV v = true) (hk : v.k = 0) : v.n = 0 ∧ v.s = ⟨#[]⟩ := by
  unfold mayV at h; rw [if_pos hk] at h; exact of_decide_eq_true h
theorem may_int {v : Vl} (h : mayV v = true) (hk : v.k = 1) : v.s = ⟨#[]⟩ := by
  unfold mayV at h; rw [if_neg (by omega), if_pos hk] at h; exact of_decide_eq_true h
theorem may_text {v : Vl} (h : mayV v = true) (hk : v.k = 2) : v.n = 0 ∧ v.s.size ≤ 200 := by
  unfold mayV at h; rw [if_neg (by omega), if_neg (by omega), if_pos hk] at h; exact of_decide_eq_true h
theorem may_truth {v : Vl} (h : mayV v = true) (hk : v.k = 3) : v.s = ⟨#[]⟩ ∧ (v.n = 0 ∨ v.n = 1) := by
  unfold mayV at h; rw [if_neg (by omega), if_neg (by omega), if_neg (by omega), if_pos hk] at h; exact of_decide_eq_true h
theorem may_err {v : Vl} (h : mayV v = true) (hk : v.k = 4) : v.s = ⟨#[]⟩ ∧ 1 ≤ v.n ∧ v.n ≤ 6 := by
  unfold mayV at h; rw [if_neg (by omega), if_neg (by omega), if_neg (by omega), if_neg (by omega), if_pos hk] at h; exact of_decide_eq_true h
theorem may_kind {v : Vl} (h : mayV v = true) : v.k = 0 ∨ v.k = 1 ∨ v.k = 2 ∨ v.k = 3 ∨ v.k = 4 := by
  unfold mayV at h
  by_cases h0 : v.k = 0; · exact .inl h0
  by_cases h1 : v.k = 1; · exact .inr (.inl h1)
  by_cases h2 : v.k = 2; · exact .inr (.inr (.inl h2))
  by_cases h3 : v.k = 3; · exact .inr (.inr (.inr (.inl h3)))
  by_cases h4 : v.k = 4; · exact .inr (.inr (.inr (.inr h4)))
  rw [if_neg h0, if_neg h1, if_neg h2, if_neg h3, if_neg h4] at h; cases h
set_option maxRecDepth 100000 in
set_option maxHeartbeats 1600000 in
theorem rint_1 (v : Vl) (h1 : v.k = 1) (w : World) : Calls Tryd.prog 14 #[.agg #[.int .i64 v.k, .int .i64 v.n, .string v.s]] w fun e w' => e = .returned (.tuple #[.int .i64 v.n, .bool true]) ∧ Below w.heap.size w w' := by
  have HB := Lib.hid (below_vl w v)
  have e1 : (v.k == 1) = true := beq_iff_eq.2 h1
  skip
  clear h1 
  go_enter Tryd.func14, Tryd.ntmps14
  go_wp2_with fail
  all_goals go_ret2
  all_goals exact ⟨by rfl, HB.out⟩
set_option maxRecDepth 100000 in
set_option maxHeartbeats 1600000 in
theorem rint_0 (v : Vl) (h1 : v.k = 0) (hn : v.n = 0) (w : World) : Calls Tryd.prog 14 #[.agg #[.int .i64 v.k, .int .i64 v.n, .string v.s]] w fun e w' => e = .returned (.tuple #[.int .i64 0, .bool true]) ∧ Below w.heap.size w w' := by
  have HB := Lib.hid (below_vl w v)
  have e1 : (v.k == 1) = false := beq_eq_false_iff_ne.2 (by omega)
  have e0 : (v.k == 0) = true := beq_iff_eq.2 h1
  have HH := Lib.hid hn; clear hn
  clear h1 
  go_enter Tryd.func14, Tryd.ntmps14
  go_wp2_with fail
  all_goals go_ret2
  all_goals exact ⟨by rw [← HH.out]; rfl, HB.out⟩
set_option maxRecDepth 100000 in
set_option maxHeartbeats 1600000 in
theorem rint_x (v : Vl) (h1 : ¬ v.k = 1) (h0 : ¬ v.k = 0) (w : World) : Calls Tryd.prog 14 #[.agg #[.int .i64 v.k, .int .i64 v.n, .string v.s]] w fun e w' => e = .returned (.tuple #[.int .i64 0, .bool false]) ∧ Below w.heap.size w w' := by
  have HB := Lib.hid (below_vl w v)
  have e1 : (v.k == 1) = false := beq_eq_false_iff_ne.2 h1
  have e0 : (v.k == 0) = false := beq_eq_false_iff_ne.2 h0
  skip
  clear h1 h0
  go_enter Tryd.func14, Tryd.ntmps14
  go_wp2_with fail
  all_goals go_ret2
  all_goals exact ⟨by rfl, HB.out⟩
theorem rint_any (v : Vl) (hm : mayV v = true) (w : World) : Calls Tryd.prog 14 #[.agg #[.int .i64 v.k, .int .i64 v.n, .string v.s]] w fun e w' => e = .returned (.tuple #[.int .i64 (intV v), .bool (isInt v)]) ∧ Below w.heap.size w w' := by
  unfold intV isInt
  by_cases h1 : v.k = 1
  · rw [if_pos h1, decide_eq_true (.inr h1)]; exact rint_1 v h1 w
  · rw [if_neg h1]
    by_cases h0 : v.k = 0
    · rw [decide_eq_true (.inl h0)]; exact rint_0 v h0 (may_none hm h0).1 w
    · rw [decide_eq_false (fun h => h.elim h0 h1)]; exact rint_x v h1 h0 w
set_option maxRecDepth 100000 in
set_option maxHeartbeats 1600000 in
theorem rtru_1 (v : Vl) (h1 : v.k = 1) (w : World) : Calls Tryd.prog 12 #[.agg #[.int .i64 v.k, .int .i64 v.n, .string v.s]] w fun e w' => e = .returned (.tuple #[.bool (v.n != 0), .bool true]) ∧ Below w.heap.size w w' := by
  have HB := Lib.hid (below_vl w v)
  have e1 : (v.k == 1) = true := beq_iff_eq.2 h1
  clear h1 
  go_enter Tryd.func12, Tryd.ntmps12
  go_wp2_with fail
  all_goals go_ret2
  all_goals exact ⟨by rfl, HB.out⟩
set_option maxRecDepth 100000 in
set_option maxHeartbeats 1600000 in
theorem rtru_3 (v : Vl) (h1 : v.k = 3) (w : World) : Calls Tryd.prog 12 #[.agg #[.int .i64 v.k, .int .i64 v.n, .string v.s]] w fun e w' => e = .returned (.tuple #[.bool (v.n != 0), .bool true]) ∧ Below w.heap.size w w' := by
  have HB := Lib.hid (below_vl w v)
  have e1 : (v.k == 1) = false := beq_eq_false_iff_ne.2 (by omega)
  have e3 : (v.k == 3) = true := beq_iff_eq.2 h1
  clear h1 
  go_enter Tryd.func12, Tryd.ntmps12
  go_wp2_with fail
  all_goals go_ret2
  all_goals exact ⟨by rfl, HB.out⟩
set_option maxRecDepth 100000 in
set_option maxHeartbeats 1600000 in
theorem rtru_0 (v : Vl) (h1 : v.k = 0) (w : World) : Calls Tryd.prog 12 #[.agg #[.int .i64 v.k, .int .i64 v.n, .string v.s]] w fun e w' => e = .returned (.tuple #[.bool (v.n != 0), .bool true]) ∧ Below w.heap.size w w' := by
  have HB := Lib.hid (below_vl w v)
  have e1 : (v.k == 1) = false := beq_eq_false_iff_ne.2 (by omega)
  have e3 : (v.k == 3) = false := beq_eq_false_iff_ne.2 (by omega)
  have e0 : (v.k == 0) = true := beq_iff_eq.2 h1
  clear h1 
  go_enter Tryd.func12, Tryd.ntmps12
  go_wp2_with fail
  all_goals go_ret2
  all_goals exact ⟨by rfl, HB.out⟩
set_option maxRecDepth 100000 in
set_option maxHeartbeats 1600000 in
theorem rtru_x (v : Vl) (h1 : ¬ v.k = 1) (h3 : ¬ v.k = 3) (h0 : ¬ v.k = 0) (w : World) : Calls Tryd.prog 12 #[.agg #[.int .i64 v.k, .int .i64 v.n, .string v.s]] w fun e w' => e = .returned (.tuple #[.bool false, .bool false]) ∧ Below w.heap.size w w' := by
  have HB := Lib.hid (below_vl w v)
  have e1 : (v.k == 1) = false := beq_eq_false_iff_ne.2 h1
  have e3 : (v.k == 3) = false := beq_eq_false_iff_ne.2 h3
  have e0 : (v.k == 0) = false := beq_eq_false_iff_ne.2 h0
  clear h1 h0 h3
  go_enter Tryd.func12, Tryd.ntmps12
  go_wp2_with fail
  all_goals go_ret2
  all_goals exact ⟨by rfl, HB.out⟩
theorem rtru_any (v : Vl) (hm : mayV v = true) (w : World) : Calls Tryd.prog 12 #[.agg #[.int .i64 v.k, .int .i64 v.n, .string v.s]] w fun e w' => e = .returned (.tuple #[.bool (truthV v), .bool (isTruth v)]) ∧ Below w.heap.size w w' := by
  by_cases h1 : v.k = 1
  · rw [show truthV v = (v.n != 0) from by unfold truthV; rw [if_pos h1, dec_bne], show isTruth v = true from decide_eq_true (.inr (.inl h1))]; exact rtru_1 v h1 w
  · by_cases h3 : v.k = 3
    · rw [show truthV v = (v.n != 0) from by
        unfold truthV; rw [if_neg h1, if_pos h3, ← dec_bne, decide_eq_decide]
        have := (may_truth hm h3).2; omega, show isTruth v = true from decide_eq_true (.inr (.inr h3))]; exact rtru_3 v h3 w
    · by_cases h0 : v.k = 0
      · rw [show truthV v = (v.n != 0) from by
          unfold truthV; rw [if_neg h1, if_neg h3, (may_none hm h0).1]; rfl, show isTruth v = true from decide_eq_true (.inl h0)]; exact rtru_0 v h0 w
      · rw [show truthV v = false from by unfold truthV; rw [if_neg h1, if_neg h3], show isTruth v = false from decide_eq_false (by rintro (h | h | h); exact h0 h; exact h1 h; exact h3 h)]; exact rtru_x v h1 h3 h0 w
set_option maxRecDepth 100000 in
set_option maxHeartbeats 1600000 in
theorem ras_some (a b : Vl) (h : ¬ a.k = 0) (w : World) : Calls Tryd.prog 49 #[.agg #[.int .i64 a.k, .int .i64 a.n, .string a.s], .agg #[.int .i64 b.k, .int .i64 b.n, .string b.s]] w fun e w' => e = .returned (.agg #[.int .i64 (asV a b).k, .int .i64 (asV a b).n, .string (asV a b).s]) ∧ Below w.heap.size w w' := by
  have hv : asV a b = a := by unfold asV; rw [if_neg h]
  have e0 : (a.k == 0) = false := beq_eq_false_iff_ne.2 h
  rw [hv]
  clear hv h
  obtain ⟨k1, k2, k3, k4⟩ := vl_open2 w a b
  have HA := Lib.hid k1; have HO := Lib.hid k2; have HZ := Lib.hid k3; have HB := Lib.hid k4
  clear k1 k2 k3 k4
  go_enter Tryd.func49, Tryd.ntmps49
  go_upto_region 1 with (fail)
  generalize hz : w.heap.size = q at HA HO HZ ⊢
  generalize (((w.alloc (.cells #[.int .i64 a.k, .int .i64 a.n, .string a.s] 23)).alloc (.cells #[.int .i64 b.k, .int .i64 b.n, .string b.s] 23)).alloc (.cells #[.int .i64 0, .int .i64 0, .string ⟨#[]⟩] 23)) = w1 at HA HO HZ HB ⊢
  have HLE := Lib.hid (show w.heap.size ≤ q + 2 by omega)
  obtain ⟨a0, a1, a2⟩ := HA.out.cells
  obtain ⟨o0, o1, o2⟩ := HO.out.cells
  obtain ⟨m0, m1, m2⟩ := HZ.out.melts
  obtain ⟨u0, u1, u2⟩ := HZ.out.cells
  clear hz
  go_wp2_with fail
  exact bodyPost_ret (out_vl (HZ.out.put3 a) _ _ 4 res_ras rfl) rfl ⟨rfl, belowV3 HB.out HLE.out a⟩
theorem VlAt.put0 {w : World} {b : Nat} {v : Vl} (h : VlAt w b v) (k : Int) : VlAt (w.setCell ⟨b, 0, none⟩ (.int .i64 k)) b ⟨k, v.n, v.s⟩ := by
  unfold VlAt; rw [heap_setCell_same w b 0 _ _ _ h]; rfl
theorem VlAt.side {w : World} {b z j : Nat} {v : Vl} (h : VlAt w b v) (hz : z ≠ b) (x : Value) : VlAt (w.setCell ⟨z, j, none⟩ x) b v := by
  unfold VlAt; rw [Below.heap_setCell w ⟨z, j, none⟩ x b (fun e => hz e.symm)]; exact h
set_option maxRecDepth 100000 in
set_option maxHeartbeats 1600000 in
theorem ras_none (a b : Vl) (h : a.k = 0) (hm : mayV a = true) (w : World) : Calls Tryd.prog 49 #[.agg #[.int .i64 a.k, .int .i64 a.n, .string a.s], .agg #[.int .i64 b.k, .int .i64 b.n, .string b.s]] w fun e w' => e = .returned (.agg #[.int .i64 (asV a b).k, .int .i64 (asV a b).n, .string (asV a b).s]) ∧ Below w.heap.size w w' := by
  have hv : asV a b = ⟨b.k, a.n, a.s⟩ := by unfold asV; rw [if_pos h, (may_none hm h).1, (may_none hm h).2]
  have e0 : (a.k == 0) = true := beq_iff_eq.2 h
  rw [hv]
  clear hv h hm
  obtain ⟨k1, k2, k3, k4⟩ := vl_open2 w a b
  have HA := Lib.hid k1; have HO := Lib.hid k2; have HZ := Lib.hid k3; have HB := Lib.hid k4
  clear k1 k2 k3 k4
  go_enter Tryd.func49, Tryd.ntmps49
  go_upto_region 1 with (fail)
  generalize hz : w.heap.size = q at HA HO HZ ⊢
  generalize (((w.alloc (.cells #[.int .i64 a.k, .int .i64 a.n, .string a.s] 23)).alloc (.cells #[.int .i64 b.k, .int .i64 b.n, .string b.s] 23)).alloc (.cells #[.int .i64 0, .int .i64 0, .string ⟨#[]⟩] 23)) = w1 at HA HO HZ HB ⊢
  have HLQ := Lib.hid (show w.heap.size ≤ q by omega)
  have HLE := Lib.hid (show w.heap.size ≤ q + 2 by omega)
  obtain ⟨a0, a1, a2⟩ := HA.out.cells
  obtain ⟨o0, o1, o2⟩ := HO.out.cells
  obtain ⟨m0, m1, m2⟩ := HZ.out.melts
  obtain ⟨u0, u1, u2⟩ := HZ.out.cells
  clear hz
  have fa := HA.out.melts.1
  have n1 : q ≠ q + 1 + 1 := by omega
  go_upto_region 3 with (fail)
  have HA2 := Lib.hid (HA.out.put0 b.k)
  have HZ2 := Lib.hid (HZ.out.side (z := q) (j := 0) (by omega) (.int .i64 b.k))
  have HB2 := Lib.hid (HB.out.setCell (p := ⟨q, 0, none⟩) HLQ.out (.int .i64 b.k))
  obtain ⟨w2, hw2⟩ : ∃ w2, w1.setCell ⟨q, 0, none⟩ (.int .i64 b.k) = w2 := ⟨_, rfl⟩
  rw [hw2] at HA2 HZ2 HB2 ⊢
  clear hw2 a0 a1 a2 o0 o1 o2 m0 m1 m2 u0 u1 u2 fa
  obtain ⟨a0, a1, a2⟩ : w2.cell? ⟨q, 0, none⟩ = some (.int .i64 b.k) ∧ w2.cell? ⟨q, 1, none⟩ = some (.int .i64 a.n) ∧ w2.cell? ⟨q, 2, none⟩ = some (.string a.s) := HA2.out.cells
  obtain ⟨m0, m1, m2⟩ := HZ2.out.melts
  obtain ⟨u0, u1, u2⟩ := HZ2.out.cells
  go_wp2_with fail
  exact bodyPost_ret (out_vl (HZ2.out.put3 ⟨b.k, a.n, a.s⟩) _ _ 4 res_ras rfl) rfl ⟨rfl, belowV3 HB2.out HLE.out ⟨b.k, a.n, a.s⟩⟩
theorem ras_any (a b : Vl) (hm : mayV a = true) (w : World) : Calls Tryd.prog 49 #[.agg #[.int .i64 a.k, .int .i64 a.n, .string a.s], .agg #[.int .i64 b.k, .int .i64 b.n, .string b.s]] w fun e w' => e = .returned (.agg #[.int .i64 (asV a b).k, .int .i64 (asV a b).n, .string (asV a b).s]) ∧ Below w.heap.size w w' := by
  by_cases h : a.k = 0
  · exact ras_none a b h hm w
  · exact ras_some a b h w
end Go.Proofs.YtgnandbokgfeiaaDoor
