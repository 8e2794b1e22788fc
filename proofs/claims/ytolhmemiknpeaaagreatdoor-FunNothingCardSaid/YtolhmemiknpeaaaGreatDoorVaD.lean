/-
  Layer 7, the program: operators.
-/
import Derived.Test.YtolhmemiknpeaaaGreatDoorVaC
namespace Go.Proofs.YtolhmemiknpeaaaGreatDoor
open Go.RowKit

theorem dec_bne (x y : Int) : decide (¬ x = y) = (x != y) := by rw [bne, Bool.beq_eq_decide_eq, ← decide_not]
theorem pr_open (w : World) (a b : Vl) : PrAt ((w.alloc (.cells #[.int .i64 a.k, .int .i64 a.n, .string a.s, .int .i64 b.k, .int .i64 b.n, .string b.s] 87)).alloc (.cells #[.int .i64 0, .int .i64 0, .string ⟨#[]⟩] 28)) w.heap.size a b ∧ VlAt ((w.alloc (.cells #[.int .i64 a.k, .int .i64 a.n, .string a.s, .int .i64 b.k, .int .i64 b.n, .string b.s] 87)).alloc (.cells #[.int .i64 0, .int .i64 0, .string ⟨#[]⟩] 28)) (w.heap.size + 1) Vl.none ∧ Below w.heap.size w ((w.alloc (.cells #[.int .i64 a.k, .int .i64 a.n, .string a.s, .int .i64 b.k, .int .i64 b.n, .string b.s] 87)).alloc (.cells #[.int .i64 0, .int .i64 0, .string ⟨#[]⟩] 28)) := by
  have b1 := below_pr w a b
  have b2 := below_z (w.alloc (.cells #[.int .i64 a.k, .int .i64 a.n, .string a.s, .int .i64 b.k, .int .i64 b.n, .string b.s] 87))
  have h2 := VlAt.zero (w.alloc (.cells #[.int .i64 a.k, .int .i64 a.n, .string a.s, .int .i64 b.k, .int .i64 b.n, .string b.s] 87))
  rw [World.size_alloc] at h2
  exact ⟨(PrAt.new w a b).over b2, h2, b1.trans (b2.mono b1.size)⟩
theorem res_pequal : Tryz.f62.results = #[.cell 2 28] := by kernel_rfl
set_option maxRecDepth 100000 in
set_option maxHeartbeats 1600000 in
theorem pequal_any (a b : Vl) (w : World) : Calls Tryz.prog 62 #[.agg #[.int .i64 a.k, .int .i64 a.n, .string a.s, .int .i64 b.k, .int .i64 b.n, .string b.s]] w fun e w' => e = .returned (.agg #[.int .i64 (Vl.truth (decide (cmpV a b = 0))).k, .int .i64 (Vl.truth (decide (cmpV a b = 0))).n, .string (Vl.truth (decide (cmpV a b = 0))).s]) ∧ Below w.heap.size w w' := by
  have hc := compare_any a b
  generalize cmpV a b = c at hc ⊢
  have ht := vtruth_any (c == 0)
  rw [dec_beq]
  generalize Vl.truth (c == 0) = v at ht ⊢
  have HC := Lib.hid hc; have HT := Lib.hid ht
  clear hc ht
  obtain ⟨k1, k2, k3⟩ := pr_open w a b
  have HP := Lib.hid k1; have HZ := Lib.hid k2; have HB := Lib.hid k3
  clear k1 k2 k3
  go_enter Tryz.func62, Tryz.ntmps62
  go_upto_region 1 with (fail)
  generalize hz : w.heap.size = q at HP HZ ⊢
  generalize ((w.alloc (.cells #[.int .i64 a.k, .int .i64 a.n, .string a.s, .int .i64 b.k, .int .i64 b.n, .string b.s] 87)).alloc (.cells #[.int .i64 0, .int .i64 0, .string ⟨#[]⟩] 28)) = w1 at HP HZ HB ⊢
  have HLE := Lib.hid (show w.heap.size ≤ q + 1 by omega)
  obtain ⟨c0, c1, c2, c3, c4, c5⟩ := HP.out.cells
  clear hz
  go_wp2_with (first
    | (go_at_call 78; ((with_reducible refine (HC.out _).mono ?_); rintro e w2 ⟨rfl, hb⟩; have HZ2 := Lib.hid (HZ.out.over hb); obtain ⟨m0, m1, m2⟩ := HZ2.out.melts; obtain ⟨u0, u1, u2⟩ := HZ2.out.cells; have HB2 := Lib.hid (HB.out.trans (hb.mono HB.out.size)); clear hb))
    | (go_at_call 77; ((with_reducible refine (HT.out _).mono ?_); rintro e w3 ⟨rfl, hb⟩; have HZ3 := Lib.hid (HZ2.out.over hb); obtain ⟨m0, m1, m2⟩ := HZ3.out.melts; obtain ⟨u0, u1, u2⟩ := HZ3.out.cells; have HB3 := Lib.hid (HB2.out.trans (hb.mono HB2.out.size)); clear hb)))
  exact bodyPost_ret (out_vl (HZ3.out.put3 v) _ _ 2 res_pequal rfl) rfl ⟨rfl, belowV3 HB3.out HLE.out v⟩
theorem res_punequal : Tryz.f63.results = #[.cell 2 28] := by kernel_rfl
set_option maxRecDepth 100000 in
set_option maxHeartbeats 1600000 in
theorem punequal_any (a b : Vl) (w : World) : Calls Tryz.prog 63 #[.agg #[.int .i64 a.k, .int .i64 a.n, .string a.s, .int .i64 b.k, .int .i64 b.n, .string b.s]] w fun e w' => e = .returned (.agg #[.int .i64 (Vl.truth (decide (¬ cmpV a b = 0))).k, .int .i64 (Vl.truth (decide (¬ cmpV a b = 0))).n, .string (Vl.truth (decide (¬ cmpV a b = 0))).s]) ∧ Below w.heap.size w w' := by
  have hc := compare_any a b
  generalize cmpV a b = c at hc ⊢
  have ht := vtruth_any (c != 0)
  rw [dec_bne]
  generalize Vl.truth (c != 0) = v at ht ⊢
  have HC := Lib.hid hc; have HT := Lib.hid ht
  clear hc ht
  obtain ⟨k1, k2, k3⟩ := pr_open w a b
  have HP := Lib.hid k1; have HZ := Lib.hid k2; have HB := Lib.hid k3
  clear k1 k2 k3
  go_enter Tryz.func63, Tryz.ntmps63
  go_upto_region 1 with (fail)
  generalize hz : w.heap.size = q at HP HZ ⊢
  generalize ((w.alloc (.cells #[.int .i64 a.k, .int .i64 a.n, .string a.s, .int .i64 b.k, .int .i64 b.n, .string b.s] 87)).alloc (.cells #[.int .i64 0, .int .i64 0, .string ⟨#[]⟩] 28)) = w1 at HP HZ HB ⊢
  have HLE := Lib.hid (show w.heap.size ≤ q + 1 by omega)
  obtain ⟨c0, c1, c2, c3, c4, c5⟩ := HP.out.cells
  clear hz
  go_wp2_with (first
    | (go_at_call 78; ((with_reducible refine (HC.out _).mono ?_); rintro e w2 ⟨rfl, hb⟩; have HZ2 := Lib.hid (HZ.out.over hb); obtain ⟨m0, m1, m2⟩ := HZ2.out.melts; obtain ⟨u0, u1, u2⟩ := HZ2.out.cells; have HB2 := Lib.hid (HB.out.trans (hb.mono HB.out.size)); clear hb))
    | (go_at_call 77; ((with_reducible refine (HT.out _).mono ?_); rintro e w3 ⟨rfl, hb⟩; have HZ3 := Lib.hid (HZ2.out.over hb); obtain ⟨m0, m1, m2⟩ := HZ3.out.melts; obtain ⟨u0, u1, u2⟩ := HZ3.out.cells; have HB3 := Lib.hid (HB2.out.trans (hb.mono HB2.out.size)); clear hb)))
  exact bodyPost_ret (out_vl (HZ3.out.put3 v) _ _ 2 res_punequal rfl) rfl ⟨rfl, belowV3 HB3.out HLE.out v⟩
theorem res_pbelow : Tryz.f64.results = #[.cell 2 28] := by kernel_rfl
set_option maxRecDepth 100000 in
set_option maxHeartbeats 1600000 in
theorem pbelow_any (a b : Vl) (w : World) : Calls Tryz.prog 64 #[.agg #[.int .i64 a.k, .int .i64 a.n, .string a.s, .int .i64 b.k, .int .i64 b.n, .string b.s]] w fun e w' => e = .returned (.agg #[.int .i64 (Vl.truth (decide (cmpV a b < 0))).k, .int .i64 (Vl.truth (decide (cmpV a b < 0))).n, .string (Vl.truth (decide (cmpV a b < 0))).s]) ∧ Below w.heap.size w w' := by
  have hc := compare_any a b
  generalize cmpV a b = c at hc ⊢
  have ht := vtruth_any (decide (c < 0))
  skip
  generalize Vl.truth (decide (c < 0)) = v at ht ⊢
  have HC := Lib.hid hc; have HT := Lib.hid ht
  clear hc ht
  obtain ⟨k1, k2, k3⟩ := pr_open w a b
  have HP := Lib.hid k1; have HZ := Lib.hid k2; have HB := Lib.hid k3
  clear k1 k2 k3
  go_enter Tryz.func64, Tryz.ntmps64
  go_upto_region 1 with (fail)
  generalize hz : w.heap.size = q at HP HZ ⊢
  generalize ((w.alloc (.cells #[.int .i64 a.k, .int .i64 a.n, .string a.s, .int .i64 b.k, .int .i64 b.n, .string b.s] 87)).alloc (.cells #[.int .i64 0, .int .i64 0, .string ⟨#[]⟩] 28)) = w1 at HP HZ HB ⊢
  have HLE := Lib.hid (show w.heap.size ≤ q + 1 by omega)
  obtain ⟨c0, c1, c2, c3, c4, c5⟩ := HP.out.cells
  clear hz
  go_wp2_with (first
    | (go_at_call 78; ((with_reducible refine (HC.out _).mono ?_); rintro e w2 ⟨rfl, hb⟩; have HZ2 := Lib.hid (HZ.out.over hb); obtain ⟨m0, m1, m2⟩ := HZ2.out.melts; obtain ⟨u0, u1, u2⟩ := HZ2.out.cells; have HB2 := Lib.hid (HB.out.trans (hb.mono HB.out.size)); clear hb))
    | (go_at_call 77; ((with_reducible refine (HT.out _).mono ?_); rintro e w3 ⟨rfl, hb⟩; have HZ3 := Lib.hid (HZ2.out.over hb); obtain ⟨m0, m1, m2⟩ := HZ3.out.melts; obtain ⟨u0, u1, u2⟩ := HZ3.out.cells; have HB3 := Lib.hid (HB2.out.trans (hb.mono HB2.out.size)); clear hb)))
  exact bodyPost_ret (out_vl (HZ3.out.put3 v) _ _ 2 res_pbelow rfl) rfl ⟨rfl, belowV3 HB3.out HLE.out v⟩
theorem res_pnotAbove : Tryz.f65.results = #[.cell 2 28] := by kernel_rfl
set_option maxRecDepth 100000 in
set_option maxHeartbeats 1600000 in
theorem pnotAbove_any (a b : Vl) (w : World) : Calls Tryz.prog 65 #[.agg #[.int .i64 a.k, .int .i64 a.n, .string a.s, .int .i64 b.k, .int .i64 b.n, .string b.s]] w fun e w' => e = .returned (.agg #[.int .i64 (Vl.truth (decide (cmpV a b ≤ 0))).k, .int .i64 (Vl.truth (decide (cmpV a b ≤ 0))).n, .string (Vl.truth (decide (cmpV a b ≤ 0))).s]) ∧ Below w.heap.size w w' := by
  have hc := compare_any a b
  generalize cmpV a b = c at hc ⊢
  have ht := vtruth_any (decide (c ≤ 0))
  skip
  generalize Vl.truth (decide (c ≤ 0)) = v at ht ⊢
  have HC := Lib.hid hc; have HT := Lib.hid ht
  clear hc ht
  obtain ⟨k1, k2, k3⟩ := pr_open w a b
  have HP := Lib.hid k1; have HZ := Lib.hid k2; have HB := Lib.hid k3
  clear k1 k2 k3
  go_enter Tryz.func65, Tryz.ntmps65
  go_upto_region 1 with (fail)
  generalize hz : w.heap.size = q at HP HZ ⊢
  generalize ((w.alloc (.cells #[.int .i64 a.k, .int .i64 a.n, .string a.s, .int .i64 b.k, .int .i64 b.n, .string b.s] 87)).alloc (.cells #[.int .i64 0, .int .i64 0, .string ⟨#[]⟩] 28)) = w1 at HP HZ HB ⊢
  have HLE := Lib.hid (show w.heap.size ≤ q + 1 by omega)
  obtain ⟨c0, c1, c2, c3, c4, c5⟩ := HP.out.cells
  clear hz
  go_wp2_with (first
    | (go_at_call 78; ((with_reducible refine (HC.out _).mono ?_); rintro e w2 ⟨rfl, hb⟩; have HZ2 := Lib.hid (HZ.out.over hb); obtain ⟨m0, m1, m2⟩ := HZ2.out.melts; obtain ⟨u0, u1, u2⟩ := HZ2.out.cells; have HB2 := Lib.hid (HB.out.trans (hb.mono HB.out.size)); clear hb))
    | (go_at_call 77; ((with_reducible refine (HT.out _).mono ?_); rintro e w3 ⟨rfl, hb⟩; have HZ3 := Lib.hid (HZ2.out.over hb); obtain ⟨m0, m1, m2⟩ := HZ3.out.melts; obtain ⟨u0, u1, u2⟩ := HZ3.out.cells; have HB3 := Lib.hid (HB2.out.trans (hb.mono HB2.out.size)); clear hb)))
  exact bodyPost_ret (out_vl (HZ3.out.put3 v) _ _ 2 res_pnotAbove rfl) rfl ⟨rfl, belowV3 HB3.out HLE.out v⟩
theorem res_pabove : Tryz.f66.results = #[.cell 2 28] := by kernel_rfl
set_option maxRecDepth 100000 in
set_option maxHeartbeats 1600000 in
theorem pabove_any (a b : Vl) (w : World) : Calls Tryz.prog 66 #[.agg #[.int .i64 a.k, .int .i64 a.n, .string a.s, .int .i64 b.k, .int .i64 b.n, .string b.s]] w fun e w' => e = .returned (.agg #[.int .i64 (Vl.truth (decide (0 < cmpV a b))).k, .int .i64 (Vl.truth (decide (0 < cmpV a b))).n, .string (Vl.truth (decide (0 < cmpV a b))).s]) ∧ Below w.heap.size w w' := by
  have hc := compare_any a b
  generalize cmpV a b = c at hc ⊢
  have ht := vtruth_any (decide (0 < c))
  skip
  generalize Vl.truth (decide (0 < c)) = v at ht ⊢
  have HC := Lib.hid hc; have HT := Lib.hid ht
  clear hc ht
  obtain ⟨k1, k2, k3⟩ := pr_open w a b
  have HP := Lib.hid k1; have HZ := Lib.hid k2; have HB := Lib.hid k3
  clear k1 k2 k3
  go_enter Tryz.func66, Tryz.ntmps66
  go_upto_region 1 with (fail)
  generalize hz : w.heap.size = q at HP HZ ⊢
  generalize ((w.alloc (.cells #[.int .i64 a.k, .int .i64 a.n, .string a.s, .int .i64 b.k, .int .i64 b.n, .string b.s] 87)).alloc (.cells #[.int .i64 0, .int .i64 0, .string ⟨#[]⟩] 28)) = w1 at HP HZ HB ⊢
  have HLE := Lib.hid (show w.heap.size ≤ q + 1 by omega)
  obtain ⟨c0, c1, c2, c3, c4, c5⟩ := HP.out.cells
  clear hz
  go_wp2_with (first
    | (go_at_call 78; ((with_reducible refine (HC.out _).mono ?_); rintro e w2 ⟨rfl, hb⟩; have HZ2 := Lib.hid (HZ.out.over hb); obtain ⟨m0, m1, m2⟩ := HZ2.out.melts; obtain ⟨u0, u1, u2⟩ := HZ2.out.cells; have HB2 := Lib.hid (HB.out.trans (hb.mono HB.out.size)); clear hb))
    | (go_at_call 77; ((with_reducible refine (HT.out _).mono ?_); rintro e w3 ⟨rfl, hb⟩; have HZ3 := Lib.hid (HZ2.out.over hb); obtain ⟨m0, m1, m2⟩ := HZ3.out.melts; obtain ⟨u0, u1, u2⟩ := HZ3.out.cells; have HB3 := Lib.hid (HB2.out.trans (hb.mono HB2.out.size)); clear hb)))
  exact bodyPost_ret (out_vl (HZ3.out.put3 v) _ _ 2 res_pabove rfl) rfl ⟨rfl, belowV3 HB3.out HLE.out v⟩
theorem res_pnotBelow : Tryz.f67.results = #[.cell 2 28] := by kernel_rfl
set_option maxRecDepth 100000 in
set_option maxHeartbeats 1600000 in
theorem pnotBelow_any (a b : Vl) (w : World) : Calls Tryz.prog 67 #[.agg #[.int .i64 a.k, .int .i64 a.n, .string a.s, .int .i64 b.k, .int .i64 b.n, .string b.s]] w fun e w' => e = .returned (.agg #[.int .i64 (Vl.truth (decide (0 ≤ cmpV a b))).k, .int .i64 (Vl.truth (decide (0 ≤ cmpV a b))).n, .string (Vl.truth (decide (0 ≤ cmpV a b))).s]) ∧ Below w.heap.size w w' := by
  have hc := compare_any a b
  generalize cmpV a b = c at hc ⊢
  have ht := vtruth_any (decide (0 ≤ c))
  skip
  generalize Vl.truth (decide (0 ≤ c)) = v at ht ⊢
  have HC := Lib.hid hc; have HT := Lib.hid ht
  clear hc ht
  obtain ⟨k1, k2, k3⟩ := pr_open w a b
  have HP := Lib.hid k1; have HZ := Lib.hid k2; have HB := Lib.hid k3
  clear k1 k2 k3
  go_enter Tryz.func67, Tryz.ntmps67
  go_upto_region 1 with (fail)
  generalize hz : w.heap.size = q at HP HZ ⊢
  generalize ((w.alloc (.cells #[.int .i64 a.k, .int .i64 a.n, .string a.s, .int .i64 b.k, .int .i64 b.n, .string b.s] 87)).alloc (.cells #[.int .i64 0, .int .i64 0, .string ⟨#[]⟩] 28)) = w1 at HP HZ HB ⊢
  have HLE := Lib.hid (show w.heap.size ≤ q + 1 by omega)
  obtain ⟨c0, c1, c2, c3, c4, c5⟩ := HP.out.cells
  clear hz
  go_wp2_with (first
    | (go_at_call 78; ((with_reducible refine (HC.out _).mono ?_); rintro e w2 ⟨rfl, hb⟩; have HZ2 := Lib.hid (HZ.out.over hb); obtain ⟨m0, m1, m2⟩ := HZ2.out.melts; obtain ⟨u0, u1, u2⟩ := HZ2.out.cells; have HB2 := Lib.hid (HB.out.trans (hb.mono HB.out.size)); clear hb))
    | (go_at_call 77; ((with_reducible refine (HT.out _).mono ?_); rintro e w3 ⟨rfl, hb⟩; have HZ3 := Lib.hid (HZ2.out.over hb); obtain ⟨m0, m1, m2⟩ := HZ3.out.melts; obtain ⟨u0, u1, u2⟩ := HZ3.out.cells; have HB3 := Lib.hid (HB2.out.trans (hb.mono HB2.out.size)); clear hb)))
  exact bodyPost_ret (out_vl (HZ3.out.put3 v) _ _ 2 res_pnotBelow rfl) rfl ⟨rfl, belowV3 HB3.out HLE.out v⟩
def VOk (v : Vl) : Prop := -9223372036854775808 ≤ v.n ∧ v.n ≤ 9223372036854775807 ∧ v.s.size ≤ 4000000000000000000
theorem VOk.int {v : Vl} (h : VOk v) : -9223372036854775808 ≤ intV v ∧ intV v ≤ 9223372036854775807 := by
  obtain ⟨h1, h2, _⟩ := h
  unfold intV
  by_cases hk : v.k = 1
  · rw [if_pos hk]; exact ⟨h1, h2⟩
  · rw [if_neg hk]; exact ⟨by decide, by decide⟩
theorem res_reckon : Tryz.f80.results = #[.cell 4 28] := by kernel_rfl
set_option maxRecDepth 100000 in
set_option maxHeartbeats 1600000 in
theorem reckon_sum_a (a b : Vl) (h : isInt a = false) (w : World) : Calls Tryz.prog 80 #[.agg #[.int .i64 a.k, .int .i64 a.n, .string a.s, .int .i64 b.k, .int .i64 b.n, .string b.s], .func (.func 81) #[] #[]] w fun e w' => e = .returned (.agg #[.int .i64 (reckV sumV a b).k, .int .i64 (reckV sumV a b).n, .string (reckV sumV a b).s]) ∧ Below w.heap.size w w' := by
  have hia := int_any a
  have hib := int_any b
  have hr : reckV sumV a b = if isInt a = true then (if isInt b = true then sumV (intV a) (intV b) else Vl.err 1) else Vl.err 1 := rfl
  rw [if_neg (by rw [h]; decide)] at hr
  rw [hr]
  rw [h] at hia
  have hc := fun (w : World) => fault_any 1 w
  generalize Vl.err 1 = v at hc ⊢
  have HC := Lib.hid hc
  clear hc
  have HIA := Lib.hid hia; have HIB := Lib.hid hib
  clear hia hib hr
  obtain ⟨k1, k2, k3⟩ := pr_open w a b
  have HP := Lib.hid k1; have HZ := Lib.hid k2; have HB := Lib.hid k3
  clear k1 k2 k3
  go_enter Tryz.func80, Tryz.ntmps80
  go_upto_region 1 with (fail)
  generalize hz : w.heap.size = q at HP HZ ⊢
  generalize ((w.alloc (.cells #[.int .i64 a.k, .int .i64 a.n, .string a.s, .int .i64 b.k, .int .i64 b.n, .string b.s] 87)).alloc (.cells #[.int .i64 0, .int .i64 0, .string ⟨#[]⟩] 28)) = w1 at HP HZ HB ⊢
  have HLE := Lib.hid (show w.heap.size ≤ q + 1 by omega)
  obtain ⟨c0, c1, c2, c3, c4, c5⟩ := HP.out.cells
  clear hz
  go_wp2_with (first
    | (go_at_call 44; ((with_reducible refine (HIA.out _).mono ?_); rintro e w2 ⟨rfl, hb⟩; have HP2 := Lib.hid (HP.out.over hb); have HZ2 := Lib.hid (HZ.out.over hb); obtain ⟨d0, d1, d2, d3, d4, d5⟩ := HP2.out.cells; have HB2 := Lib.hid (HB.out.trans (hb.mono HB.out.size)); obtain ⟨m0, m1, m2⟩ := HZ2.out.melts; obtain ⟨u0, u1, u2⟩ := HZ2.out.cells; clear hb))
    | (go_at_call 55; ((with_reducible refine (HC.out _).mono ?_); rintro e w3 ⟨rfl, hb⟩; have HZ3 := Lib.hid (HZ2.out.over hb); obtain ⟨m0, m1, m2⟩ := HZ3.out.melts; obtain ⟨u0, u1, u2⟩ := HZ3.out.cells; have HB3 := Lib.hid (HB2.out.trans (hb.mono HB2.out.size)); clear hb)))
  exact bodyPost_ret (out_vl (HZ3.out.put3 v) _ _ 4 res_reckon rfl) rfl ⟨rfl, belowV3 HB3.out HLE.out v⟩
set_option maxRecDepth 100000 in
set_option maxHeartbeats 1600000 in
theorem reckon_sum_b (a b : Vl) (h : isInt a = true) (h2 : isInt b = false) (w : World) : Calls Tryz.prog 80 #[.agg #[.int .i64 a.k, .int .i64 a.n, .string a.s, .int .i64 b.k, .int .i64 b.n, .string b.s], .func (.func 81) #[] #[]] w fun e w' => e = .returned (.agg #[.int .i64 (reckV sumV a b).k, .int .i64 (reckV sumV a b).n, .string (reckV sumV a b).s]) ∧ Below w.heap.size w w' := by
  have hia := int_any a
  have hib := int_any b
  have hr : reckV sumV a b = if isInt a = true then (if isInt b = true then sumV (intV a) (intV b) else Vl.err 1) else Vl.err 1 := rfl
  rw [if_pos h, if_neg (by rw [h2]; decide)] at hr
  rw [hr]
  rw [h] at hia
  rw [h2] at hib
  have hc := fun (w : World) => fault_any 1 w
  generalize Vl.err 1 = v at hc ⊢
  have HC := Lib.hid hc
  clear hc
  have HIA := Lib.hid hia; have HIB := Lib.hid hib
  clear hia hib hr
  obtain ⟨k1, k2, k3⟩ := pr_open w a b
  have HP := Lib.hid k1; have HZ := Lib.hid k2; have HB := Lib.hid k3
  clear k1 k2 k3
  go_enter Tryz.func80, Tryz.ntmps80
  go_upto_region 1 with (fail)
  generalize hz : w.heap.size = q at HP HZ ⊢
  generalize ((w.alloc (.cells #[.int .i64 a.k, .int .i64 a.n, .string a.s, .int .i64 b.k, .int .i64 b.n, .string b.s] 87)).alloc (.cells #[.int .i64 0, .int .i64 0, .string ⟨#[]⟩] 28)) = w1 at HP HZ HB ⊢
  have HLE := Lib.hid (show w.heap.size ≤ q + 1 by omega)
  obtain ⟨c0, c1, c2, c3, c4, c5⟩ := HP.out.cells
  clear hz
  go_wp2_with (first
    | (go_at_call 44; ((with_reducible refine (HIA.out _).mono ?_); rintro e w2 ⟨rfl, hb⟩; have HP2 := Lib.hid (HP.out.over hb); have HZ2 := Lib.hid (HZ.out.over hb); obtain ⟨d0, d1, d2, d3, d4, d5⟩ := HP2.out.cells; have HB2 := Lib.hid (HB.out.trans (hb.mono HB.out.size)); obtain ⟨m0, m1, m2⟩ := HZ2.out.melts; obtain ⟨u0, u1, u2⟩ := HZ2.out.cells; clear hb))
    | (go_at_call 44; ((with_reducible refine (HIB.out _).mono ?_); rintro e w3 ⟨rfl, hb⟩; have HP3 := Lib.hid (HP2.out.over hb); have HZ3 := Lib.hid (HZ2.out.over hb); obtain ⟨g0, g1, g2, g3, g4, g5⟩ := HP3.out.cells; have HB3 := Lib.hid (HB2.out.trans (hb.mono HB2.out.size)); obtain ⟨m0, m1, m2⟩ := HZ3.out.melts; obtain ⟨u0, u1, u2⟩ := HZ3.out.cells; clear hb))
    | (go_at_call 55; ((with_reducible refine (HC.out _).mono ?_); rintro e w4 ⟨rfl, hb⟩; have HZ4 := Lib.hid (HZ3.out.over hb); obtain ⟨m0, m1, m2⟩ := HZ4.out.melts; obtain ⟨u0, u1, u2⟩ := HZ4.out.cells; have HB4 := Lib.hid (HB3.out.trans (hb.mono HB3.out.size)); clear hb)))
  exact bodyPost_ret (out_vl (HZ4.out.put3 v) _ _ 4 res_reckon rfl) rfl ⟨rfl, belowV3 HB4.out HLE.out v⟩
set_option maxRecDepth 100000 in
set_option maxHeartbeats 1600000 in
theorem reckon_sum_c (a b : Vl) (h : isInt a = true) (h2 : isInt b = true) (ha : VOk a) (hb : VOk b) (w : World) : Calls Tryz.prog 80 #[.agg #[.int .i64 a.k, .int .i64 a.n, .string a.s, .int .i64 b.k, .int .i64 b.n, .string b.s], .func (.func 81) #[] #[]] w fun e w' => e = .returned (.agg #[.int .i64 (reckV sumV a b).k, .int .i64 (reckV sumV a b).n, .string (reckV sumV a b).s]) ∧ Below w.heap.size w w' := by
  have hia := int_any a
  have hib := int_any b
  have hr : reckV sumV a b = if isInt a = true then (if isInt b = true then sumV (intV a) (intV b) else Vl.err 1) else Vl.err 1 := rfl
  rw [if_pos h, if_pos h2] at hr
  rw [hr]
  rw [h] at hia
  rw [h2] at hib
  have hc := fun (w : World) => sum_any (intV a) (intV b) ha.int.1 ha.int.2 hb.int.1 hb.int.2 w
  generalize sumV (intV a) (intV b) = v at hc ⊢
  generalize intV a = x at hc hia
  generalize intV b = y at hc hib
  have HC := Lib.hid hc
  clear hc ha hb
  have HIA := Lib.hid hia; have HIB := Lib.hid hib
  clear hia hib hr
  obtain ⟨k1, k2, k3⟩ := pr_open w a b
  have HP := Lib.hid k1; have HZ := Lib.hid k2; have HB := Lib.hid k3
  clear k1 k2 k3
  go_enter Tryz.func80, Tryz.ntmps80
  go_upto_region 1 with (fail)
  generalize hz : w.heap.size = q at HP HZ ⊢
  generalize ((w.alloc (.cells #[.int .i64 a.k, .int .i64 a.n, .string a.s, .int .i64 b.k, .int .i64 b.n, .string b.s] 87)).alloc (.cells #[.int .i64 0, .int .i64 0, .string ⟨#[]⟩] 28)) = w1 at HP HZ HB ⊢
  have HLE := Lib.hid (show w.heap.size ≤ q + 1 by omega)
  obtain ⟨c0, c1, c2, c3, c4, c5⟩ := HP.out.cells
  clear hz
  go_wp2_with (first
    | (go_at_call 44; ((with_reducible refine (HIA.out _).mono ?_); rintro e w2 ⟨rfl, hb⟩; have HP2 := Lib.hid (HP.out.over hb); have HZ2 := Lib.hid (HZ.out.over hb); obtain ⟨d0, d1, d2, d3, d4, d5⟩ := HP2.out.cells; have HB2 := Lib.hid (HB.out.trans (hb.mono HB.out.size)); obtain ⟨m0, m1, m2⟩ := HZ2.out.melts; obtain ⟨u0, u1, u2⟩ := HZ2.out.cells; clear hb))
    | (go_at_call 44; ((with_reducible refine (HIB.out _).mono ?_); rintro e w3 ⟨rfl, hb⟩; have HP3 := Lib.hid (HP2.out.over hb); have HZ3 := Lib.hid (HZ2.out.over hb); obtain ⟨g0, g1, g2, g3, g4, g5⟩ := HP3.out.cells; have HB3 := Lib.hid (HB2.out.trans (hb.mono HB2.out.size)); obtain ⟨m0, m1, m2⟩ := HZ3.out.melts; obtain ⟨u0, u1, u2⟩ := HZ3.out.cells; clear hb))
    | (go_at_call 81; ((with_reducible refine (HC.out _).mono ?_); rintro e w4 ⟨rfl, hb⟩; have HZ4 := Lib.hid (HZ3.out.over hb); obtain ⟨m0, m1, m2⟩ := HZ4.out.melts; obtain ⟨u0, u1, u2⟩ := HZ4.out.cells; have HB4 := Lib.hid (HB3.out.trans (hb.mono HB3.out.size)); clear hb)))
  exact bodyPost_ret (out_vl (HZ4.out.put3 v) _ _ 4 res_reckon rfl) rfl ⟨rfl, belowV3 HB4.out HLE.out v⟩
theorem reckon_sum (a b : Vl) (ha : VOk a) (hb : VOk b) (w : World) : Calls Tryz.prog 80 #[.agg #[.int .i64 a.k, .int .i64 a.n, .string a.s, .int .i64 b.k, .int .i64 b.n, .string b.s], .func (.func 81) #[] #[]] w fun e w' => e = .returned (.agg #[.int .i64 (reckV sumV a b).k, .int .i64 (reckV sumV a b).n, .string (reckV sumV a b).s]) ∧ Below w.heap.size w w' := by
  by_cases h : isInt a = true
  · by_cases h2 : isInt b = true
    · exact reckon_sum_c a b h h2 ha hb w
    · exact reckon_sum_b a b h (by simpa using h2) w
  · exact reckon_sum_a a b (by simpa using h) w
theorem res_padd : Tryz.f69.results = #[.cell 2 28] := by kernel_rfl
set_option maxRecDepth 100000 in
set_option maxHeartbeats 1600000 in
theorem padd_any (a b : Vl) (ha : VOk a) (hb : VOk b) (w : World) : Calls Tryz.prog 69 #[.agg #[.int .i64 a.k, .int .i64 a.n, .string a.s, .int .i64 b.k, .int .i64 b.n, .string b.s]] w fun e w' => e = .returned (.agg #[.int .i64 (reckV sumV a b).k, .int .i64 (reckV sumV a b).n, .string (reckV sumV a b).s]) ∧ Below w.heap.size w w' := by
  have hc := fun (w : World) => reckon_sum a b ha hb w
  generalize reckV sumV a b = v at hc ⊢
  have HC := Lib.hid hc
  clear hc ha hb
  obtain ⟨k1, k2, k3⟩ := pr_open w a b
  have HP := Lib.hid k1; have HZ := Lib.hid k2; have HB := Lib.hid k3
  clear k1 k2 k3
  go_enter Tryz.func69, Tryz.ntmps69
  go_upto_region 1 with (fail)
  generalize hz : w.heap.size = q at HP HZ ⊢
  generalize ((w.alloc (.cells #[.int .i64 a.k, .int .i64 a.n, .string a.s, .int .i64 b.k, .int .i64 b.n, .string b.s] 87)).alloc (.cells #[.int .i64 0, .int .i64 0, .string ⟨#[]⟩] 28)) = w1 at HP HZ HB ⊢
  have HLE := Lib.hid (show w.heap.size ≤ q + 1 by omega)
  obtain ⟨c0, c1, c2, c3, c4, c5⟩ := HP.out.cells
  clear hz
  go_wp2_with (go_at_call 80; ((with_reducible refine (HC.out _).mono ?_); rintro e w2 ⟨rfl, hb⟩; have HZ2 := Lib.hid (HZ.out.over hb); obtain ⟨m0, m1, m2⟩ := HZ2.out.melts; obtain ⟨u0, u1, u2⟩ := HZ2.out.cells; have HB2 := Lib.hid (HB.out.trans (hb.mono HB.out.size)); clear hb))
  exact bodyPost_ret (out_vl (HZ2.out.put3 v) _ _ 2 res_padd rfl) rfl ⟨rfl, belowV3 HB2.out HLE.out v⟩
set_option maxRecDepth 100000 in
set_option maxHeartbeats 1600000 in
theorem reckon_difference_a (a b : Vl) (h : isInt a = false) (w : World) : Calls Tryz.prog 80 #[.agg #[.int .i64 a.k, .int .i64 a.n, .string a.s, .int .i64 b.k, .int .i64 b.n, .string b.s], .func (.func 82) #[] #[]] w fun e w' => e = .returned (.agg #[.int .i64 (reckV subV a b).k, .int .i64 (reckV subV a b).n, .string (reckV subV a b).s]) ∧ Below w.heap.size w w' := by
  have hia := int_any a
  have hib := int_any b
  have hr : reckV subV a b = if isInt a = true then (if isInt b = true then subV (intV a) (intV b) else Vl.err 1) else Vl.err 1 := rfl
  rw [if_neg (by rw [h]; decide)] at hr
  rw [hr]
  rw [h] at hia
  have hc := fun (w : World) => fault_any 1 w
  generalize Vl.err 1 = v at hc ⊢
  have HC := Lib.hid hc
  clear hc
  have HIA := Lib.hid hia; have HIB := Lib.hid hib
  clear hia hib hr
  obtain ⟨k1, k2, k3⟩ := pr_open w a b
  have HP := Lib.hid k1; have HZ := Lib.hid k2; have HB := Lib.hid k3
  clear k1 k2 k3
  go_enter Tryz.func80, Tryz.ntmps80
  go_upto_region 1 with (fail)
  generalize hz : w.heap.size = q at HP HZ ⊢
  generalize ((w.alloc (.cells #[.int .i64 a.k, .int .i64 a.n, .string a.s, .int .i64 b.k, .int .i64 b.n, .string b.s] 87)).alloc (.cells #[.int .i64 0, .int .i64 0, .string ⟨#[]⟩] 28)) = w1 at HP HZ HB ⊢
  have HLE := Lib.hid (show w.heap.size ≤ q + 1 by omega)
  obtain ⟨c0, c1, c2, c3, c4, c5⟩ := HP.out.cells
  clear hz
  go_wp2_with (first
    | (go_at_call 44; ((with_reducible refine (HIA.out _).mono ?_); rintro e w2 ⟨rfl, hb⟩; have HP2 := Lib.hid (HP.out.over hb); have HZ2 := Lib.hid (HZ.out.over hb); obtain ⟨d0, d1, d2, d3, d4, d5⟩ := HP2.out.cells; have HB2 := Lib.hid (HB.out.trans (hb.mono HB.out.size)); obtain ⟨m0, m1, m2⟩ := HZ2.out.melts; obtain ⟨u0, u1, u2⟩ := HZ2.out.cells; clear hb))
    | (go_at_call 55; ((with_reducible refine (HC.out _).mono ?_); rintro e w3 ⟨rfl, hb⟩; have HZ3 := Lib.hid (HZ2.out.over hb); obtain ⟨m0, m1, m2⟩ := HZ3.out.melts; obtain ⟨u0, u1, u2⟩ := HZ3.out.cells; have HB3 := Lib.hid (HB2.out.trans (hb.mono HB2.out.size)); clear hb)))
  exact bodyPost_ret (out_vl (HZ3.out.put3 v) _ _ 4 res_reckon rfl) rfl ⟨rfl, belowV3 HB3.out HLE.out v⟩
set_option maxRecDepth 100000 in
set_option maxHeartbeats 1600000 in
theorem reckon_difference_b (a b : Vl) (h : isInt a = true) (h2 : isInt b = false) (w : World) : Calls Tryz.prog 80 #[.agg #[.int .i64 a.k, .int .i64 a.n, .string a.s, .int .i64 b.k, .int .i64 b.n, .string b.s], .func (.func 82) #[] #[]] w fun e w' => e = .returned (.agg #[.int .i64 (reckV subV a b).k, .int .i64 (reckV subV a b).n, .string (reckV subV a b).s]) ∧ Below w.heap.size w w' := by
  have hia := int_any a
  have hib := int_any b
  have hr : reckV subV a b = if isInt a = true then (if isInt b = true then subV (intV a) (intV b) else Vl.err 1) else Vl.err 1 := rfl
  rw [if_pos h, if_neg (by rw [h2]; decide)] at hr
  rw [hr]
  rw [h] at hia
  rw [h2] at hib
  have hc := fun (w : World) => fault_any 1 w
  generalize Vl.err 1 = v at hc ⊢
  have HC := Lib.hid hc
  clear hc
  have HIA := Lib.hid hia; have HIB := Lib.hid hib
  clear hia hib hr
  obtain ⟨k1, k2, k3⟩ := pr_open w a b
  have HP := Lib.hid k1; have HZ := Lib.hid k2; have HB := Lib.hid k3
  clear k1 k2 k3
  go_enter Tryz.func80, Tryz.ntmps80
  go_upto_region 1 with (fail)
  generalize hz : w.heap.size = q at HP HZ ⊢
  generalize ((w.alloc (.cells #[.int .i64 a.k, .int .i64 a.n, .string a.s, .int .i64 b.k, .int .i64 b.n, .string b.s] 87)).alloc (.cells #[.int .i64 0, .int .i64 0, .string ⟨#[]⟩] 28)) = w1 at HP HZ HB ⊢
  have HLE := Lib.hid (show w.heap.size ≤ q + 1 by omega)
  obtain ⟨c0, c1, c2, c3, c4, c5⟩ := HP.out.cells
  clear hz
  go_wp2_with (first
    | (go_at_call 44; ((with_reducible refine (HIA.out _).mono ?_); rintro e w2 ⟨rfl, hb⟩; have HP2 := Lib.hid (HP.out.over hb); have HZ2 := Lib.hid (HZ.out.over hb); obtain ⟨d0, d1, d2, d3, d4, d5⟩ := HP2.out.cells; have HB2 := Lib.hid (HB.out.trans (hb.mono HB.out.size)); obtain ⟨m0, m1, m2⟩ := HZ2.out.melts; obtain ⟨u0, u1, u2⟩ := HZ2.out.cells; clear hb))
    | (go_at_call 44; ((with_reducible refine (HIB.out _).mono ?_); rintro e w3 ⟨rfl, hb⟩; have HP3 := Lib.hid (HP2.out.over hb); have HZ3 := Lib.hid (HZ2.out.over hb); obtain ⟨g0, g1, g2, g3, g4, g5⟩ := HP3.out.cells; have HB3 := Lib.hid (HB2.out.trans (hb.mono HB2.out.size)); obtain ⟨m0, m1, m2⟩ := HZ3.out.melts; obtain ⟨u0, u1, u2⟩ := HZ3.out.cells; clear hb))
    | (go_at_call 55; ((with_reducible refine (HC.out _).mono ?_); rintro e w4 ⟨rfl, hb⟩; have HZ4 := Lib.hid (HZ3.out.over hb); obtain ⟨m0, m1, m2⟩ := HZ4.out.melts; obtain ⟨u0, u1, u2⟩ := HZ4.out.cells; have HB4 := Lib.hid (HB3.out.trans (hb.mono HB3.out.size)); clear hb)))
  exact bodyPost_ret (out_vl (HZ4.out.put3 v) _ _ 4 res_reckon rfl) rfl ⟨rfl, belowV3 HB4.out HLE.out v⟩
set_option maxRecDepth 100000 in
set_option maxHeartbeats 1600000 in
theorem reckon_difference_c (a b : Vl) (h : isInt a = true) (h2 : isInt b = true) (ha : VOk a) (hb : VOk b) (w : World) : Calls Tryz.prog 80 #[.agg #[.int .i64 a.k, .int .i64 a.n, .string a.s, .int .i64 b.k, .int .i64 b.n, .string b.s], .func (.func 82) #[] #[]] w fun e w' => e = .returned (.agg #[.int .i64 (reckV subV a b).k, .int .i64 (reckV subV a b).n, .string (reckV subV a b).s]) ∧ Below w.heap.size w w' := by
  have hia := int_any a
  have hib := int_any b
  have hr : reckV subV a b = if isInt a = true then (if isInt b = true then subV (intV a) (intV b) else Vl.err 1) else Vl.err 1 := rfl
  rw [if_pos h, if_pos h2] at hr
  rw [hr]
  rw [h] at hia
  rw [h2] at hib
  have hc := fun (w : World) => difference_any (intV a) (intV b) ha.int.1 ha.int.2 hb.int.1 hb.int.2 w
  generalize subV (intV a) (intV b) = v at hc ⊢
  generalize intV a = x at hc hia
  generalize intV b = y at hc hib
  have HC := Lib.hid hc
  clear hc ha hb
  have HIA := Lib.hid hia; have HIB := Lib.hid hib
  clear hia hib hr
  obtain ⟨k1, k2, k3⟩ := pr_open w a b
  have HP := Lib.hid k1; have HZ := Lib.hid k2; have HB := Lib.hid k3
  clear k1 k2 k3
  go_enter Tryz.func80, Tryz.ntmps80
  go_upto_region 1 with (fail)
  generalize hz : w.heap.size = q at HP HZ ⊢
  generalize ((w.alloc (.cells #[.int .i64 a.k, .int .i64 a.n, .string a.s, .int .i64 b.k, .int .i64 b.n, .string b.s] 87)).alloc (.cells #[.int .i64 0, .int .i64 0, .string ⟨#[]⟩] 28)) = w1 at HP HZ HB ⊢
  have HLE := Lib.hid (show w.heap.size ≤ q + 1 by omega)
  obtain ⟨c0, c1, c2, c3, c4, c5⟩ := HP.out.cells
  clear hz
  go_wp2_with (first
    | (go_at_call 44; ((with_reducible refine (HIA.out _).mono ?_); rintro e w2 ⟨rfl, hb⟩; have HP2 := Lib.hid (HP.out.over hb); have HZ2 := Lib.hid (HZ.out.over hb); obtain ⟨d0, d1, d2, d3, d4, d5⟩ := HP2.out.cells; have HB2 := Lib.hid (HB.out.trans (hb.mono HB.out.size)); obtain ⟨m0, m1, m2⟩ := HZ2.out.melts; obtain ⟨u0, u1, u2⟩ := HZ2.out.cells; clear hb))
    | (go_at_call 44; ((with_reducible refine (HIB.out _).mono ?_); rintro e w3 ⟨rfl, hb⟩; have HP3 := Lib.hid (HP2.out.over hb); have HZ3 := Lib.hid (HZ2.out.over hb); obtain ⟨g0, g1, g2, g3, g4, g5⟩ := HP3.out.cells; have HB3 := Lib.hid (HB2.out.trans (hb.mono HB2.out.size)); obtain ⟨m0, m1, m2⟩ := HZ3.out.melts; obtain ⟨u0, u1, u2⟩ := HZ3.out.cells; clear hb))
    | (go_at_call 82; ((with_reducible refine (HC.out _).mono ?_); rintro e w4 ⟨rfl, hb⟩; have HZ4 := Lib.hid (HZ3.out.over hb); obtain ⟨m0, m1, m2⟩ := HZ4.out.melts; obtain ⟨u0, u1, u2⟩ := HZ4.out.cells; have HB4 := Lib.hid (HB3.out.trans (hb.mono HB3.out.size)); clear hb)))
  exact bodyPost_ret (out_vl (HZ4.out.put3 v) _ _ 4 res_reckon rfl) rfl ⟨rfl, belowV3 HB4.out HLE.out v⟩
theorem reckon_difference (a b : Vl) (ha : VOk a) (hb : VOk b) (w : World) : Calls Tryz.prog 80 #[.agg #[.int .i64 a.k, .int .i64 a.n, .string a.s, .int .i64 b.k, .int .i64 b.n, .string b.s], .func (.func 82) #[] #[]] w fun e w' => e = .returned (.agg #[.int .i64 (reckV subV a b).k, .int .i64 (reckV subV a b).n, .string (reckV subV a b).s]) ∧ Below w.heap.size w w' := by
  by_cases h : isInt a = true
  · by_cases h2 : isInt b = true
    · exact reckon_difference_c a b h h2 ha hb w
    · exact reckon_difference_b a b h (by simpa using h2) w
  · exact reckon_difference_a a b (by simpa using h) w
theorem res_psubtract : Tryz.f70.results = #[.cell 2 28] := by kernel_rfl
set_option maxRecDepth 100000 in
set_option maxHeartbeats 1600000 in
theorem psubtract_any (a b : Vl) (ha : VOk a) (hb : VOk b) (w : World) : Calls Tryz.prog 70 #[.agg #[.int .i64 a.k, .int .i64 a.n, .string a.s, .int .i64 b.k, .int .i64 b.n, .string b.s]] w fun e w' => e = .returned (.agg #[.int .i64 (reckV subV a b).k, .int .i64 (reckV subV a b).n, .string (reckV subV a b).s]) ∧ Below w.heap.size w w' := by
  have hc := fun (w : World) => reckon_difference a b ha hb w
  generalize reckV subV a b = v at hc ⊢
  have HC := Lib.hid hc
  clear hc ha hb
  obtain ⟨k1, k2, k3⟩ := pr_open w a b
  have HP := Lib.hid k1; have HZ := Lib.hid k2; have HB := Lib.hid k3
  clear k1 k2 k3
  go_enter Tryz.func70, Tryz.ntmps70
  go_upto_region 1 with (fail)
  generalize hz : w.heap.size = q at HP HZ ⊢
  generalize ((w.alloc (.cells #[.int .i64 a.k, .int .i64 a.n, .string a.s, .int .i64 b.k, .int .i64 b.n, .string b.s] 87)).alloc (.cells #[.int .i64 0, .int .i64 0, .string ⟨#[]⟩] 28)) = w1 at HP HZ HB ⊢
  have HLE := Lib.hid (show w.heap.size ≤ q + 1 by omega)
  obtain ⟨c0, c1, c2, c3, c4, c5⟩ := HP.out.cells
  clear hz
  go_wp2_with (go_at_call 80; ((with_reducible refine (HC.out _).mono ?_); rintro e w2 ⟨rfl, hb⟩; have HZ2 := Lib.hid (HZ.out.over hb); obtain ⟨m0, m1, m2⟩ := HZ2.out.melts; obtain ⟨u0, u1, u2⟩ := HZ2.out.cells; have HB2 := Lib.hid (HB.out.trans (hb.mono HB.out.size)); clear hb))
  exact bodyPost_ret (out_vl (HZ2.out.put3 v) _ _ 2 res_psubtract rfl) rfl ⟨rfl, belowV3 HB2.out HLE.out v⟩
set_option maxRecDepth 100000 in
set_option maxHeartbeats 1600000 in
theorem reckon_product_a (a b : Vl) (h : isInt a = false) (w : World) : Calls Tryz.prog 80 #[.agg #[.int .i64 a.k, .int .i64 a.n, .string a.s, .int .i64 b.k, .int .i64 b.n, .string b.s], .func (.func 83) #[] #[]] w fun e w' => e = .returned (.agg #[.int .i64 (reckV mulV a b).k, .int .i64 (reckV mulV a b).n, .string (reckV mulV a b).s]) ∧ Below w.heap.size w w' := by
  have hia := int_any a
  have hib := int_any b
  have hr : reckV mulV a b = if isInt a = true then (if isInt b = true then mulV (intV a) (intV b) else Vl.err 1) else Vl.err 1 := rfl
  rw [if_neg (by rw [h]; decide)] at hr
  rw [hr]
  rw [h] at hia
  have hc := fun (w : World) => fault_any 1 w
  generalize Vl.err 1 = v at hc ⊢
  have HC := Lib.hid hc
  clear hc
  have HIA := Lib.hid hia; have HIB := Lib.hid hib
  clear hia hib hr
  obtain ⟨k1, k2, k3⟩ := pr_open w a b
  have HP := Lib.hid k1; have HZ := Lib.hid k2; have HB := Lib.hid k3
  clear k1 k2 k3
  go_enter Tryz.func80, Tryz.ntmps80
  go_upto_region 1 with (fail)
  generalize hz : w.heap.size = q at HP HZ ⊢
  generalize ((w.alloc (.cells #[.int .i64 a.k, .int .i64 a.n, .string a.s, .int .i64 b.k, .int .i64 b.n, .string b.s] 87)).alloc (.cells #[.int .i64 0, .int .i64 0, .string ⟨#[]⟩] 28)) = w1 at HP HZ HB ⊢
  have HLE := Lib.hid (show w.heap.size ≤ q + 1 by omega)
  obtain ⟨c0, c1, c2, c3, c4, c5⟩ := HP.out.cells
  clear hz
  go_wp2_with (first
    | (go_at_call 44; ((with_reducible refine (HIA.out _).mono ?_); rintro e w2 ⟨rfl, hb⟩; have HP2 := Lib.hid (HP.out.over hb); have HZ2 := Lib.hid (HZ.out.over hb); obtain ⟨d0, d1, d2, d3, d4, d5⟩ := HP2.out.cells; have HB2 := Lib.hid (HB.out.trans (hb.mono HB.out.size)); obtain ⟨m0, m1, m2⟩ := HZ2.out.melts; obtain ⟨u0, u1, u2⟩ := HZ2.out.cells; clear hb))
    | (go_at_call 55; ((with_reducible refine (HC.out _).mono ?_); rintro e w3 ⟨rfl, hb⟩; have HZ3 := Lib.hid (HZ2.out.over hb); obtain ⟨m0, m1, m2⟩ := HZ3.out.melts; obtain ⟨u0, u1, u2⟩ := HZ3.out.cells; have HB3 := Lib.hid (HB2.out.trans (hb.mono HB2.out.size)); clear hb)))
  exact bodyPost_ret (out_vl (HZ3.out.put3 v) _ _ 4 res_reckon rfl) rfl ⟨rfl, belowV3 HB3.out HLE.out v⟩
set_option maxRecDepth 100000 in
set_option maxHeartbeats 1600000 in
theorem reckon_product_b (a b : Vl) (h : isInt a = true) (h2 : isInt b = false) (w : World) : Calls Tryz.prog 80 #[.agg #[.int .i64 a.k, .int .i64 a.n, .string a.s, .int .i64 b.k, .int .i64 b.n, .string b.s], .func (.func 83) #[] #[]] w fun e w' => e = .returned (.agg #[.int .i64 (reckV mulV a b).k, .int .i64 (reckV mulV a b).n, .string (reckV mulV a b).s]) ∧ Below w.heap.size w w' := by
  have hia := int_any a
  have hib := int_any b
  have hr : reckV mulV a b = if isInt a = true then (if isInt b = true then mulV (intV a) (intV b) else Vl.err 1) else Vl.err 1 := rfl
  rw [if_pos h, if_neg (by rw [h2]; decide)] at hr
  rw [hr]
  rw [h] at hia
  rw [h2] at hib
  have hc := fun (w : World) => fault_any 1 w
  generalize Vl.err 1 = v at hc ⊢
  have HC := Lib.hid hc
  clear hc
  have HIA := Lib.hid hia; have HIB := Lib.hid hib
  clear hia hib hr
  obtain ⟨k1, k2, k3⟩ := pr_open w a b
  have HP := Lib.hid k1; have HZ := Lib.hid k2; have HB := Lib.hid k3
  clear k1 k2 k3
  go_enter Tryz.func80, Tryz.ntmps80
  go_upto_region 1 with (fail)
  generalize hz : w.heap.size = q at HP HZ ⊢
  generalize ((w.alloc (.cells #[.int .i64 a.k, .int .i64 a.n, .string a.s, .int .i64 b.k, .int .i64 b.n, .string b.s] 87)).alloc (.cells #[.int .i64 0, .int .i64 0, .string ⟨#[]⟩] 28)) = w1 at HP HZ HB ⊢
  have HLE := Lib.hid (show w.heap.size ≤ q + 1 by omega)
  obtain ⟨c0, c1, c2, c3, c4, c5⟩ := HP.out.cells
  clear hz
  go_wp2_with (first
    | (go_at_call 44; ((with_reducible refine (HIA.out _).mono ?_); rintro e w2 ⟨rfl, hb⟩; have HP2 := Lib.hid (HP.out.over hb); have HZ2 := Lib.hid (HZ.out.over hb); obtain ⟨d0, d1, d2, d3, d4, d5⟩ := HP2.out.cells; have HB2 := Lib.hid (HB.out.trans (hb.mono HB.out.size)); obtain ⟨m0, m1, m2⟩ := HZ2.out.melts; obtain ⟨u0, u1, u2⟩ := HZ2.out.cells; clear hb))
    | (go_at_call 44; ((with_reducible refine (HIB.out _).mono ?_); rintro e w3 ⟨rfl, hb⟩; have HP3 := Lib.hid (HP2.out.over hb); have HZ3 := Lib.hid (HZ2.out.over hb); obtain ⟨g0, g1, g2, g3, g4, g5⟩ := HP3.out.cells; have HB3 := Lib.hid (HB2.out.trans (hb.mono HB2.out.size)); obtain ⟨m0, m1, m2⟩ := HZ3.out.melts; obtain ⟨u0, u1, u2⟩ := HZ3.out.cells; clear hb))
    | (go_at_call 55; ((with_reducible refine (HC.out _).mono ?_); rintro e w4 ⟨rfl, hb⟩; have HZ4 := Lib.hid (HZ3.out.over hb); obtain ⟨m0, m1, m2⟩ := HZ4.out.melts; obtain ⟨u0, u1, u2⟩ := HZ4.out.cells; have HB4 := Lib.hid (HB3.out.trans (hb.mono HB3.out.size)); clear hb)))
  exact bodyPost_ret (out_vl (HZ4.out.put3 v) _ _ 4 res_reckon rfl) rfl ⟨rfl, belowV3 HB4.out HLE.out v⟩
set_option maxRecDepth 100000 in
set_option maxHeartbeats 1600000 in
theorem reckon_product_c (a b : Vl) (h : isInt a = true) (h2 : isInt b = true) (ha : VOk a) (hb : VOk b) (w : World) : Calls Tryz.prog 80 #[.agg #[.int .i64 a.k, .int .i64 a.n, .string a.s, .int .i64 b.k, .int .i64 b.n, .string b.s], .func (.func 83) #[] #[]] w fun e w' => e = .returned (.agg #[.int .i64 (reckV mulV a b).k, .int .i64 (reckV mulV a b).n, .string (reckV mulV a b).s]) ∧ Below w.heap.size w w' := by
  have hia := int_any a
  have hib := int_any b
  have hr : reckV mulV a b = if isInt a = true then (if isInt b = true then mulV (intV a) (intV b) else Vl.err 1) else Vl.err 1 := rfl
  rw [if_pos h, if_pos h2] at hr
  rw [hr]
  rw [h] at hia
  rw [h2] at hib
  have hc := fun (w : World) => product_any (intV a) (intV b) ha.int.1 ha.int.2 hb.int.1 hb.int.2 w
  generalize mulV (intV a) (intV b) = v at hc ⊢
  generalize intV a = x at hc hia
  generalize intV b = y at hc hib
  have HC := Lib.hid hc
  clear hc ha hb
  have HIA := Lib.hid hia; have HIB := Lib.hid hib
  clear hia hib hr
  obtain ⟨k1, k2, k3⟩ := pr_open w a b
  have HP := Lib.hid k1; have HZ := Lib.hid k2; have HB := Lib.hid k3
  clear k1 k2 k3
  go_enter Tryz.func80, Tryz.ntmps80
  go_upto_region 1 with (fail)
  generalize hz : w.heap.size = q at HP HZ ⊢
  generalize ((w.alloc (.cells #[.int .i64 a.k, .int .i64 a.n, .string a.s, .int .i64 b.k, .int .i64 b.n, .string b.s] 87)).alloc (.cells #[.int .i64 0, .int .i64 0, .string ⟨#[]⟩] 28)) = w1 at HP HZ HB ⊢
  have HLE := Lib.hid (show w.heap.size ≤ q + 1 by omega)
  obtain ⟨c0, c1, c2, c3, c4, c5⟩ := HP.out.cells
  clear hz
  go_wp2_with (first
    | (go_at_call 44; ((with_reducible refine (HIA.out _).mono ?_); rintro e w2 ⟨rfl, hb⟩; have HP2 := Lib.hid (HP.out.over hb); have HZ2 := Lib.hid (HZ.out.over hb); obtain ⟨d0, d1, d2, d3, d4, d5⟩ := HP2.out.cells; have HB2 := Lib.hid (HB.out.trans (hb.mono HB.out.size)); obtain ⟨m0, m1, m2⟩ := HZ2.out.melts; obtain ⟨u0, u1, u2⟩ := HZ2.out.cells; clear hb))
    | (go_at_call 44; ((with_reducible refine (HIB.out _).mono ?_); rintro e w3 ⟨rfl, hb⟩; have HP3 := Lib.hid (HP2.out.over hb); have HZ3 := Lib.hid (HZ2.out.over hb); obtain ⟨g0, g1, g2, g3, g4, g5⟩ := HP3.out.cells; have HB3 := Lib.hid (HB2.out.trans (hb.mono HB2.out.size)); obtain ⟨m0, m1, m2⟩ := HZ3.out.melts; obtain ⟨u0, u1, u2⟩ := HZ3.out.cells; clear hb))
    | (go_at_call 83; ((with_reducible refine (HC.out _).mono ?_); rintro e w4 ⟨rfl, hb⟩; have HZ4 := Lib.hid (HZ3.out.over hb); obtain ⟨m0, m1, m2⟩ := HZ4.out.melts; obtain ⟨u0, u1, u2⟩ := HZ4.out.cells; have HB4 := Lib.hid (HB3.out.trans (hb.mono HB3.out.size)); clear hb)))
  exact bodyPost_ret (out_vl (HZ4.out.put3 v) _ _ 4 res_reckon rfl) rfl ⟨rfl, belowV3 HB4.out HLE.out v⟩
theorem reckon_product (a b : Vl) (ha : VOk a) (hb : VOk b) (w : World) : Calls Tryz.prog 80 #[.agg #[.int .i64 a.k, .int .i64 a.n, .string a.s, .int .i64 b.k, .int .i64 b.n, .string b.s], .func (.func 83) #[] #[]] w fun e w' => e = .returned (.agg #[.int .i64 (reckV mulV a b).k, .int .i64 (reckV mulV a b).n, .string (reckV mulV a b).s]) ∧ Below w.heap.size w w' := by
  by_cases h : isInt a = true
  · by_cases h2 : isInt b = true
    · exact reckon_product_c a b h h2 ha hb w
    · exact reckon_product_b a b h (by simpa using h2) w
  · exact reckon_product_a a b (by simpa using h) w
theorem res_pmultiply : Tryz.f71.results = #[.cell 2 28] := by kernel_rfl
set_option maxRecDepth 100000 in
set_option maxHeartbeats 1600000 in
theorem pmultiply_any (a b : Vl) (ha : VOk a) (hb : VOk b) (w : World) : Calls Tryz.prog 71 #[.agg #[.int .i64 a.k, .int .i64 a.n, .string a.s, .int .i64 b.k, .int .i64 b.n, .string b.s]] w fun e w' => e = .returned (.agg #[.int .i64 (reckV mulV a b).k, .int .i64 (reckV mulV a b).n, .string (reckV mulV a b).s]) ∧ Below w.heap.size w w' := by
  have hc := fun (w : World) => reckon_product a b ha hb w
  generalize reckV mulV a b = v at hc ⊢
  have HC := Lib.hid hc
  clear hc ha hb
  obtain ⟨k1, k2, k3⟩ := pr_open w a b
  have HP := Lib.hid k1; have HZ := Lib.hid k2; have HB := Lib.hid k3
  clear k1 k2 k3
  go_enter Tryz.func71, Tryz.ntmps71
  go_upto_region 1 with (fail)
  generalize hz : w.heap.size = q at HP HZ ⊢
  generalize ((w.alloc (.cells #[.int .i64 a.k, .int .i64 a.n, .string a.s, .int .i64 b.k, .int .i64 b.n, .string b.s] 87)).alloc (.cells #[.int .i64 0, .int .i64 0, .string ⟨#[]⟩] 28)) = w1 at HP HZ HB ⊢
  have HLE := Lib.hid (show w.heap.size ≤ q + 1 by omega)
  obtain ⟨c0, c1, c2, c3, c4, c5⟩ := HP.out.cells
  clear hz
  go_wp2_with (go_at_call 80; ((with_reducible refine (HC.out _).mono ?_); rintro e w2 ⟨rfl, hb⟩; have HZ2 := Lib.hid (HZ.out.over hb); obtain ⟨m0, m1, m2⟩ := HZ2.out.melts; obtain ⟨u0, u1, u2⟩ := HZ2.out.cells; have HB2 := Lib.hid (HB.out.trans (hb.mono HB.out.size)); clear hb))
  exact bodyPost_ret (out_vl (HZ2.out.put3 v) _ _ 2 res_pmultiply rfl) rfl ⟨rfl, belowV3 HB2.out HLE.out v⟩
set_option maxRecDepth 100000 in
set_option maxHeartbeats 1600000 in
theorem reckon_quotient_a (a b : Vl) (h : isInt a = false) (w : World) : Calls Tryz.prog 80 #[.agg #[.int .i64 a.k, .int .i64 a.n, .string a.s, .int .i64 b.k, .int .i64 b.n, .string b.s], .func (.func 84) #[] #[]] w fun e w' => e = .returned (.agg #[.int .i64 (reckV divV a b).k, .int .i64 (reckV divV a b).n, .string (reckV divV a b).s]) ∧ Below w.heap.size w w' := by
  have hia := int_any a
  have hib := int_any b
  have hr : reckV divV a b = if isInt a = true then (if isInt b = true then divV (intV a) (intV b) else Vl.err 1) else Vl.err 1 := rfl
  rw [if_neg (by rw [h]; decide)] at hr
  rw [hr]
  rw [h] at hia
  have hc := fun (w : World) => fault_any 1 w
  generalize Vl.err 1 = v at hc ⊢
  have HC := Lib.hid hc
  clear hc
  have HIA := Lib.hid hia; have HIB := Lib.hid hib
  clear hia hib hr
  obtain ⟨k1, k2, k3⟩ := pr_open w a b
  have HP := Lib.hid k1; have HZ := Lib.hid k2; have HB := Lib.hid k3
  clear k1 k2 k3
  go_enter Tryz.func80, Tryz.ntmps80
  go_upto_region 1 with (fail)
  generalize hz : w.heap.size = q at HP HZ ⊢
  generalize ((w.alloc (.cells #[.int .i64 a.k, .int .i64 a.n, .string a.s, .int .i64 b.k, .int .i64 b.n, .string b.s] 87)).alloc (.cells #[.int .i64 0, .int .i64 0, .string ⟨#[]⟩] 28)) = w1 at HP HZ HB ⊢
  have HLE := Lib.hid (show w.heap.size ≤ q + 1 by omega)
  obtain ⟨c0, c1, c2, c3, c4, c5⟩ := HP.out.cells
  clear hz
  go_wp2_with (first
    | (go_at_call 44; ((with_reducible refine (HIA.out _).mono ?_); rintro e w2 ⟨rfl, hb⟩; have HP2 := Lib.hid (HP.out.over hb); have HZ2 := Lib.hid (HZ.out.over hb); obtain ⟨d0, d1, d2, d3, d4, d5⟩ := HP2.out.cells; have HB2 := Lib.hid (HB.out.trans (hb.mono HB.out.size)); obtain ⟨m0, m1, m2⟩ := HZ2.out.melts; obtain ⟨u0, u1, u2⟩ := HZ2.out.cells; clear hb))
    | (go_at_call 55; ((with_reducible refine (HC.out _).mono ?_); rintro e w3 ⟨rfl, hb⟩; have HZ3 := Lib.hid (HZ2.out.over hb); obtain ⟨m0, m1, m2⟩ := HZ3.out.melts; obtain ⟨u0, u1, u2⟩ := HZ3.out.cells; have HB3 := Lib.hid (HB2.out.trans (hb.mono HB2.out.size)); clear hb)))
  exact bodyPost_ret (out_vl (HZ3.out.put3 v) _ _ 4 res_reckon rfl) rfl ⟨rfl, belowV3 HB3.out HLE.out v⟩
set_option maxRecDepth 100000 in
set_option maxHeartbeats 1600000 in
theorem reckon_quotient_b (a b : Vl) (h : isInt a = true) (h2 : isInt b = false) (w : World) : Calls Tryz.prog 80 #[.agg #[.int .i64 a.k, .int .i64 a.n, .string a.s, .int .i64 b.k, .int .i64 b.n, .string b.s], .func (.func 84) #[] #[]] w fun e w' => e = .returned (.agg #[.int .i64 (reckV divV a b).k, .int .i64 (reckV divV a b).n, .string (reckV divV a b).s]) ∧ Below w.heap.size w w' := by
  have hia := int_any a
  have hib := int_any b
  have hr : reckV divV a b = if isInt a = true then (if isInt b = true then divV (intV a) (intV b) else Vl.err 1) else Vl.err 1 := rfl
  rw [if_pos h, if_neg (by rw [h2]; decide)] at hr
  rw [hr]
  rw [h] at hia
  rw [h2] at hib
  have hc := fun (w : World) => fault_any 1 w
  generalize Vl.err 1 = v at hc ⊢
  have HC := Lib.hid hc
  clear hc
  have HIA := Lib.hid hia; have HIB := Lib.hid hib
  clear hia hib hr
  obtain ⟨k1, k2, k3⟩ := pr_open w a b
  have HP := Lib.hid k1; have HZ := Lib.hid k2; have HB := Lib.hid k3
  clear k1 k2 k3
  go_enter Tryz.func80, Tryz.ntmps80
  go_upto_region 1 with (fail)
  generalize hz : w.heap.size = q at HP HZ ⊢
  generalize ((w.alloc (.cells #[.int .i64 a.k, .int .i64 a.n, .string a.s, .int .i64 b.k, .int .i64 b.n, .string b.s] 87)).alloc (.cells #[.int .i64 0, .int .i64 0, .string ⟨#[]⟩] 28)) = w1 at HP HZ HB ⊢
  have HLE := Lib.hid (show w.heap.size ≤ q + 1 by omega)
  obtain ⟨c0, c1, c2, c3, c4, c5⟩ := HP.out.cells
  clear hz
  go_wp2_with (first
    | (go_at_call 44; ((with_reducible refine (HIA.out _).mono ?_); rintro e w2 ⟨rfl, hb⟩; have HP2 := Lib.hid (HP.out.over hb); have HZ2 := Lib.hid (HZ.out.over hb); obtain ⟨d0, d1, d2, d3, d4, d5⟩ := HP2.out.cells; have HB2 := Lib.hid (HB.out.trans (hb.mono HB.out.size)); obtain ⟨m0, m1, m2⟩ := HZ2.out.melts; obtain ⟨u0, u1, u2⟩ := HZ2.out.cells; clear hb))
    | (go_at_call 44; ((with_reducible refine (HIB.out _).mono ?_); rintro e w3 ⟨rfl, hb⟩; have HP3 := Lib.hid (HP2.out.over hb); have HZ3 := Lib.hid (HZ2.out.over hb); obtain ⟨g0, g1, g2, g3, g4, g5⟩ := HP3.out.cells; have HB3 := Lib.hid (HB2.out.trans (hb.mono HB2.out.size)); obtain ⟨m0, m1, m2⟩ := HZ3.out.melts; obtain ⟨u0, u1, u2⟩ := HZ3.out.cells; clear hb))
    | (go_at_call 55; ((with_reducible refine (HC.out _).mono ?_); rintro e w4 ⟨rfl, hb⟩; have HZ4 := Lib.hid (HZ3.out.over hb); obtain ⟨m0, m1, m2⟩ := HZ4.out.melts; obtain ⟨u0, u1, u2⟩ := HZ4.out.cells; have HB4 := Lib.hid (HB3.out.trans (hb.mono HB3.out.size)); clear hb)))
  exact bodyPost_ret (out_vl (HZ4.out.put3 v) _ _ 4 res_reckon rfl) rfl ⟨rfl, belowV3 HB4.out HLE.out v⟩
set_option maxRecDepth 100000 in
set_option maxHeartbeats 1600000 in
theorem reckon_quotient_c (a b : Vl) (h : isInt a = true) (h2 : isInt b = true) (ha : VOk a) (w : World) : Calls Tryz.prog 80 #[.agg #[.int .i64 a.k, .int .i64 a.n, .string a.s, .int .i64 b.k, .int .i64 b.n, .string b.s], .func (.func 84) #[] #[]] w fun e w' => e = .returned (.agg #[.int .i64 (reckV divV a b).k, .int .i64 (reckV divV a b).n, .string (reckV divV a b).s]) ∧ Below w.heap.size w w' := by
  have hia := int_any a
  have hib := int_any b
  have hr : reckV divV a b = if isInt a = true then (if isInt b = true then divV (intV a) (intV b) else Vl.err 1) else Vl.err 1 := rfl
  rw [if_pos h, if_pos h2] at hr
  rw [hr]
  rw [h] at hia
  rw [h2] at hib
  have hc := fun (w : World) => quotient_any (intV a) (intV b) ha.int.1 ha.int.2 w
  generalize divV (intV a) (intV b) = v at hc ⊢
  generalize intV a = x at hc hia
  generalize intV b = y at hc hib
  have HC := Lib.hid hc
  clear hc ha
  have HIA := Lib.hid hia; have HIB := Lib.hid hib
  clear hia hib hr
  obtain ⟨k1, k2, k3⟩ := pr_open w a b
  have HP := Lib.hid k1; have HZ := Lib.hid k2; have HB := Lib.hid k3
  clear k1 k2 k3
  go_enter Tryz.func80, Tryz.ntmps80
  go_upto_region 1 with (fail)
  generalize hz : w.heap.size = q at HP HZ ⊢
  generalize ((w.alloc (.cells #[.int .i64 a.k, .int .i64 a.n, .string a.s, .int .i64 b.k, .int .i64 b.n, .string b.s] 87)).alloc (.cells #[.int .i64 0, .int .i64 0, .string ⟨#[]⟩] 28)) = w1 at HP HZ HB ⊢
  have HLE := Lib.hid (show w.heap.size ≤ q + 1 by omega)
  obtain ⟨c0, c1, c2, c3, c4, c5⟩ := HP.out.cells
  clear hz
  go_wp2_with (first
    | (go_at_call 44; ((with_reducible refine (HIA.out _).mono ?_); rintro e w2 ⟨rfl, hb⟩; have HP2 := Lib.hid (HP.out.over hb); have HZ2 := Lib.hid (HZ.out.over hb); obtain ⟨d0, d1, d2, d3, d4, d5⟩ := HP2.out.cells; have HB2 := Lib.hid (HB.out.trans (hb.mono HB.out.size)); obtain ⟨m0, m1, m2⟩ := HZ2.out.melts; obtain ⟨u0, u1, u2⟩ := HZ2.out.cells; clear hb))
    | (go_at_call 44; ((with_reducible refine (HIB.out _).mono ?_); rintro e w3 ⟨rfl, hb⟩; have HP3 := Lib.hid (HP2.out.over hb); have HZ3 := Lib.hid (HZ2.out.over hb); obtain ⟨g0, g1, g2, g3, g4, g5⟩ := HP3.out.cells; have HB3 := Lib.hid (HB2.out.trans (hb.mono HB2.out.size)); obtain ⟨m0, m1, m2⟩ := HZ3.out.melts; obtain ⟨u0, u1, u2⟩ := HZ3.out.cells; clear hb))
    | (go_at_call 84; ((with_reducible refine (HC.out _).mono ?_); rintro e w4 ⟨rfl, hb⟩; have HZ4 := Lib.hid (HZ3.out.over hb); obtain ⟨m0, m1, m2⟩ := HZ4.out.melts; obtain ⟨u0, u1, u2⟩ := HZ4.out.cells; have HB4 := Lib.hid (HB3.out.trans (hb.mono HB3.out.size)); clear hb)))
  exact bodyPost_ret (out_vl (HZ4.out.put3 v) _ _ 4 res_reckon rfl) rfl ⟨rfl, belowV3 HB4.out HLE.out v⟩
theorem reckon_quotient (a b : Vl) (ha : VOk a) (w : World) : Calls Tryz.prog 80 #[.agg #[.int .i64 a.k, .int .i64 a.n, .string a.s, .int .i64 b.k, .int .i64 b.n, .string b.s], .func (.func 84) #[] #[]] w fun e w' => e = .returned (.agg #[.int .i64 (reckV divV a b).k, .int .i64 (reckV divV a b).n, .string (reckV divV a b).s]) ∧ Below w.heap.size w w' := by
  by_cases h : isInt a = true
  · by_cases h2 : isInt b = true
    · exact reckon_quotient_c a b h h2 ha w
    · exact reckon_quotient_b a b h (by simpa using h2) w
  · exact reckon_quotient_a a b (by simpa using h) w
theorem res_pdivide : Tryz.f72.results = #[.cell 2 28] := by kernel_rfl
set_option maxRecDepth 100000 in
set_option maxHeartbeats 1600000 in
theorem pdivide_any (a b : Vl) (ha : VOk a) (w : World) : Calls Tryz.prog 72 #[.agg #[.int .i64 a.k, .int .i64 a.n, .string a.s, .int .i64 b.k, .int .i64 b.n, .string b.s]] w fun e w' => e = .returned (.agg #[.int .i64 (reckV divV a b).k, .int .i64 (reckV divV a b).n, .string (reckV divV a b).s]) ∧ Below w.heap.size w w' := by
  have hc := fun (w : World) => reckon_quotient a b ha w
  generalize reckV divV a b = v at hc ⊢
  have HC := Lib.hid hc
  clear hc ha
  obtain ⟨k1, k2, k3⟩ := pr_open w a b
  have HP := Lib.hid k1; have HZ := Lib.hid k2; have HB := Lib.hid k3
  clear k1 k2 k3
  go_enter Tryz.func72, Tryz.ntmps72
  go_upto_region 1 with (fail)
  generalize hz : w.heap.size = q at HP HZ ⊢
  generalize ((w.alloc (.cells #[.int .i64 a.k, .int .i64 a.n, .string a.s, .int .i64 b.k, .int .i64 b.n, .string b.s] 87)).alloc (.cells #[.int .i64 0, .int .i64 0, .string ⟨#[]⟩] 28)) = w1 at HP HZ HB ⊢
  have HLE := Lib.hid (show w.heap.size ≤ q + 1 by omega)
  obtain ⟨c0, c1, c2, c3, c4, c5⟩ := HP.out.cells
  clear hz
  go_wp2_with (go_at_call 80; ((with_reducible refine (HC.out _).mono ?_); rintro e w2 ⟨rfl, hb⟩; have HZ2 := Lib.hid (HZ.out.over hb); obtain ⟨m0, m1, m2⟩ := HZ2.out.melts; obtain ⟨u0, u1, u2⟩ := HZ2.out.cells; have HB2 := Lib.hid (HB.out.trans (hb.mono HB.out.size)); clear hb))
  exact bodyPost_ret (out_vl (HZ2.out.put3 v) _ _ 2 res_pdivide rfl) rfl ⟨rfl, belowV3 HB2.out HLE.out v⟩
end Go.Proofs.YtolhmemiknpeaaaGreatDoor
