/-
  Layer 7, the program: Two, Neg.
-/
import Derived.Test.YtolhmemiknpeaaaGreatDoorVaF
namespace Go.Proofs.YtolhmemiknpeaaaGreatDoor
open Go.RowKit

theorem res_two : Tryz.f35.results = #[.cell 6 28] := by kernel_rfl
theorem res_neg : Tryz.f45.results = #[.cell 2 28] := by kernel_rfl
set_option maxRecDepth 100000 in
set_option maxHeartbeats 1600000 in
theorem two_a (kind : Int) (a b : Vl) (ha4 : a.k = 4) (w : World) : Calls Tryz.prog 35 #[.int .i64 kind, .agg #[.int .i64 a.k, .int .i64 a.n, .string a.s], .agg #[.int .i64 b.k, .int .i64 b.n, .string b.s]] w fun e w' => e = .returned (.agg #[.int .i64 a.k, .int .i64 a.n, .string a.s]) ∧ Below w.heap.size w w' := by
  have hea := isError_any a
  rw [decide_eq_true ha4] at hea
  have HEA := Lib.hid hea
  clear hea ha4
  obtain ⟨k1, k2, k3, k4⟩ := vl_open2 w a b
  have HA := Lib.hid k1; have HO := Lib.hid k2; have HZ := Lib.hid k3; have HB := Lib.hid k4
  clear k1 k2 k3 k4
  go_enter Tryz.func35, Tryz.ntmps35
  go_upto_region 1 with (fail)
  generalize hz : w.heap.size = q at HA HO HZ ⊢
  generalize (((w.alloc (.cells #[.int .i64 a.k, .int .i64 a.n, .string a.s] 28)).alloc (.cells #[.int .i64 b.k, .int .i64 b.n, .string b.s] 28)).alloc (.cells #[.int .i64 0, .int .i64 0, .string ⟨#[]⟩] 28)) = w1 at HA HO HZ HB ⊢
  have HA1 := HA; have HO1 := HO; have HZ1 := HZ; have HB1 := HB
  have HLE := Lib.hid (show w.heap.size ≤ q + 2 by omega)
  obtain ⟨a0, a1, a2⟩ := HA.out.cells
  obtain ⟨o0, o1, o2⟩ := HO.out.cells
  obtain ⟨m0, m1, m2⟩ := HZ.out.melts
  obtain ⟨u0, u1, u2⟩ := HZ.out.cells
  clear hz
  go_wp2_with (first
    | (go_at_call 53; ((with_reducible refine (HEA.out _).mono ?_); rintro e w2 ⟨rfl, hb⟩; have HA2 := Lib.hid (HA1.out.over hb); have HO2 := Lib.hid (HO1.out.over hb); have HZ2 := Lib.hid (HZ1.out.over hb); have HB2 := Lib.hid (HB1.out.trans (hb.mono HB1.out.size)); obtain ⟨d0, d1, d2⟩ := HA2.out.cells; obtain ⟨d3, d4, d5⟩ := HO2.out.cells; obtain ⟨m0, m1, m2⟩ := HZ2.out.melts; obtain ⟨u0, u1, u2⟩ := HZ2.out.cells; clear hb)))
  exact bodyPost_ret (out_vl (HZ2.out.put3 a) _ _ 6 res_two rfl) rfl ⟨rfl, belowV3 HB2.out HLE.out a⟩
set_option maxRecDepth 100000 in
set_option maxHeartbeats 1600000 in
theorem two_b (kind : Int) (a b : Vl) (ha4 : ¬ a.k = 4) (hb4 : b.k = 4) (w : World) : Calls Tryz.prog 35 #[.int .i64 kind, .agg #[.int .i64 a.k, .int .i64 a.n, .string a.s], .agg #[.int .i64 b.k, .int .i64 b.n, .string b.s]] w fun e w' => e = .returned (.agg #[.int .i64 b.k, .int .i64 b.n, .string b.s]) ∧ Below w.heap.size w w' := by
  have hea := isError_any a
  rw [decide_eq_false ha4] at hea
  have HEA := Lib.hid hea
  clear hea ha4
  have heb := isError_any b
  rw [decide_eq_true hb4] at heb
  have HEB := Lib.hid heb
  clear heb hb4
  obtain ⟨k1, k2, k3, k4⟩ := vl_open2 w a b
  have HA := Lib.hid k1; have HO := Lib.hid k2; have HZ := Lib.hid k3; have HB := Lib.hid k4
  clear k1 k2 k3 k4
  go_enter Tryz.func35, Tryz.ntmps35
  go_upto_region 1 with (fail)
  generalize hz : w.heap.size = q at HA HO HZ ⊢
  generalize (((w.alloc (.cells #[.int .i64 a.k, .int .i64 a.n, .string a.s] 28)).alloc (.cells #[.int .i64 b.k, .int .i64 b.n, .string b.s] 28)).alloc (.cells #[.int .i64 0, .int .i64 0, .string ⟨#[]⟩] 28)) = w1 at HA HO HZ HB ⊢
  have HA1 := HA; have HO1 := HO; have HZ1 := HZ; have HB1 := HB
  have HLE := Lib.hid (show w.heap.size ≤ q + 2 by omega)
  obtain ⟨a0, a1, a2⟩ := HA.out.cells
  obtain ⟨o0, o1, o2⟩ := HO.out.cells
  obtain ⟨m0, m1, m2⟩ := HZ.out.melts
  obtain ⟨u0, u1, u2⟩ := HZ.out.cells
  clear hz
  go_wp2_with (first
    | (go_at_call 53; ((with_reducible refine (HEA.out _).mono ?_); rintro e w2 ⟨rfl, hb⟩; have HA2 := Lib.hid (HA1.out.over hb); have HO2 := Lib.hid (HO1.out.over hb); have HZ2 := Lib.hid (HZ1.out.over hb); have HB2 := Lib.hid (HB1.out.trans (hb.mono HB1.out.size)); obtain ⟨d0, d1, d2⟩ := HA2.out.cells; obtain ⟨d3, d4, d5⟩ := HO2.out.cells; obtain ⟨m0, m1, m2⟩ := HZ2.out.melts; obtain ⟨u0, u1, u2⟩ := HZ2.out.cells; clear hb))
    | (go_at_call 53; ((with_reducible refine (HEB.out _).mono ?_); rintro e w3 ⟨rfl, hb⟩; have HA3 := Lib.hid (HA2.out.over hb); have HO3 := Lib.hid (HO2.out.over hb); have HZ3 := Lib.hid (HZ2.out.over hb); have HB3 := Lib.hid (HB2.out.trans (hb.mono HB2.out.size)); obtain ⟨g0, g1, g2⟩ := HA3.out.cells; obtain ⟨g3, g4, g5⟩ := HO3.out.cells; obtain ⟨m0, m1, m2⟩ := HZ3.out.melts; obtain ⟨u0, u1, u2⟩ := HZ3.out.cells; clear hb)))
  exact bodyPost_ret (out_vl (HZ3.out.put3 b) _ _ 6 res_two rfl) rfl ⟨rfl, belowV3 HB3.out HLE.out b⟩
set_option maxRecDepth 100000 in
set_option maxHeartbeats 1600000 in
theorem two_c (kind : Int) (a b : Vl) (ha4 : ¬ a.k = 4) (hb4 : ¬ b.k = 4) (hk : kind < 9 ∨ 20 ≤ kind) (w : World) : Calls Tryz.prog 35 #[.int .i64 kind, .agg #[.int .i64 a.k, .int .i64 a.n, .string a.s], .agg #[.int .i64 b.k, .int .i64 b.n, .string b.s]] w fun e w' => e = .returned (.agg #[.int .i64 (Vl.err 1).k, .int .i64 (Vl.err 1).n, .string (Vl.err 1).s]) ∧ Below w.heap.size w w' := by
  have hea := isError_any a
  rw [decide_eq_false ha4] at hea
  have HEA := Lib.hid hea
  clear hea ha4
  have heb := isError_any b
  rw [decide_eq_false hb4] at heb
  have HEB := Lib.hid heb
  clear heb hb4
  have HOP := Lib.hid (operator_out kind hk)
  clear hk
  have hc := fun (w : World) => fault_any 1 w
  have HC := Lib.hid hc
  clear hc
  obtain ⟨k1, k2, k3, k4⟩ := vl_open2 w a b
  have HA := Lib.hid k1; have HO := Lib.hid k2; have HZ := Lib.hid k3; have HB := Lib.hid k4
  clear k1 k2 k3 k4
  go_enter Tryz.func35, Tryz.ntmps35
  go_upto_region 1 with (fail)
  generalize hz : w.heap.size = q at HA HO HZ ⊢
  generalize (((w.alloc (.cells #[.int .i64 a.k, .int .i64 a.n, .string a.s] 28)).alloc (.cells #[.int .i64 b.k, .int .i64 b.n, .string b.s] 28)).alloc (.cells #[.int .i64 0, .int .i64 0, .string ⟨#[]⟩] 28)) = w1 at HA HO HZ HB ⊢
  have HA1 := HA; have HO1 := HO; have HZ1 := HZ; have HB1 := HB
  have HLE := Lib.hid (show w.heap.size ≤ q + 2 by omega)
  obtain ⟨a0, a1, a2⟩ := HA.out.cells
  obtain ⟨o0, o1, o2⟩ := HO.out.cells
  obtain ⟨m0, m1, m2⟩ := HZ.out.melts
  obtain ⟨u0, u1, u2⟩ := HZ.out.cells
  clear hz
  go_wp2_with (first
    | (go_at_call 53; ((with_reducible refine (HEA.out _).mono ?_); rintro e w2 ⟨rfl, hb⟩; have HA2 := Lib.hid (HA1.out.over hb); have HO2 := Lib.hid (HO1.out.over hb); have HZ2 := Lib.hid (HZ1.out.over hb); have HB2 := Lib.hid (HB1.out.trans (hb.mono HB1.out.size)); obtain ⟨d0, d1, d2⟩ := HA2.out.cells; obtain ⟨d3, d4, d5⟩ := HO2.out.cells; obtain ⟨m0, m1, m2⟩ := HZ2.out.melts; obtain ⟨u0, u1, u2⟩ := HZ2.out.cells; clear hb))
    | (go_at_call 53; ((with_reducible refine (HEB.out _).mono ?_); rintro e w3 ⟨rfl, hb⟩; have HA3 := Lib.hid (HA2.out.over hb); have HO3 := Lib.hid (HO2.out.over hb); have HZ3 := Lib.hid (HZ2.out.over hb); have HB3 := Lib.hid (HB2.out.trans (hb.mono HB2.out.size)); obtain ⟨g0, g1, g2⟩ := HA3.out.cells; obtain ⟨g3, g4, g5⟩ := HO3.out.cells; obtain ⟨m0, m1, m2⟩ := HZ3.out.melts; obtain ⟨u0, u1, u2⟩ := HZ3.out.cells; clear hb))
    | (go_at_call 54; ((with_reducible refine (HOP.out _).mono ?_); rintro e w4 ⟨rfl, hb⟩; have HA4 := Lib.hid (HA3.out.over hb); have HO4 := Lib.hid (HO3.out.over hb); have HZ4 := Lib.hid (HZ3.out.over hb); have HB4 := Lib.hid (HB3.out.trans (hb.mono HB3.out.size)); obtain ⟨i0, i1, i2⟩ := HA4.out.cells; obtain ⟨i3, i4, i5⟩ := HO4.out.cells; clear hb))
    | (go_at_call 55; ((with_reducible refine (HC.out _).mono ?_); rintro e w5 ⟨rfl, hb⟩; have HZ5 := Lib.hid (HZ4.out.over hb); obtain ⟨m0, m1, m2⟩ := HZ5.out.melts; obtain ⟨u0, u1, u2⟩ := HZ5.out.cells; have HB5 := Lib.hid (HB4.out.trans (hb.mono HB4.out.size)); clear hb)))
  exact bodyPost_ret (out_vl (HZ5.out.put3 (Vl.err 1)) _ _ 6 res_two rfl) rfl ⟨rfl, belowV3 HB5.out HLE.out (Vl.err 1)⟩
set_option maxRecDepth 100000 in
set_option maxHeartbeats 1600000 in
theorem two_9 (a b : Vl) (ha4 : ¬ a.k = 4) (hb4 : ¬ b.k = 4) (w : World) : Calls Tryz.prog 35 #[.int .i64 9, .agg #[.int .i64 a.k, .int .i64 a.n, .string a.s], .agg #[.int .i64 b.k, .int .i64 b.n, .string b.s]] w fun e w' => e = .returned (.agg #[.int .i64 (Vl.truth (decide (cmpV a b = 0))).k, .int .i64 (Vl.truth (decide (cmpV a b = 0))).n, .string (Vl.truth (decide (cmpV a b = 0))).s]) ∧ Below w.heap.size w w' := by
  have hea := isError_any a
  rw [decide_eq_false ha4] at hea
  have HEA := Lib.hid hea
  clear hea ha4
  have heb := isError_any b
  rw [decide_eq_false hb4] at heb
  have HEB := Lib.hid heb
  clear heb hb4
  have hop : ∀ w : World, Calls Tryz.prog 54 #[.int .i64 9] w _ := operator_in 9 (by omega) (by omega) 62 rfl
  have HOP := Lib.hid hop
  have hc := fun (w : World) => pequal_any a b w
  generalize Vl.truth (decide (cmpV a b = 0)) = v at hc ⊢
  have HC := Lib.hid hc
  clear hc hop
  obtain ⟨k1, k2, k3, k4⟩ := vl_open2 w a b
  have HA := Lib.hid k1; have HO := Lib.hid k2; have HZ := Lib.hid k3; have HB := Lib.hid k4
  clear k1 k2 k3 k4
  go_enter Tryz.func35, Tryz.ntmps35
  go_upto_region 1 with (fail)
  generalize hz : w.heap.size = q at HA HO HZ ⊢
  generalize (((w.alloc (.cells #[.int .i64 a.k, .int .i64 a.n, .string a.s] 28)).alloc (.cells #[.int .i64 b.k, .int .i64 b.n, .string b.s] 28)).alloc (.cells #[.int .i64 0, .int .i64 0, .string ⟨#[]⟩] 28)) = w1 at HA HO HZ HB ⊢
  have HA1 := HA; have HO1 := HO; have HZ1 := HZ; have HB1 := HB
  have HLE := Lib.hid (show w.heap.size ≤ q + 2 by omega)
  obtain ⟨a0, a1, a2⟩ := HA.out.cells
  obtain ⟨o0, o1, o2⟩ := HO.out.cells
  obtain ⟨m0, m1, m2⟩ := HZ.out.melts
  obtain ⟨u0, u1, u2⟩ := HZ.out.cells
  clear hz
  go_wp2_with (first
    | (go_at_call 53; ((with_reducible refine (HEA.out _).mono ?_); rintro e w2 ⟨rfl, hb⟩; have HA2 := Lib.hid (HA1.out.over hb); have HO2 := Lib.hid (HO1.out.over hb); have HZ2 := Lib.hid (HZ1.out.over hb); have HB2 := Lib.hid (HB1.out.trans (hb.mono HB1.out.size)); obtain ⟨d0, d1, d2⟩ := HA2.out.cells; obtain ⟨d3, d4, d5⟩ := HO2.out.cells; obtain ⟨m0, m1, m2⟩ := HZ2.out.melts; obtain ⟨u0, u1, u2⟩ := HZ2.out.cells; clear hb))
    | (go_at_call 53; ((with_reducible refine (HEB.out _).mono ?_); rintro e w3 ⟨rfl, hb⟩; have HA3 := Lib.hid (HA2.out.over hb); have HO3 := Lib.hid (HO2.out.over hb); have HZ3 := Lib.hid (HZ2.out.over hb); have HB3 := Lib.hid (HB2.out.trans (hb.mono HB2.out.size)); obtain ⟨g0, g1, g2⟩ := HA3.out.cells; obtain ⟨g3, g4, g5⟩ := HO3.out.cells; obtain ⟨m0, m1, m2⟩ := HZ3.out.melts; obtain ⟨u0, u1, u2⟩ := HZ3.out.cells; clear hb))
    | (go_at_call 54; ((with_reducible refine (HOP.out _).mono ?_); rintro e w4 ⟨rfl, hb⟩; have HA4 := Lib.hid (HA3.out.over hb); have HO4 := Lib.hid (HO3.out.over hb); have HZ4 := Lib.hid (HZ3.out.over hb); have HB4 := Lib.hid (HB3.out.trans (hb.mono HB3.out.size)); obtain ⟨i0, i1, i2⟩ := HA4.out.cells; obtain ⟨i3, i4, i5⟩ := HO4.out.cells; clear hb))
    | (go_at_call 62; ((with_reducible refine (HC.out _).mono ?_); rintro e w5 ⟨rfl, hb⟩; have HZ5 := Lib.hid (HZ4.out.over hb); obtain ⟨m0, m1, m2⟩ := HZ5.out.melts; obtain ⟨u0, u1, u2⟩ := HZ5.out.cells; have HB5 := Lib.hid (HB4.out.trans (hb.mono HB4.out.size)); clear hb)))
  exact bodyPost_ret (out_vl (HZ5.out.put3 v) _ _ 6 res_two rfl) rfl ⟨rfl, belowV3 HB5.out HLE.out v⟩
set_option maxRecDepth 100000 in
set_option maxHeartbeats 1600000 in
theorem two_10 (a b : Vl) (ha4 : ¬ a.k = 4) (hb4 : ¬ b.k = 4) (w : World) : Calls Tryz.prog 35 #[.int .i64 10, .agg #[.int .i64 a.k, .int .i64 a.n, .string a.s], .agg #[.int .i64 b.k, .int .i64 b.n, .string b.s]] w fun e w' => e = .returned (.agg #[.int .i64 (Vl.truth (decide (¬ cmpV a b = 0))).k, .int .i64 (Vl.truth (decide (¬ cmpV a b = 0))).n, .string (Vl.truth (decide (¬ cmpV a b = 0))).s]) ∧ Below w.heap.size w w' := by
  have hea := isError_any a
  rw [decide_eq_false ha4] at hea
  have HEA := Lib.hid hea
  clear hea ha4
  have heb := isError_any b
  rw [decide_eq_false hb4] at heb
  have HEB := Lib.hid heb
  clear heb hb4
  have hop : ∀ w : World, Calls Tryz.prog 54 #[.int .i64 10] w _ := operator_in 10 (by omega) (by omega) 63 rfl
  have HOP := Lib.hid hop
  have hc := fun (w : World) => punequal_any a b w
  generalize Vl.truth (decide (¬ cmpV a b = 0)) = v at hc ⊢
  have HC := Lib.hid hc
  clear hc hop
  obtain ⟨k1, k2, k3, k4⟩ := vl_open2 w a b
  have HA := Lib.hid k1; have HO := Lib.hid k2; have HZ := Lib.hid k3; have HB := Lib.hid k4
  clear k1 k2 k3 k4
  go_enter Tryz.func35, Tryz.ntmps35
  go_upto_region 1 with (fail)
  generalize hz : w.heap.size = q at HA HO HZ ⊢
  generalize (((w.alloc (.cells #[.int .i64 a.k, .int .i64 a.n, .string a.s] 28)).alloc (.cells #[.int .i64 b.k, .int .i64 b.n, .string b.s] 28)).alloc (.cells #[.int .i64 0, .int .i64 0, .string ⟨#[]⟩] 28)) = w1 at HA HO HZ HB ⊢
  have HA1 := HA; have HO1 := HO; have HZ1 := HZ; have HB1 := HB
  have HLE := Lib.hid (show w.heap.size ≤ q + 2 by omega)
  obtain ⟨a0, a1, a2⟩ := HA.out.cells
  obtain ⟨o0, o1, o2⟩ := HO.out.cells
  obtain ⟨m0, m1, m2⟩ := HZ.out.melts
  obtain ⟨u0, u1, u2⟩ := HZ.out.cells
  clear hz
  go_wp2_with (first
    | (go_at_call 53; ((with_reducible refine (HEA.out _).mono ?_); rintro e w2 ⟨rfl, hb⟩; have HA2 := Lib.hid (HA1.out.over hb); have HO2 := Lib.hid (HO1.out.over hb); have HZ2 := Lib.hid (HZ1.out.over hb); have HB2 := Lib.hid (HB1.out.trans (hb.mono HB1.out.size)); obtain ⟨d0, d1, d2⟩ := HA2.out.cells; obtain ⟨d3, d4, d5⟩ := HO2.out.cells; obtain ⟨m0, m1, m2⟩ := HZ2.out.melts; obtain ⟨u0, u1, u2⟩ := HZ2.out.cells; clear hb))
    | (go_at_call 53; ((with_reducible refine (HEB.out _).mono ?_); rintro e w3 ⟨rfl, hb⟩; have HA3 := Lib.hid (HA2.out.over hb); have HO3 := Lib.hid (HO2.out.over hb); have HZ3 := Lib.hid (HZ2.out.over hb); have HB3 := Lib.hid (HB2.out.trans (hb.mono HB2.out.size)); obtain ⟨g0, g1, g2⟩ := HA3.out.cells; obtain ⟨g3, g4, g5⟩ := HO3.out.cells; obtain ⟨m0, m1, m2⟩ := HZ3.out.melts; obtain ⟨u0, u1, u2⟩ := HZ3.out.cells; clear hb))
    | (go_at_call 54; ((with_reducible refine (HOP.out _).mono ?_); rintro e w4 ⟨rfl, hb⟩; have HA4 := Lib.hid (HA3.out.over hb); have HO4 := Lib.hid (HO3.out.over hb); have HZ4 := Lib.hid (HZ3.out.over hb); have HB4 := Lib.hid (HB3.out.trans (hb.mono HB3.out.size)); obtain ⟨i0, i1, i2⟩ := HA4.out.cells; obtain ⟨i3, i4, i5⟩ := HO4.out.cells; clear hb))
    | (go_at_call 63; ((with_reducible refine (HC.out _).mono ?_); rintro e w5 ⟨rfl, hb⟩; have HZ5 := Lib.hid (HZ4.out.over hb); obtain ⟨m0, m1, m2⟩ := HZ5.out.melts; obtain ⟨u0, u1, u2⟩ := HZ5.out.cells; have HB5 := Lib.hid (HB4.out.trans (hb.mono HB4.out.size)); clear hb)))
  exact bodyPost_ret (out_vl (HZ5.out.put3 v) _ _ 6 res_two rfl) rfl ⟨rfl, belowV3 HB5.out HLE.out v⟩
set_option maxRecDepth 100000 in
set_option maxHeartbeats 1600000 in
theorem two_11 (a b : Vl) (ha4 : ¬ a.k = 4) (hb4 : ¬ b.k = 4) (w : World) : Calls Tryz.prog 35 #[.int .i64 11, .agg #[.int .i64 a.k, .int .i64 a.n, .string a.s], .agg #[.int .i64 b.k, .int .i64 b.n, .string b.s]] w fun e w' => e = .returned (.agg #[.int .i64 (Vl.truth (decide (cmpV a b < 0))).k, .int .i64 (Vl.truth (decide (cmpV a b < 0))).n, .string (Vl.truth (decide (cmpV a b < 0))).s]) ∧ Below w.heap.size w w' := by
  have hea := isError_any a
  rw [decide_eq_false ha4] at hea
  have HEA := Lib.hid hea
  clear hea ha4
  have heb := isError_any b
  rw [decide_eq_false hb4] at heb
  have HEB := Lib.hid heb
  clear heb hb4
  have hop : ∀ w : World, Calls Tryz.prog 54 #[.int .i64 11] w _ := operator_in 11 (by omega) (by omega) 64 rfl
  have HOP := Lib.hid hop
  have hc := fun (w : World) => pbelow_any a b w
  generalize Vl.truth (decide (cmpV a b < 0)) = v at hc ⊢
  have HC := Lib.hid hc
  clear hc hop
  obtain ⟨k1, k2, k3, k4⟩ := vl_open2 w a b
  have HA := Lib.hid k1; have HO := Lib.hid k2; have HZ := Lib.hid k3; have HB := Lib.hid k4
  clear k1 k2 k3 k4
  go_enter Tryz.func35, Tryz.ntmps35
  go_upto_region 1 with (fail)
  generalize hz : w.heap.size = q at HA HO HZ ⊢
  generalize (((w.alloc (.cells #[.int .i64 a.k, .int .i64 a.n, .string a.s] 28)).alloc (.cells #[.int .i64 b.k, .int .i64 b.n, .string b.s] 28)).alloc (.cells #[.int .i64 0, .int .i64 0, .string ⟨#[]⟩] 28)) = w1 at HA HO HZ HB ⊢
  have HA1 := HA; have HO1 := HO; have HZ1 := HZ; have HB1 := HB
  have HLE := Lib.hid (show w.heap.size ≤ q + 2 by omega)
  obtain ⟨a0, a1, a2⟩ := HA.out.cells
  obtain ⟨o0, o1, o2⟩ := HO.out.cells
  obtain ⟨m0, m1, m2⟩ := HZ.out.melts
  obtain ⟨u0, u1, u2⟩ := HZ.out.cells
  clear hz
  go_wp2_with (first
    | (go_at_call 53; ((with_reducible refine (HEA.out _).mono ?_); rintro e w2 ⟨rfl, hb⟩; have HA2 := Lib.hid (HA1.out.over hb); have HO2 := Lib.hid (HO1.out.over hb); have HZ2 := Lib.hid (HZ1.out.over hb); have HB2 := Lib.hid (HB1.out.trans (hb.mono HB1.out.size)); obtain ⟨d0, d1, d2⟩ := HA2.out.cells; obtain ⟨d3, d4, d5⟩ := HO2.out.cells; obtain ⟨m0, m1, m2⟩ := HZ2.out.melts; obtain ⟨u0, u1, u2⟩ := HZ2.out.cells; clear hb))
    | (go_at_call 53; ((with_reducible refine (HEB.out _).mono ?_); rintro e w3 ⟨rfl, hb⟩; have HA3 := Lib.hid (HA2.out.over hb); have HO3 := Lib.hid (HO2.out.over hb); have HZ3 := Lib.hid (HZ2.out.over hb); have HB3 := Lib.hid (HB2.out.trans (hb.mono HB2.out.size)); obtain ⟨g0, g1, g2⟩ := HA3.out.cells; obtain ⟨g3, g4, g5⟩ := HO3.out.cells; obtain ⟨m0, m1, m2⟩ := HZ3.out.melts; obtain ⟨u0, u1, u2⟩ := HZ3.out.cells; clear hb))
    | (go_at_call 54; ((with_reducible refine (HOP.out _).mono ?_); rintro e w4 ⟨rfl, hb⟩; have HA4 := Lib.hid (HA3.out.over hb); have HO4 := Lib.hid (HO3.out.over hb); have HZ4 := Lib.hid (HZ3.out.over hb); have HB4 := Lib.hid (HB3.out.trans (hb.mono HB3.out.size)); obtain ⟨i0, i1, i2⟩ := HA4.out.cells; obtain ⟨i3, i4, i5⟩ := HO4.out.cells; clear hb))
    | (go_at_call 64; ((with_reducible refine (HC.out _).mono ?_); rintro e w5 ⟨rfl, hb⟩; have HZ5 := Lib.hid (HZ4.out.over hb); obtain ⟨m0, m1, m2⟩ := HZ5.out.melts; obtain ⟨u0, u1, u2⟩ := HZ5.out.cells; have HB5 := Lib.hid (HB4.out.trans (hb.mono HB4.out.size)); clear hb)))
  exact bodyPost_ret (out_vl (HZ5.out.put3 v) _ _ 6 res_two rfl) rfl ⟨rfl, belowV3 HB5.out HLE.out v⟩
set_option maxRecDepth 100000 in
set_option maxHeartbeats 1600000 in
theorem two_12 (a b : Vl) (ha4 : ¬ a.k = 4) (hb4 : ¬ b.k = 4) (w : World) : Calls Tryz.prog 35 #[.int .i64 12, .agg #[.int .i64 a.k, .int .i64 a.n, .string a.s], .agg #[.int .i64 b.k, .int .i64 b.n, .string b.s]] w fun e w' => e = .returned (.agg #[.int .i64 (Vl.truth (decide (cmpV a b ≤ 0))).k, .int .i64 (Vl.truth (decide (cmpV a b ≤ 0))).n, .string (Vl.truth (decide (cmpV a b ≤ 0))).s]) ∧ Below w.heap.size w w' := by
  have hea := isError_any a
  rw [decide_eq_false ha4] at hea
  have HEA := Lib.hid hea
  clear hea ha4
  have heb := isError_any b
  rw [decide_eq_false hb4] at heb
  have HEB := Lib.hid heb
  clear heb hb4
  have hop : ∀ w : World, Calls Tryz.prog 54 #[.int .i64 12] w _ := operator_in 12 (by omega) (by omega) 65 rfl
  have HOP := Lib.hid hop
  have hc := fun (w : World) => pnotAbove_any a b w
  generalize Vl.truth (decide (cmpV a b ≤ 0)) = v at hc ⊢
  have HC := Lib.hid hc
  clear hc hop
  obtain ⟨k1, k2, k3, k4⟩ := vl_open2 w a b
  have HA := Lib.hid k1; have HO := Lib.hid k2; have HZ := Lib.hid k3; have HB := Lib.hid k4
  clear k1 k2 k3 k4
  go_enter Tryz.func35, Tryz.ntmps35
  go_upto_region 1 with (fail)
  generalize hz : w.heap.size = q at HA HO HZ ⊢
  generalize (((w.alloc (.cells #[.int .i64 a.k, .int .i64 a.n, .string a.s] 28)).alloc (.cells #[.int .i64 b.k, .int .i64 b.n, .string b.s] 28)).alloc (.cells #[.int .i64 0, .int .i64 0, .string ⟨#[]⟩] 28)) = w1 at HA HO HZ HB ⊢
  have HA1 := HA; have HO1 := HO; have HZ1 := HZ; have HB1 := HB
  have HLE := Lib.hid (show w.heap.size ≤ q + 2 by omega)
  obtain ⟨a0, a1, a2⟩ := HA.out.cells
  obtain ⟨o0, o1, o2⟩ := HO.out.cells
  obtain ⟨m0, m1, m2⟩ := HZ.out.melts
  obtain ⟨u0, u1, u2⟩ := HZ.out.cells
  clear hz
  go_wp2_with (first
    | (go_at_call 53; ((with_reducible refine (HEA.out _).mono ?_); rintro e w2 ⟨rfl, hb⟩; have HA2 := Lib.hid (HA1.out.over hb); have HO2 := Lib.hid (HO1.out.over hb); have HZ2 := Lib.hid (HZ1.out.over hb); have HB2 := Lib.hid (HB1.out.trans (hb.mono HB1.out.size)); obtain ⟨d0, d1, d2⟩ := HA2.out.cells; obtain ⟨d3, d4, d5⟩ := HO2.out.cells; obtain ⟨m0, m1, m2⟩ := HZ2.out.melts; obtain ⟨u0, u1, u2⟩ := HZ2.out.cells; clear hb))
    | (go_at_call 53; ((with_reducible refine (HEB.out _).mono ?_); rintro e w3 ⟨rfl, hb⟩; have HA3 := Lib.hid (HA2.out.over hb); have HO3 := Lib.hid (HO2.out.over hb); have HZ3 := Lib.hid (HZ2.out.over hb); have HB3 := Lib.hid (HB2.out.trans (hb.mono HB2.out.size)); obtain ⟨g0, g1, g2⟩ := HA3.out.cells; obtain ⟨g3, g4, g5⟩ := HO3.out.cells; obtain ⟨m0, m1, m2⟩ := HZ3.out.melts; obtain ⟨u0, u1, u2⟩ := HZ3.out.cells; clear hb))
    | (go_at_call 54; ((with_reducible refine (HOP.out _).mono ?_); rintro e w4 ⟨rfl, hb⟩; have HA4 := Lib.hid (HA3.out.over hb); have HO4 := Lib.hid (HO3.out.over hb); have HZ4 := Lib.hid (HZ3.out.over hb); have HB4 := Lib.hid (HB3.out.trans (hb.mono HB3.out.size)); obtain ⟨i0, i1, i2⟩ := HA4.out.cells; obtain ⟨i3, i4, i5⟩ := HO4.out.cells; clear hb))
    | (go_at_call 65; ((with_reducible refine (HC.out _).mono ?_); rintro e w5 ⟨rfl, hb⟩; have HZ5 := Lib.hid (HZ4.out.over hb); obtain ⟨m0, m1, m2⟩ := HZ5.out.melts; obtain ⟨u0, u1, u2⟩ := HZ5.out.cells; have HB5 := Lib.hid (HB4.out.trans (hb.mono HB4.out.size)); clear hb)))
  exact bodyPost_ret (out_vl (HZ5.out.put3 v) _ _ 6 res_two rfl) rfl ⟨rfl, belowV3 HB5.out HLE.out v⟩
set_option maxRecDepth 100000 in
set_option maxHeartbeats 1600000 in
theorem two_13 (a b : Vl) (ha4 : ¬ a.k = 4) (hb4 : ¬ b.k = 4) (w : World) : Calls Tryz.prog 35 #[.int .i64 13, .agg #[.int .i64 a.k, .int .i64 a.n, .string a.s], .agg #[.int .i64 b.k, .int .i64 b.n, .string b.s]] w fun e w' => e = .returned (.agg #[.int .i64 (Vl.truth (decide (0 < cmpV a b))).k, .int .i64 (Vl.truth (decide (0 < cmpV a b))).n, .string (Vl.truth (decide (0 < cmpV a b))).s]) ∧ Below w.heap.size w w' := by
  have hea := isError_any a
  rw [decide_eq_false ha4] at hea
  have HEA := Lib.hid hea
  clear hea ha4
  have heb := isError_any b
  rw [decide_eq_false hb4] at heb
  have HEB := Lib.hid heb
  clear heb hb4
  have hop : ∀ w : World, Calls Tryz.prog 54 #[.int .i64 13] w _ := operator_in 13 (by omega) (by omega) 66 rfl
  have HOP := Lib.hid hop
  have hc := fun (w : World) => pabove_any a b w
  generalize Vl.truth (decide (0 < cmpV a b)) = v at hc ⊢
  have HC := Lib.hid hc
  clear hc hop
  obtain ⟨k1, k2, k3, k4⟩ := vl_open2 w a b
  have HA := Lib.hid k1; have HO := Lib.hid k2; have HZ := Lib.hid k3; have HB := Lib.hid k4
  clear k1 k2 k3 k4
  go_enter Tryz.func35, Tryz.ntmps35
  go_upto_region 1 with (fail)
  generalize hz : w.heap.size = q at HA HO HZ ⊢
  generalize (((w.alloc (.cells #[.int .i64 a.k, .int .i64 a.n, .string a.s] 28)).alloc (.cells #[.int .i64 b.k, .int .i64 b.n, .string b.s] 28)).alloc (.cells #[.int .i64 0, .int .i64 0, .string ⟨#[]⟩] 28)) = w1 at HA HO HZ HB ⊢
  have HA1 := HA; have HO1 := HO; have HZ1 := HZ; have HB1 := HB
  have HLE := Lib.hid (show w.heap.size ≤ q + 2 by omega)
  obtain ⟨a0, a1, a2⟩ := HA.out.cells
  obtain ⟨o0, o1, o2⟩ := HO.out.cells
  obtain ⟨m0, m1, m2⟩ := HZ.out.melts
  obtain ⟨u0, u1, u2⟩ := HZ.out.cells
  clear hz
  go_wp2_with (first
    | (go_at_call 53; ((with_reducible refine (HEA.out _).mono ?_); rintro e w2 ⟨rfl, hb⟩; have HA2 := Lib.hid (HA1.out.over hb); have HO2 := Lib.hid (HO1.out.over hb); have HZ2 := Lib.hid (HZ1.out.over hb); have HB2 := Lib.hid (HB1.out.trans (hb.mono HB1.out.size)); obtain ⟨d0, d1, d2⟩ := HA2.out.cells; obtain ⟨d3, d4, d5⟩ := HO2.out.cells; obtain ⟨m0, m1, m2⟩ := HZ2.out.melts; obtain ⟨u0, u1, u2⟩ := HZ2.out.cells; clear hb))
    | (go_at_call 53; ((with_reducible refine (HEB.out _).mono ?_); rintro e w3 ⟨rfl, hb⟩; have HA3 := Lib.hid (HA2.out.over hb); have HO3 := Lib.hid (HO2.out.over hb); have HZ3 := Lib.hid (HZ2.out.over hb); have HB3 := Lib.hid (HB2.out.trans (hb.mono HB2.out.size)); obtain ⟨g0, g1, g2⟩ := HA3.out.cells; obtain ⟨g3, g4, g5⟩ := HO3.out.cells; obtain ⟨m0, m1, m2⟩ := HZ3.out.melts; obtain ⟨u0, u1, u2⟩ := HZ3.out.cells; clear hb))
    | (go_at_call 54; ((with_reducible refine (HOP.out _).mono ?_); rintro e w4 ⟨rfl, hb⟩; have HA4 := Lib.hid (HA3.out.over hb); have HO4 := Lib.hid (HO3.out.over hb); have HZ4 := Lib.hid (HZ3.out.over hb); have HB4 := Lib.hid (HB3.out.trans (hb.mono HB3.out.size)); obtain ⟨i0, i1, i2⟩ := HA4.out.cells; obtain ⟨i3, i4, i5⟩ := HO4.out.cells; clear hb))
    | (go_at_call 66; ((with_reducible refine (HC.out _).mono ?_); rintro e w5 ⟨rfl, hb⟩; have HZ5 := Lib.hid (HZ4.out.over hb); obtain ⟨m0, m1, m2⟩ := HZ5.out.melts; obtain ⟨u0, u1, u2⟩ := HZ5.out.cells; have HB5 := Lib.hid (HB4.out.trans (hb.mono HB4.out.size)); clear hb)))
  exact bodyPost_ret (out_vl (HZ5.out.put3 v) _ _ 6 res_two rfl) rfl ⟨rfl, belowV3 HB5.out HLE.out v⟩
set_option maxRecDepth 100000 in
set_option maxHeartbeats 1600000 in
theorem two_14 (a b : Vl) (ha4 : ¬ a.k = 4) (hb4 : ¬ b.k = 4) (w : World) : Calls Tryz.prog 35 #[.int .i64 14, .agg #[.int .i64 a.k, .int .i64 a.n, .string a.s], .agg #[.int .i64 b.k, .int .i64 b.n, .string b.s]] w fun e w' => e = .returned (.agg #[.int .i64 (Vl.truth (decide (0 ≤ cmpV a b))).k, .int .i64 (Vl.truth (decide (0 ≤ cmpV a b))).n, .string (Vl.truth (decide (0 ≤ cmpV a b))).s]) ∧ Below w.heap.size w w' := by
  have hea := isError_any a
  rw [decide_eq_false ha4] at hea
  have HEA := Lib.hid hea
  clear hea ha4
  have heb := isError_any b
  rw [decide_eq_false hb4] at heb
  have HEB := Lib.hid heb
  clear heb hb4
  have hop : ∀ w : World, Calls Tryz.prog 54 #[.int .i64 14] w _ := operator_in 14 (by omega) (by omega) 67 rfl
  have HOP := Lib.hid hop
  have hc := fun (w : World) => pnotBelow_any a b w
  generalize Vl.truth (decide (0 ≤ cmpV a b)) = v at hc ⊢
  have HC := Lib.hid hc
  clear hc hop
  obtain ⟨k1, k2, k3, k4⟩ := vl_open2 w a b
  have HA := Lib.hid k1; have HO := Lib.hid k2; have HZ := Lib.hid k3; have HB := Lib.hid k4
  clear k1 k2 k3 k4
  go_enter Tryz.func35, Tryz.ntmps35
  go_upto_region 1 with (fail)
  generalize hz : w.heap.size = q at HA HO HZ ⊢
  generalize (((w.alloc (.cells #[.int .i64 a.k, .int .i64 a.n, .string a.s] 28)).alloc (.cells #[.int .i64 b.k, .int .i64 b.n, .string b.s] 28)).alloc (.cells #[.int .i64 0, .int .i64 0, .string ⟨#[]⟩] 28)) = w1 at HA HO HZ HB ⊢
  have HA1 := HA; have HO1 := HO; have HZ1 := HZ; have HB1 := HB
  have HLE := Lib.hid (show w.heap.size ≤ q + 2 by omega)
  obtain ⟨a0, a1, a2⟩ := HA.out.cells
  obtain ⟨o0, o1, o2⟩ := HO.out.cells
  obtain ⟨m0, m1, m2⟩ := HZ.out.melts
  obtain ⟨u0, u1, u2⟩ := HZ.out.cells
  clear hz
  go_wp2_with (first
    | (go_at_call 53; ((with_reducible refine (HEA.out _).mono ?_); rintro e w2 ⟨rfl, hb⟩; have HA2 := Lib.hid (HA1.out.over hb); have HO2 := Lib.hid (HO1.out.over hb); have HZ2 := Lib.hid (HZ1.out.over hb); have HB2 := Lib.hid (HB1.out.trans (hb.mono HB1.out.size)); obtain ⟨d0, d1, d2⟩ := HA2.out.cells; obtain ⟨d3, d4, d5⟩ := HO2.out.cells; obtain ⟨m0, m1, m2⟩ := HZ2.out.melts; obtain ⟨u0, u1, u2⟩ := HZ2.out.cells; clear hb))
    | (go_at_call 53; ((with_reducible refine (HEB.out _).mono ?_); rintro e w3 ⟨rfl, hb⟩; have HA3 := Lib.hid (HA2.out.over hb); have HO3 := Lib.hid (HO2.out.over hb); have HZ3 := Lib.hid (HZ2.out.over hb); have HB3 := Lib.hid (HB2.out.trans (hb.mono HB2.out.size)); obtain ⟨g0, g1, g2⟩ := HA3.out.cells; obtain ⟨g3, g4, g5⟩ := HO3.out.cells; obtain ⟨m0, m1, m2⟩ := HZ3.out.melts; obtain ⟨u0, u1, u2⟩ := HZ3.out.cells; clear hb))
    | (go_at_call 54; ((with_reducible refine (HOP.out _).mono ?_); rintro e w4 ⟨rfl, hb⟩; have HA4 := Lib.hid (HA3.out.over hb); have HO4 := Lib.hid (HO3.out.over hb); have HZ4 := Lib.hid (HZ3.out.over hb); have HB4 := Lib.hid (HB3.out.trans (hb.mono HB3.out.size)); obtain ⟨i0, i1, i2⟩ := HA4.out.cells; obtain ⟨i3, i4, i5⟩ := HO4.out.cells; clear hb))
    | (go_at_call 67; ((with_reducible refine (HC.out _).mono ?_); rintro e w5 ⟨rfl, hb⟩; have HZ5 := Lib.hid (HZ4.out.over hb); obtain ⟨m0, m1, m2⟩ := HZ5.out.melts; obtain ⟨u0, u1, u2⟩ := HZ5.out.cells; have HB5 := Lib.hid (HB4.out.trans (hb.mono HB4.out.size)); clear hb)))
  exact bodyPost_ret (out_vl (HZ5.out.put3 v) _ _ 6 res_two rfl) rfl ⟨rfl, belowV3 HB5.out HLE.out v⟩
set_option maxRecDepth 100000 in
set_option maxHeartbeats 1600000 in
theorem two_15 (a b : Vl) (ha4 : ¬ a.k = 4) (hb4 : ¬ b.k = 4) (ha : VOk a) (hb : VOk b) (hs : (textV a).size + (textV b).size ≤ 9000000000000000000) (w : World) (ht : Tab w) (he : EtV w) : Calls Tryz.prog 35 #[.int .i64 15, .agg #[.int .i64 a.k, .int .i64 a.n, .string a.s], .agg #[.int .i64 b.k, .int .i64 b.n, .string b.s]] w fun e w' => e = .returned (.agg #[.int .i64 (joinV a b).k, .int .i64 (joinV a b).n, .string (joinV a b).s]) ∧ Below w.heap.size w w' := by
  have hea := isError_any a
  rw [decide_eq_false ha4] at hea
  have HEA := Lib.hid hea
  clear hea ha4
  have heb := isError_any b
  rw [decide_eq_false hb4] at heb
  have HEB := Lib.hid heb
  clear heb hb4
  have hop : ∀ w : World, Calls Tryz.prog 54 #[.int .i64 15] w _ := operator_in 15 (by omega) (by omega) 68 rfl
  have HOP := Lib.hid hop
  have hc := fun (w : World) (ht : Tab w) (he : EtV w) => pjoin_any a b ha hb hs w ht he
  generalize joinV a b = v at hc ⊢
  have HC := Lib.hid hc
  have HT := Lib.hid ht; have HE := Lib.hid he
  clear hc hop ha hb hs ht he
  obtain ⟨k1, k2, k3, k4⟩ := vl_open2 w a b
  have HA := Lib.hid k1; have HO := Lib.hid k2; have HZ := Lib.hid k3; have HB := Lib.hid k4
  clear k1 k2 k3 k4
  go_enter Tryz.func35, Tryz.ntmps35
  go_upto_region 1 with (fail)
  generalize hz : w.heap.size = q at HA HO HZ ⊢
  generalize (((w.alloc (.cells #[.int .i64 a.k, .int .i64 a.n, .string a.s] 28)).alloc (.cells #[.int .i64 b.k, .int .i64 b.n, .string b.s] 28)).alloc (.cells #[.int .i64 0, .int .i64 0, .string ⟨#[]⟩] 28)) = w1 at HA HO HZ HB ⊢
  have HA1 := HA; have HO1 := HO; have HZ1 := HZ; have HB1 := HB
  have HLE := Lib.hid (show w.heap.size ≤ q + 2 by omega)
  obtain ⟨a0, a1, a2⟩ := HA.out.cells
  obtain ⟨o0, o1, o2⟩ := HO.out.cells
  obtain ⟨m0, m1, m2⟩ := HZ.out.melts
  obtain ⟨u0, u1, u2⟩ := HZ.out.cells
  clear hz
  go_wp2_with (first
    | (go_at_call 53; ((with_reducible refine (HEA.out _).mono ?_); rintro e w2 ⟨rfl, hb⟩; have HA2 := Lib.hid (HA1.out.over hb); have HO2 := Lib.hid (HO1.out.over hb); have HZ2 := Lib.hid (HZ1.out.over hb); have HB2 := Lib.hid (HB1.out.trans (hb.mono HB1.out.size)); obtain ⟨d0, d1, d2⟩ := HA2.out.cells; obtain ⟨d3, d4, d5⟩ := HO2.out.cells; obtain ⟨m0, m1, m2⟩ := HZ2.out.melts; obtain ⟨u0, u1, u2⟩ := HZ2.out.cells; clear hb))
    | (go_at_call 53; ((with_reducible refine (HEB.out _).mono ?_); rintro e w3 ⟨rfl, hb⟩; have HA3 := Lib.hid (HA2.out.over hb); have HO3 := Lib.hid (HO2.out.over hb); have HZ3 := Lib.hid (HZ2.out.over hb); have HB3 := Lib.hid (HB2.out.trans (hb.mono HB2.out.size)); obtain ⟨g0, g1, g2⟩ := HA3.out.cells; obtain ⟨g3, g4, g5⟩ := HO3.out.cells; obtain ⟨m0, m1, m2⟩ := HZ3.out.melts; obtain ⟨u0, u1, u2⟩ := HZ3.out.cells; clear hb))
    | (go_at_call 54; ((with_reducible refine (HOP.out _).mono ?_); rintro e w4 ⟨rfl, hb⟩; have HA4 := Lib.hid (HA3.out.over hb); have HO4 := Lib.hid (HO3.out.over hb); have HZ4 := Lib.hid (HZ3.out.over hb); have HB4 := Lib.hid (HB3.out.trans (hb.mono HB3.out.size)); obtain ⟨i0, i1, i2⟩ := HA4.out.cells; obtain ⟨i3, i4, i5⟩ := HO4.out.cells; clear hb))
    | (go_at_call 68; ((with_reducible refine (HC.out _ (HT.out.below HB4.out) (HE.out.below HB4.out)).mono ?_); rintro e w5 ⟨rfl, hb⟩; have HZ5 := Lib.hid (HZ4.out.over hb); obtain ⟨m0, m1, m2⟩ := HZ5.out.melts; obtain ⟨u0, u1, u2⟩ := HZ5.out.cells; have HB5 := Lib.hid (HB4.out.trans (hb.mono HB4.out.size)); clear hb)))
  exact bodyPost_ret (out_vl (HZ5.out.put3 v) _ _ 6 res_two rfl) rfl ⟨rfl, belowV3 HB5.out HLE.out v⟩
set_option maxRecDepth 100000 in
set_option maxHeartbeats 1600000 in
theorem two_16 (a b : Vl) (ha4 : ¬ a.k = 4) (hb4 : ¬ b.k = 4) (ha : VOk a) (hb : VOk b) (w : World) : Calls Tryz.prog 35 #[.int .i64 16, .agg #[.int .i64 a.k, .int .i64 a.n, .string a.s], .agg #[.int .i64 b.k, .int .i64 b.n, .string b.s]] w fun e w' => e = .returned (.agg #[.int .i64 (reckV sumV a b).k, .int .i64 (reckV sumV a b).n, .string (reckV sumV a b).s]) ∧ Below w.heap.size w w' := by
  have hea := isError_any a
  rw [decide_eq_false ha4] at hea
  have HEA := Lib.hid hea
  clear hea ha4
  have heb := isError_any b
  rw [decide_eq_false hb4] at heb
  have HEB := Lib.hid heb
  clear heb hb4
  have hop : ∀ w : World, Calls Tryz.prog 54 #[.int .i64 16] w _ := operator_in 16 (by omega) (by omega) 69 rfl
  have HOP := Lib.hid hop
  have hc := fun (w : World) => padd_any a b ha hb w
  generalize reckV sumV a b = v at hc ⊢
  have HC := Lib.hid hc
  clear hc hop ha hb
  obtain ⟨k1, k2, k3, k4⟩ := vl_open2 w a b
  have HA := Lib.hid k1; have HO := Lib.hid k2; have HZ := Lib.hid k3; have HB := Lib.hid k4
  clear k1 k2 k3 k4
  go_enter Tryz.func35, Tryz.ntmps35
  go_upto_region 1 with (fail)
  generalize hz : w.heap.size = q at HA HO HZ ⊢
  generalize (((w.alloc (.cells #[.int .i64 a.k, .int .i64 a.n, .string a.s] 28)).alloc (.cells #[.int .i64 b.k, .int .i64 b.n, .string b.s] 28)).alloc (.cells #[.int .i64 0, .int .i64 0, .string ⟨#[]⟩] 28)) = w1 at HA HO HZ HB ⊢
  have HA1 := HA; have HO1 := HO; have HZ1 := HZ; have HB1 := HB
  have HLE := Lib.hid (show w.heap.size ≤ q + 2 by omega)
  obtain ⟨a0, a1, a2⟩ := HA.out.cells
  obtain ⟨o0, o1, o2⟩ := HO.out.cells
  obtain ⟨m0, m1, m2⟩ := HZ.out.melts
  obtain ⟨u0, u1, u2⟩ := HZ.out.cells
  clear hz
  go_wp2_with (first
    | (go_at_call 53; ((with_reducible refine (HEA.out _).mono ?_); rintro e w2 ⟨rfl, hb⟩; have HA2 := Lib.hid (HA1.out.over hb); have HO2 := Lib.hid (HO1.out.over hb); have HZ2 := Lib.hid (HZ1.out.over hb); have HB2 := Lib.hid (HB1.out.trans (hb.mono HB1.out.size)); obtain ⟨d0, d1, d2⟩ := HA2.out.cells; obtain ⟨d3, d4, d5⟩ := HO2.out.cells; obtain ⟨m0, m1, m2⟩ := HZ2.out.melts; obtain ⟨u0, u1, u2⟩ := HZ2.out.cells; clear hb))
    | (go_at_call 53; ((with_reducible refine (HEB.out _).mono ?_); rintro e w3 ⟨rfl, hb⟩; have HA3 := Lib.hid (HA2.out.over hb); have HO3 := Lib.hid (HO2.out.over hb); have HZ3 := Lib.hid (HZ2.out.over hb); have HB3 := Lib.hid (HB2.out.trans (hb.mono HB2.out.size)); obtain ⟨g0, g1, g2⟩ := HA3.out.cells; obtain ⟨g3, g4, g5⟩ := HO3.out.cells; obtain ⟨m0, m1, m2⟩ := HZ3.out.melts; obtain ⟨u0, u1, u2⟩ := HZ3.out.cells; clear hb))
    | (go_at_call 54; ((with_reducible refine (HOP.out _).mono ?_); rintro e w4 ⟨rfl, hb⟩; have HA4 := Lib.hid (HA3.out.over hb); have HO4 := Lib.hid (HO3.out.over hb); have HZ4 := Lib.hid (HZ3.out.over hb); have HB4 := Lib.hid (HB3.out.trans (hb.mono HB3.out.size)); obtain ⟨i0, i1, i2⟩ := HA4.out.cells; obtain ⟨i3, i4, i5⟩ := HO4.out.cells; clear hb))
    | (go_at_call 69; ((with_reducible refine (HC.out _).mono ?_); rintro e w5 ⟨rfl, hb⟩; have HZ5 := Lib.hid (HZ4.out.over hb); obtain ⟨m0, m1, m2⟩ := HZ5.out.melts; obtain ⟨u0, u1, u2⟩ := HZ5.out.cells; have HB5 := Lib.hid (HB4.out.trans (hb.mono HB4.out.size)); clear hb)))
  exact bodyPost_ret (out_vl (HZ5.out.put3 v) _ _ 6 res_two rfl) rfl ⟨rfl, belowV3 HB5.out HLE.out v⟩
set_option maxRecDepth 100000 in
set_option maxHeartbeats 1600000 in
theorem two_17 (a b : Vl) (ha4 : ¬ a.k = 4) (hb4 : ¬ b.k = 4) (ha : VOk a) (hb : VOk b) (w : World) : Calls Tryz.prog 35 #[.int .i64 17, .agg #[.int .i64 a.k, .int .i64 a.n, .string a.s], .agg #[.int .i64 b.k, .int .i64 b.n, .string b.s]] w fun e w' => e = .returned (.agg #[.int .i64 (reckV subV a b).k, .int .i64 (reckV subV a b).n, .string (reckV subV a b).s]) ∧ Below w.heap.size w w' := by
  have hea := isError_any a
  rw [decide_eq_false ha4] at hea
  have HEA := Lib.hid hea
  clear hea ha4
  have heb := isError_any b
  rw [decide_eq_false hb4] at heb
  have HEB := Lib.hid heb
  clear heb hb4
  have hop : ∀ w : World, Calls Tryz.prog 54 #[.int .i64 17] w _ := operator_in 17 (by omega) (by omega) 70 rfl
  have HOP := Lib.hid hop
  have hc := fun (w : World) => psubtract_any a b ha hb w
  generalize reckV subV a b = v at hc ⊢
  have HC := Lib.hid hc
  clear hc hop ha hb
  obtain ⟨k1, k2, k3, k4⟩ := vl_open2 w a b
  have HA := Lib.hid k1; have HO := Lib.hid k2; have HZ := Lib.hid k3; have HB := Lib.hid k4
  clear k1 k2 k3 k4
  go_enter Tryz.func35, Tryz.ntmps35
  go_upto_region 1 with (fail)
  generalize hz : w.heap.size = q at HA HO HZ ⊢
  generalize (((w.alloc (.cells #[.int .i64 a.k, .int .i64 a.n, .string a.s] 28)).alloc (.cells #[.int .i64 b.k, .int .i64 b.n, .string b.s] 28)).alloc (.cells #[.int .i64 0, .int .i64 0, .string ⟨#[]⟩] 28)) = w1 at HA HO HZ HB ⊢
  have HA1 := HA; have HO1 := HO; have HZ1 := HZ; have HB1 := HB
  have HLE := Lib.hid (show w.heap.size ≤ q + 2 by omega)
  obtain ⟨a0, a1, a2⟩ := HA.out.cells
  obtain ⟨o0, o1, o2⟩ := HO.out.cells
  obtain ⟨m0, m1, m2⟩ := HZ.out.melts
  obtain ⟨u0, u1, u2⟩ := HZ.out.cells
  clear hz
  go_wp2_with (first
    | (go_at_call 53; ((with_reducible refine (HEA.out _).mono ?_); rintro e w2 ⟨rfl, hb⟩; have HA2 := Lib.hid (HA1.out.over hb); have HO2 := Lib.hid (HO1.out.over hb); have HZ2 := Lib.hid (HZ1.out.over hb); have HB2 := Lib.hid (HB1.out.trans (hb.mono HB1.out.size)); obtain ⟨d0, d1, d2⟩ := HA2.out.cells; obtain ⟨d3, d4, d5⟩ := HO2.out.cells; obtain ⟨m0, m1, m2⟩ := HZ2.out.melts; obtain ⟨u0, u1, u2⟩ := HZ2.out.cells; clear hb))
    | (go_at_call 53; ((with_reducible refine (HEB.out _).mono ?_); rintro e w3 ⟨rfl, hb⟩; have HA3 := Lib.hid (HA2.out.over hb); have HO3 := Lib.hid (HO2.out.over hb); have HZ3 := Lib.hid (HZ2.out.over hb); have HB3 := Lib.hid (HB2.out.trans (hb.mono HB2.out.size)); obtain ⟨g0, g1, g2⟩ := HA3.out.cells; obtain ⟨g3, g4, g5⟩ := HO3.out.cells; obtain ⟨m0, m1, m2⟩ := HZ3.out.melts; obtain ⟨u0, u1, u2⟩ := HZ3.out.cells; clear hb))
    | (go_at_call 54; ((with_reducible refine (HOP.out _).mono ?_); rintro e w4 ⟨rfl, hb⟩; have HA4 := Lib.hid (HA3.out.over hb); have HO4 := Lib.hid (HO3.out.over hb); have HZ4 := Lib.hid (HZ3.out.over hb); have HB4 := Lib.hid (HB3.out.trans (hb.mono HB3.out.size)); obtain ⟨i0, i1, i2⟩ := HA4.out.cells; obtain ⟨i3, i4, i5⟩ := HO4.out.cells; clear hb))
    | (go_at_call 70; ((with_reducible refine (HC.out _).mono ?_); rintro e w5 ⟨rfl, hb⟩; have HZ5 := Lib.hid (HZ4.out.over hb); obtain ⟨m0, m1, m2⟩ := HZ5.out.melts; obtain ⟨u0, u1, u2⟩ := HZ5.out.cells; have HB5 := Lib.hid (HB4.out.trans (hb.mono HB4.out.size)); clear hb)))
  exact bodyPost_ret (out_vl (HZ5.out.put3 v) _ _ 6 res_two rfl) rfl ⟨rfl, belowV3 HB5.out HLE.out v⟩
set_option maxRecDepth 100000 in
set_option maxHeartbeats 1600000 in
theorem two_18 (a b : Vl) (ha4 : ¬ a.k = 4) (hb4 : ¬ b.k = 4) (ha : VOk a) (hb : VOk b) (w : World) : Calls Tryz.prog 35 #[.int .i64 18, .agg #[.int .i64 a.k, .int .i64 a.n, .string a.s], .agg #[.int .i64 b.k, .int .i64 b.n, .string b.s]] w fun e w' => e = .returned (.agg #[.int .i64 (reckV mulV a b).k, .int .i64 (reckV mulV a b).n, .string (reckV mulV a b).s]) ∧ Below w.heap.size w w' := by
  have hea := isError_any a
  rw [decide_eq_false ha4] at hea
  have HEA := Lib.hid hea
  clear hea ha4
  have heb := isError_any b
  rw [decide_eq_false hb4] at heb
  have HEB := Lib.hid heb
  clear heb hb4
  have hop : ∀ w : World, Calls Tryz.prog 54 #[.int .i64 18] w _ := operator_in 18 (by omega) (by omega) 71 rfl
  have HOP := Lib.hid hop
  have hc := fun (w : World) => pmultiply_any a b ha hb w
  generalize reckV mulV a b = v at hc ⊢
  have HC := Lib.hid hc
  clear hc hop ha hb
  obtain ⟨k1, k2, k3, k4⟩ := vl_open2 w a b
  have HA := Lib.hid k1; have HO := Lib.hid k2; have HZ := Lib.hid k3; have HB := Lib.hid k4
  clear k1 k2 k3 k4
  go_enter Tryz.func35, Tryz.ntmps35
  go_upto_region 1 with (fail)
  generalize hz : w.heap.size = q at HA HO HZ ⊢
  generalize (((w.alloc (.cells #[.int .i64 a.k, .int .i64 a.n, .string a.s] 28)).alloc (.cells #[.int .i64 b.k, .int .i64 b.n, .string b.s] 28)).alloc (.cells #[.int .i64 0, .int .i64 0, .string ⟨#[]⟩] 28)) = w1 at HA HO HZ HB ⊢
  have HA1 := HA; have HO1 := HO; have HZ1 := HZ; have HB1 := HB
  have HLE := Lib.hid (show w.heap.size ≤ q + 2 by omega)
  obtain ⟨a0, a1, a2⟩ := HA.out.cells
  obtain ⟨o0, o1, o2⟩ := HO.out.cells
  obtain ⟨m0, m1, m2⟩ := HZ.out.melts
  obtain ⟨u0, u1, u2⟩ := HZ.out.cells
  clear hz
  go_wp2_with (first
    | (go_at_call 53; ((with_reducible refine (HEA.out _).mono ?_); rintro e w2 ⟨rfl, hb⟩; have HA2 := Lib.hid (HA1.out.over hb); have HO2 := Lib.hid (HO1.out.over hb); have HZ2 := Lib.hid (HZ1.out.over hb); have HB2 := Lib.hid (HB1.out.trans (hb.mono HB1.out.size)); obtain ⟨d0, d1, d2⟩ := HA2.out.cells; obtain ⟨d3, d4, d5⟩ := HO2.out.cells; obtain ⟨m0, m1, m2⟩ := HZ2.out.melts; obtain ⟨u0, u1, u2⟩ := HZ2.out.cells; clear hb))
    | (go_at_call 53; ((with_reducible refine (HEB.out _).mono ?_); rintro e w3 ⟨rfl, hb⟩; have HA3 := Lib.hid (HA2.out.over hb); have HO3 := Lib.hid (HO2.out.over hb); have HZ3 := Lib.hid (HZ2.out.over hb); have HB3 := Lib.hid (HB2.out.trans (hb.mono HB2.out.size)); obtain ⟨g0, g1, g2⟩ := HA3.out.cells; obtain ⟨g3, g4, g5⟩ := HO3.out.cells; obtain ⟨m0, m1, m2⟩ := HZ3.out.melts; obtain ⟨u0, u1, u2⟩ := HZ3.out.cells; clear hb))
    | (go_at_call 54; ((with_reducible refine (HOP.out _).mono ?_); rintro e w4 ⟨rfl, hb⟩; have HA4 := Lib.hid (HA3.out.over hb); have HO4 := Lib.hid (HO3.out.over hb); have HZ4 := Lib.hid (HZ3.out.over hb); have HB4 := Lib.hid (HB3.out.trans (hb.mono HB3.out.size)); obtain ⟨i0, i1, i2⟩ := HA4.out.cells; obtain ⟨i3, i4, i5⟩ := HO4.out.cells; clear hb))
    | (go_at_call 71; ((with_reducible refine (HC.out _).mono ?_); rintro e w5 ⟨rfl, hb⟩; have HZ5 := Lib.hid (HZ4.out.over hb); obtain ⟨m0, m1, m2⟩ := HZ5.out.melts; obtain ⟨u0, u1, u2⟩ := HZ5.out.cells; have HB5 := Lib.hid (HB4.out.trans (hb.mono HB4.out.size)); clear hb)))
  exact bodyPost_ret (out_vl (HZ5.out.put3 v) _ _ 6 res_two rfl) rfl ⟨rfl, belowV3 HB5.out HLE.out v⟩
set_option maxRecDepth 100000 in
set_option maxHeartbeats 1600000 in
theorem two_19 (a b : Vl) (ha4 : ¬ a.k = 4) (hb4 : ¬ b.k = 4) (ha : VOk a) (w : World) : Calls Tryz.prog 35 #[.int .i64 19, .agg #[.int .i64 a.k, .int .i64 a.n, .string a.s], .agg #[.int .i64 b.k, .int .i64 b.n, .string b.s]] w fun e w' => e = .returned (.agg #[.int .i64 (reckV divV a b).k, .int .i64 (reckV divV a b).n, .string (reckV divV a b).s]) ∧ Below w.heap.size w w' := by
  have hea := isError_any a
  rw [decide_eq_false ha4] at hea
  have HEA := Lib.hid hea
  clear hea ha4
  have heb := isError_any b
  rw [decide_eq_false hb4] at heb
  have HEB := Lib.hid heb
  clear heb hb4
  have hop : ∀ w : World, Calls Tryz.prog 54 #[.int .i64 19] w _ := operator_in 19 (by omega) (by omega) 72 rfl
  have HOP := Lib.hid hop
  have hc := fun (w : World) => pdivide_any a b ha w
  generalize reckV divV a b = v at hc ⊢
  have HC := Lib.hid hc
  clear hc hop ha
  obtain ⟨k1, k2, k3, k4⟩ := vl_open2 w a b
  have HA := Lib.hid k1; have HO := Lib.hid k2; have HZ := Lib.hid k3; have HB := Lib.hid k4
  clear k1 k2 k3 k4
  go_enter Tryz.func35, Tryz.ntmps35
  go_upto_region 1 with (fail)
  generalize hz : w.heap.size = q at HA HO HZ ⊢
  generalize (((w.alloc (.cells #[.int .i64 a.k, .int .i64 a.n, .string a.s] 28)).alloc (.cells #[.int .i64 b.k, .int .i64 b.n, .string b.s] 28)).alloc (.cells #[.int .i64 0, .int .i64 0, .string ⟨#[]⟩] 28)) = w1 at HA HO HZ HB ⊢
  have HA1 := HA; have HO1 := HO; have HZ1 := HZ; have HB1 := HB
  have HLE := Lib.hid (show w.heap.size ≤ q + 2 by omega)
  obtain ⟨a0, a1, a2⟩ := HA.out.cells
  obtain ⟨o0, o1, o2⟩ := HO.out.cells
  obtain ⟨m0, m1, m2⟩ := HZ.out.melts
  obtain ⟨u0, u1, u2⟩ := HZ.out.cells
  clear hz
  go_wp2_with (first
    | (go_at_call 53; ((with_reducible refine (HEA.out _).mono ?_); rintro e w2 ⟨rfl, hb⟩; have HA2 := Lib.hid (HA1.out.over hb); have HO2 := Lib.hid (HO1.out.over hb); have HZ2 := Lib.hid (HZ1.out.over hb); have HB2 := Lib.hid (HB1.out.trans (hb.mono HB1.out.size)); obtain ⟨d0, d1, d2⟩ := HA2.out.cells; obtain ⟨d3, d4, d5⟩ := HO2.out.cells; obtain ⟨m0, m1, m2⟩ := HZ2.out.melts; obtain ⟨u0, u1, u2⟩ := HZ2.out.cells; clear hb))
    | (go_at_call 53; ((with_reducible refine (HEB.out _).mono ?_); rintro e w3 ⟨rfl, hb⟩; have HA3 := Lib.hid (HA2.out.over hb); have HO3 := Lib.hid (HO2.out.over hb); have HZ3 := Lib.hid (HZ2.out.over hb); have HB3 := Lib.hid (HB2.out.trans (hb.mono HB2.out.size)); obtain ⟨g0, g1, g2⟩ := HA3.out.cells; obtain ⟨g3, g4, g5⟩ := HO3.out.cells; obtain ⟨m0, m1, m2⟩ := HZ3.out.melts; obtain ⟨u0, u1, u2⟩ := HZ3.out.cells; clear hb))
    | (go_at_call 54; ((with_reducible refine (HOP.out _).mono ?_); rintro e w4 ⟨rfl, hb⟩; have HA4 := Lib.hid (HA3.out.over hb); have HO4 := Lib.hid (HO3.out.over hb); have HZ4 := Lib.hid (HZ3.out.over hb); have HB4 := Lib.hid (HB3.out.trans (hb.mono HB3.out.size)); obtain ⟨i0, i1, i2⟩ := HA4.out.cells; obtain ⟨i3, i4, i5⟩ := HO4.out.cells; clear hb))
    | (go_at_call 72; ((with_reducible refine (HC.out _).mono ?_); rintro e w5 ⟨rfl, hb⟩; have HZ5 := Lib.hid (HZ4.out.over hb); obtain ⟨m0, m1, m2⟩ := HZ5.out.melts; obtain ⟨u0, u1, u2⟩ := HZ5.out.cells; have HB5 := Lib.hid (HB4.out.trans (hb.mono HB4.out.size)); clear hb)))
  exact bodyPost_ret (out_vl (HZ5.out.put3 v) _ _ 6 res_two rfl) rfl ⟨rfl, belowV3 HB5.out HLE.out v⟩
end Go.Proofs.YtolhmemiknpeaaaGreatDoor
