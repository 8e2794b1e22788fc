/-
  Layer 7, the reference: Neg, Two.
-/
import Derived.Test.YtgnandbokgfeiaaDoorVrD
namespace Go.Proofs.YtgnandbokgfeiaaDoor
open Go.RowKit

theorem res_rneg : Tryd.f18.results = #[.cell 2 23] := by kernel_rfl
theorem res_rtwo : Tryd.f20.results = #[.cell 6 23] := by kernel_rfl
set_option maxRecDepth 100000 in
set_option maxHeartbeats 1600000 in
theorem rneg_a (a : Vl) (hm : mayV a = true) (h4 : a.k = 4) (w : World) : Calls Tryd.prog 18 #[.agg #[.int .i64 a.k, .int .i64 a.n, .string a.s]] w fun e w' => e = .returned (.agg #[.int .i64 a.k, .int .i64 a.n, .string a.s]) ∧ Below w.heap.size w w' := by
  have hi := rint_any a hm
  have e4 : (a.k == 4) = true := beq_iff_eq.2 h4
  clear h4
  have HI := Lib.hid hi
  clear hi hm
  obtain ⟨k1, k2, k3⟩ := ng_open w a
  have HA1 := Lib.hid k1; have HZ1 := Lib.hid k2; have HB1 := Lib.hid k3
  clear k1 k2 k3
  go_enter Tryd.func18, Tryd.ntmps18
  go_upto_region 1 with (fail)
  generalize hz : w.heap.size = q at HA1 HZ1 ⊢
  generalize ((w.alloc (.cells #[.int .i64 a.k, .int .i64 a.n, .string a.s] 23)).alloc (.cells #[.int .i64 0, .int .i64 0, .string ⟨#[]⟩] 23)) = w1 at HA1 HZ1 HB1 ⊢
  have HLE := Lib.hid (show w.heap.size ≤ q + 1 by omega)
  obtain ⟨c0, c1, c2⟩ := HA1.out.cells
  clear hz
  go_wp2_with (first
    | (go_at_call 14; ((with_reducible refine (HI.out _).mono ?_); rintro e w2 ⟨rfl, hb⟩; have HA2 := Lib.hid (HA1.out.over hb); have HZ2 := Lib.hid (HZ1.out.over hb); have HB2 := Lib.hid (HB1.out.trans (hb.mono HB1.out.size)); obtain ⟨d0, d1, d2⟩ := HA2.out.cells; obtain ⟨m0, m1, m2⟩ := HZ2.out.melts; obtain ⟨u0, u1, u2⟩ := HZ2.out.cells; clear hb)))
  all_goals exact bodyPost_ret (out_vl (HZ2.out.put3 a) _ _ 2 res_rneg rfl) rfl ⟨rfl, belowV3 HB2.out HLE.out a⟩
set_option maxRecDepth 100000 in
set_option maxHeartbeats 1600000 in
theorem rneg_b (a : Vl) (hm : mayV a = true) (h4 : ¬ a.k = 4) (h : isInt a = false) (w : World) : Calls Tryd.prog 18 #[.agg #[.int .i64 a.k, .int .i64 a.n, .string a.s]] w fun e w' => e = .returned (.agg #[.int .i64 (Vl.err 1).k, .int .i64 (Vl.err 1).n, .string (Vl.err 1).s]) ∧ Below w.heap.size w w' := by
  have hi := rint_any a hm
  have e4 : (a.k == 4) = false := beq_eq_false_iff_ne.2 h4
  clear h4
  rw [h] at hi
  have HC := Lib.hid (fun (w : World) => rno_any 1 w)
  have HI := Lib.hid hi
  clear hi hm
  obtain ⟨k1, k2, k3⟩ := ng_open w a
  have HA1 := Lib.hid k1; have HZ1 := Lib.hid k2; have HB1 := Lib.hid k3
  clear k1 k2 k3
  go_enter Tryd.func18, Tryd.ntmps18
  go_upto_region 1 with (fail)
  generalize hz : w.heap.size = q at HA1 HZ1 ⊢
  generalize ((w.alloc (.cells #[.int .i64 a.k, .int .i64 a.n, .string a.s] 23)).alloc (.cells #[.int .i64 0, .int .i64 0, .string ⟨#[]⟩] 23)) = w1 at HA1 HZ1 HB1 ⊢
  have HLE := Lib.hid (show w.heap.size ≤ q + 1 by omega)
  obtain ⟨c0, c1, c2⟩ := HA1.out.cells
  clear hz
  go_wp2_with (first
    | (go_at_call 14; ((with_reducible refine (HI.out _).mono ?_); rintro e w2 ⟨rfl, hb⟩; have HA2 := Lib.hid (HA1.out.over hb); have HZ2 := Lib.hid (HZ1.out.over hb); have HB2 := Lib.hid (HB1.out.trans (hb.mono HB1.out.size)); obtain ⟨d0, d1, d2⟩ := HA2.out.cells; obtain ⟨m0, m1, m2⟩ := HZ2.out.melts; obtain ⟨u0, u1, u2⟩ := HZ2.out.cells; clear hb))
    | (go_at_call 28; ((with_reducible refine (HC.out _).mono ?_); rintro e w3 ⟨rfl, hb⟩; have HZ3 := Lib.hid (HZ2.out.over hb); obtain ⟨m0, m1, m2⟩ := HZ3.out.melts; obtain ⟨u0, u1, u2⟩ := HZ3.out.cells; have HB3 := Lib.hid (HB2.out.trans (hb.mono HB2.out.size)); clear hb)))
  all_goals exact bodyPost_ret (out_vl (HZ3.out.put3 (Vl.err 1)) _ _ 2 res_rneg rfl) rfl ⟨rfl, belowV3 HB3.out HLE.out (Vl.err 1)⟩
set_option maxRecDepth 100000 in
set_option maxHeartbeats 1600000 in
theorem rneg_c (a : Vl) (hm : mayV a = true) (h4 : ¬ a.k = 4) (h : isInt a = true) (hn : intV a = -9223372036854775808) (w : World) : Calls Tryd.prog 18 #[.agg #[.int .i64 a.k, .int .i64 a.n, .string a.s]] w fun e w' => e = .returned (.agg #[.int .i64 (Vl.err 2).k, .int .i64 (Vl.err 2).n, .string (Vl.err 2).s]) ∧ Below w.heap.size w w' := by
  have hi := rint_any a hm
  have e4 : (a.k == 4) = false := beq_eq_false_iff_ne.2 h4
  clear h4
  rw [h, hn] at hi
  have HC := Lib.hid (fun (w : World) => rno_any 2 w)
  clear hn
  have HI := Lib.hid hi
  clear hi hm
  obtain ⟨k1, k2, k3⟩ := ng_open w a
  have HA1 := Lib.hid k1; have HZ1 := Lib.hid k2; have HB1 := Lib.hid k3
  clear k1 k2 k3
  go_enter Tryd.func18, Tryd.ntmps18
  go_upto_region 1 with (fail)
  generalize hz : w.heap.size = q at HA1 HZ1 ⊢
  generalize ((w.alloc (.cells #[.int .i64 a.k, .int .i64 a.n, .string a.s] 23)).alloc (.cells #[.int .i64 0, .int .i64 0, .string ⟨#[]⟩] 23)) = w1 at HA1 HZ1 HB1 ⊢
  have HLE := Lib.hid (show w.heap.size ≤ q + 1 by omega)
  obtain ⟨c0, c1, c2⟩ := HA1.out.cells
  clear hz
  go_wp2_with (first
    | (go_at_call 14; ((with_reducible refine (HI.out _).mono ?_); rintro e w2 ⟨rfl, hb⟩; have HA2 := Lib.hid (HA1.out.over hb); have HZ2 := Lib.hid (HZ1.out.over hb); have HB2 := Lib.hid (HB1.out.trans (hb.mono HB1.out.size)); obtain ⟨d0, d1, d2⟩ := HA2.out.cells; obtain ⟨m0, m1, m2⟩ := HZ2.out.melts; obtain ⟨u0, u1, u2⟩ := HZ2.out.cells; clear hb))
    | (go_at_call 28; ((with_reducible refine (HC.out _).mono ?_); rintro e w3 ⟨rfl, hb⟩; have HZ3 := Lib.hid (HZ2.out.over hb); obtain ⟨m0, m1, m2⟩ := HZ3.out.melts; obtain ⟨u0, u1, u2⟩ := HZ3.out.cells; have HB3 := Lib.hid (HB2.out.trans (hb.mono HB2.out.size)); clear hb)))
  all_goals exact bodyPost_ret (out_vl (HZ3.out.put3 (Vl.err 2)) _ _ 2 res_rneg rfl) rfl ⟨rfl, belowV3 HB3.out HLE.out (Vl.err 2)⟩
set_option maxRecDepth 100000 in
set_option maxHeartbeats 1600000 in
theorem rneg_d (a : Vl) (hm : mayV a = true) (h4 : ¬ a.k = 4) (h : isInt a = true) (n : Int) (hn : intV a = n) (hl : ¬ n = -9223372036854775808) (h0 : -9223372036854775808 ≤ n) (h1 : n ≤ 9223372036854775807) (w : World) : Calls Tryd.prog 18 #[.agg #[.int .i64 a.k, .int .i64 a.n, .string a.s]] w fun e w' => e = .returned (.agg #[.int .i64 (Vl.num (-n)).k, .int .i64 (Vl.num (-n)).n, .string (Vl.num (-n)).s]) ∧ Below w.heap.size w w' := by
  have hi := rint_any a hm
  have e4 : (a.k == 4) = false := beq_eq_false_iff_ne.2 h4
  clear h4
  rw [h, hn] at hi
  have e5 : (n == -9223372036854775808) = false := beq_eq_false_iff_ne.2 hl
  have e6 : wrap64 (-n) = -n := by unfold wrap64; omega
  have e7 : IntKind.i64.wrap (-n) = -n := by rw [IntKind.wrap_i64]; omega
  have HC := Lib.hid (fun (w : World) => rnum_any (-n) w)
  clear hn hl h0 h1
  have HI := Lib.hid hi
  clear hi hm
  obtain ⟨k1, k2, k3⟩ := ng_open w a
  have HA1 := Lib.hid k1; have HZ1 := Lib.hid k2; have HB1 := Lib.hid k3
  clear k1 k2 k3
  go_enter Tryd.func18, Tryd.ntmps18
  go_upto_region 1 with (fail)
  generalize hz : w.heap.size = q at HA1 HZ1 ⊢
  generalize ((w.alloc (.cells #[.int .i64 a.k, .int .i64 a.n, .string a.s] 23)).alloc (.cells #[.int .i64 0, .int .i64 0, .string ⟨#[]⟩] 23)) = w1 at HA1 HZ1 HB1 ⊢
  have HLE := Lib.hid (show w.heap.size ≤ q + 1 by omega)
  obtain ⟨c0, c1, c2⟩ := HA1.out.cells
  clear hz
  go_wp2_with (first
    | (go_at_call 14; ((with_reducible refine (HI.out _).mono ?_); rintro e w2 ⟨rfl, hb⟩; have HA2 := Lib.hid (HA1.out.over hb); have HZ2 := Lib.hid (HZ1.out.over hb); have HB2 := Lib.hid (HB1.out.trans (hb.mono HB1.out.size)); obtain ⟨d0, d1, d2⟩ := HA2.out.cells; obtain ⟨m0, m1, m2⟩ := HZ2.out.melts; obtain ⟨u0, u1, u2⟩ := HZ2.out.cells; clear hb))
    | (go_at_call 29; ((with_reducible refine (HC.out _).mono ?_); rintro e w3 ⟨rfl, hb⟩; have HZ3 := Lib.hid (HZ2.out.over hb); obtain ⟨m0, m1, m2⟩ := HZ3.out.melts; obtain ⟨u0, u1, u2⟩ := HZ3.out.cells; have HB3 := Lib.hid (HB2.out.trans (hb.mono HB2.out.size)); clear hb)))
  all_goals exact bodyPost_ret (out_vl (HZ3.out.put3 (Vl.num (-n))) _ _ 2 res_rneg rfl) rfl ⟨rfl, belowV3 HB3.out HLE.out (Vl.num (-n))⟩
theorem rneg_any (a : Vl) (hm : mayV a = true) (ha : VOk a) (w : World) : Calls Tryd.prog 18 #[.agg #[.int .i64 a.k, .int .i64 a.n, .string a.s]] w fun e w' => e = .returned (.agg #[.int .i64 (negV a).k, .int .i64 (negV a).n, .string (negV a).s]) ∧ Below w.heap.size w w' := by
  by_cases h4 : a.k = 4
  · rw [show negV a = a from by unfold negV; rw [if_pos h4]]; exact rneg_a a hm h4 w
  · by_cases h : isInt a = true
    · rw [show negV a = fitV (-intV a) from by unfold negV; rw [if_neg h4, if_pos h]]
      have hr := ha.int
      by_cases hn : intV a = -9223372036854775808
      · rw [fit_out (by omega)]; exact rneg_c a hm h4 h hn w
      · rw [fit_in (by omega) (by omega)]; exact rneg_d a hm h4 h (intV a) rfl hn hr.1 hr.2 w
    · rw [show negV a = Vl.err 1 from by unfold negV; rw [if_neg h4, if_neg h]]; exact rneg_b a hm h4 (by simpa using h) w
set_option maxRecDepth 100000 in
set_option maxHeartbeats 1600000 in
theorem rtwo_a (kind : Int) (a b : Vl) (ha4 : a.k = 4) (w : World) : Calls Tryd.prog 20 #[.int .i64 kind, .agg #[.int .i64 a.k, .int .i64 a.n, .string a.s], .agg #[.int .i64 b.k, .int .i64 b.n, .string b.s]] w fun e w' => e = .returned (.agg #[.int .i64 a.k, .int .i64 a.n, .string a.s]) ∧ Below w.heap.size w w' := by
  have ea4 : (a.k == 4) = true := beq_iff_eq.2 ha4
  clear ha4
  obtain ⟨k1, k2, k3, k4⟩ := vl_open2 w a b
  have HA := Lib.hid k1; have HO := Lib.hid k2; have HZ := Lib.hid k3; have HB := Lib.hid k4
  clear k1 k2 k3 k4
  go_enter Tryd.func20, Tryd.ntmps20
  go_upto_region 1 with (fail)
  generalize hz : w.heap.size = q at HA HO HZ ⊢
  generalize (((w.alloc (.cells #[.int .i64 a.k, .int .i64 a.n, .string a.s] 23)).alloc (.cells #[.int .i64 b.k, .int .i64 b.n, .string b.s] 23)).alloc (.cells #[.int .i64 0, .int .i64 0, .string ⟨#[]⟩] 23)) = w1 at HA HO HZ HB ⊢
  have HA1 := HA; have HO1 := HO; have HZ1 := HZ; have HB1 := HB
  have HLE := Lib.hid (show w.heap.size ≤ q + 2 by omega)
  obtain ⟨a0, a1, a2⟩ := HA.out.cells
  obtain ⟨o0, o1, o2⟩ := HO.out.cells
  obtain ⟨m0, m1, m2⟩ := HZ.out.melts
  obtain ⟨u0, u1, u2⟩ := HZ.out.cells
  clear hz
  go_wp2_with fail
  all_goals exact bodyPost_ret (out_vl (HZ.out.put3 a) _ _ 6 res_rtwo rfl) rfl ⟨rfl, belowV3 HB.out HLE.out a⟩
set_option maxRecDepth 100000 in
set_option maxHeartbeats 1600000 in
theorem rtwo_b (kind : Int) (a b : Vl) (ha4 : ¬ a.k = 4) (hb4 : b.k = 4) (w : World) : Calls Tryd.prog 20 #[.int .i64 kind, .agg #[.int .i64 a.k, .int .i64 a.n, .string a.s], .agg #[.int .i64 b.k, .int .i64 b.n, .string b.s]] w fun e w' => e = .returned (.agg #[.int .i64 b.k, .int .i64 b.n, .string b.s]) ∧ Below w.heap.size w w' := by
  have ea4 : (a.k == 4) = false := beq_eq_false_iff_ne.2 ha4
  clear ha4
  have eb4 : (b.k == 4) = true := beq_iff_eq.2 hb4
  clear hb4
  obtain ⟨k1, k2, k3, k4⟩ := vl_open2 w a b
  have HA := Lib.hid k1; have HO := Lib.hid k2; have HZ := Lib.hid k3; have HB := Lib.hid k4
  clear k1 k2 k3 k4
  go_enter Tryd.func20, Tryd.ntmps20
  go_upto_region 1 with (fail)
  generalize hz : w.heap.size = q at HA HO HZ ⊢
  generalize (((w.alloc (.cells #[.int .i64 a.k, .int .i64 a.n, .string a.s] 23)).alloc (.cells #[.int .i64 b.k, .int .i64 b.n, .string b.s] 23)).alloc (.cells #[.int .i64 0, .int .i64 0, .string ⟨#[]⟩] 23)) = w1 at HA HO HZ HB ⊢
  have HA1 := HA; have HO1 := HO; have HZ1 := HZ; have HB1 := HB
  have HLE := Lib.hid (show w.heap.size ≤ q + 2 by omega)
  obtain ⟨a0, a1, a2⟩ := HA.out.cells
  obtain ⟨o0, o1, o2⟩ := HO.out.cells
  obtain ⟨m0, m1, m2⟩ := HZ.out.melts
  obtain ⟨u0, u1, u2⟩ := HZ.out.cells
  clear hz
  go_wp2_with fail
  all_goals exact bodyPost_ret (out_vl (HZ.out.put3 b) _ _ 6 res_rtwo rfl) rfl ⟨rfl, belowV3 HB.out HLE.out b⟩
set_option maxRecDepth 100000 in
set_option maxHeartbeats 1600000 in
theorem rtwo_9 (a b : Vl) (ha4 : ¬ a.k = 4) (hb4 : ¬ b.k = 4) (ma : mayV a = true) (mb : mayV b = true) (w : World) : Calls Tryd.prog 20 #[.int .i64 9, .agg #[.int .i64 a.k, .int .i64 a.n, .string a.s], .agg #[.int .i64 b.k, .int .i64 b.n, .string b.s]] w fun e w' => e = .returned (.agg #[.int .i64 (Vl.truth (decide (cmpV a b = 0))).k, .int .i64 (Vl.truth (decide (cmpV a b = 0))).n, .string (Vl.truth (decide (cmpV a b = 0))).s]) ∧ Below w.heap.size w w' := by
  have ea4 : (a.k == 4) = false := beq_eq_false_iff_ne.2 ha4
  clear ha4
  have eb4 : (b.k == 4) = false := beq_eq_false_iff_ne.2 hb4
  clear hb4
  have hc := rorder_any a b ma mb
  generalize cmpV a b = c at hc ⊢
  have ht := rtruth_any (c == 0)
  rw [dec_beq]
  generalize Vl.truth (c == 0) = v at ht ⊢
  have HC := Lib.hid hc; have HT := Lib.hid ht
  clear hc ht ma mb
  obtain ⟨k1, k2, k3, k4⟩ := vl_open2 w a b
  have HA := Lib.hid k1; have HO := Lib.hid k2; have HZ := Lib.hid k3; have HB := Lib.hid k4
  clear k1 k2 k3 k4
  go_enter Tryd.func20, Tryd.ntmps20
  go_upto_region 1 with (fail)
  generalize hz : w.heap.size = q at HA HO HZ ⊢
  generalize (((w.alloc (.cells #[.int .i64 a.k, .int .i64 a.n, .string a.s] 23)).alloc (.cells #[.int .i64 b.k, .int .i64 b.n, .string b.s] 23)).alloc (.cells #[.int .i64 0, .int .i64 0, .string ⟨#[]⟩] 23)) = w1 at HA HO HZ HB ⊢
  have HA1 := HA; have HO1 := HO; have HZ1 := HZ; have HB1 := HB
  have HLE := Lib.hid (show w.heap.size ≤ q + 2 by omega)
  obtain ⟨a0, a1, a2⟩ := HA.out.cells
  obtain ⟨o0, o1, o2⟩ := HO.out.cells
  obtain ⟨m0, m1, m2⟩ := HZ.out.melts
  obtain ⟨u0, u1, u2⟩ := HZ.out.cells
  clear hz
  go_wp2_with (first
    | (go_at_call 32; ((with_reducible refine (HC.out _).mono ?_); rintro e w2 ⟨rfl, hb⟩; have HA2 := Lib.hid (HA1.out.over hb); have HO2 := Lib.hid (HO1.out.over hb); have HZ2 := Lib.hid (HZ1.out.over hb); have HB2 := Lib.hid (HB1.out.trans (hb.mono HB1.out.size)); obtain ⟨d0, d1, d2⟩ := HA2.out.cells; obtain ⟨d3, d4, d5⟩ := HO2.out.cells; obtain ⟨m0, m1, m2⟩ := HZ2.out.melts; obtain ⟨u0, u1, u2⟩ := HZ2.out.cells; clear hb))
    | (go_at_call 33; ((with_reducible refine (HT.out _).mono ?_); rintro e w3 ⟨rfl, hb⟩; have HZ3 := Lib.hid (HZ2.out.over hb); obtain ⟨m0, m1, m2⟩ := HZ3.out.melts; obtain ⟨u0, u1, u2⟩ := HZ3.out.cells; have HB3 := Lib.hid (HB2.out.trans (hb.mono HB2.out.size)); clear hb)))
  all_goals exact bodyPost_ret (out_vl (HZ3.out.put3 v) _ _ 6 res_rtwo rfl) rfl ⟨rfl, belowV3 HB3.out HLE.out v⟩
set_option maxRecDepth 100000 in
set_option maxHeartbeats 1600000 in
theorem rtwo_10 (a b : Vl) (ha4 : ¬ a.k = 4) (hb4 : ¬ b.k = 4) (ma : mayV a = true) (mb : mayV b = true) (w : World) : Calls Tryd.prog 20 #[.int .i64 10, .agg #[.int .i64 a.k, .int .i64 a.n, .string a.s], .agg #[.int .i64 b.k, .int .i64 b.n, .string b.s]] w fun e w' => e = .returned (.agg #[.int .i64 (Vl.truth (decide (¬ cmpV a b = 0))).k, .int .i64 (Vl.truth (decide (¬ cmpV a b = 0))).n, .string (Vl.truth (decide (¬ cmpV a b = 0))).s]) ∧ Below w.heap.size w w' := by
  have ea4 : (a.k == 4) = false := beq_eq_false_iff_ne.2 ha4
  clear ha4
  have eb4 : (b.k == 4) = false := beq_eq_false_iff_ne.2 hb4
  clear hb4
  have hc := rorder_any a b ma mb
  generalize cmpV a b = c at hc ⊢
  have ht := rtruth_any (c != 0)
  rw [dec_bne]
  generalize Vl.truth (c != 0) = v at ht ⊢
  have HC := Lib.hid hc; have HT := Lib.hid ht
  clear hc ht ma mb
  obtain ⟨k1, k2, k3, k4⟩ := vl_open2 w a b
  have HA := Lib.hid k1; have HO := Lib.hid k2; have HZ := Lib.hid k3; have HB := Lib.hid k4
  clear k1 k2 k3 k4
  go_enter Tryd.func20, Tryd.ntmps20
  go_upto_region 1 with (fail)
  generalize hz : w.heap.size = q at HA HO HZ ⊢
  generalize (((w.alloc (.cells #[.int .i64 a.k, .int .i64 a.n, .string a.s] 23)).alloc (.cells #[.int .i64 b.k, .int .i64 b.n, .string b.s] 23)).alloc (.cells #[.int .i64 0, .int .i64 0, .string ⟨#[]⟩] 23)) = w1 at HA HO HZ HB ⊢
  have HA1 := HA; have HO1 := HO; have HZ1 := HZ; have HB1 := HB
  have HLE := Lib.hid (show w.heap.size ≤ q + 2 by omega)
  obtain ⟨a0, a1, a2⟩ := HA.out.cells
  obtain ⟨o0, o1, o2⟩ := HO.out.cells
  obtain ⟨m0, m1, m2⟩ := HZ.out.melts
  obtain ⟨u0, u1, u2⟩ := HZ.out.cells
  clear hz
  go_wp2_with (first
    | (go_at_call 32; ((with_reducible refine (HC.out _).mono ?_); rintro e w2 ⟨rfl, hb⟩; have HA2 := Lib.hid (HA1.out.over hb); have HO2 := Lib.hid (HO1.out.over hb); have HZ2 := Lib.hid (HZ1.out.over hb); have HB2 := Lib.hid (HB1.out.trans (hb.mono HB1.out.size)); obtain ⟨d0, d1, d2⟩ := HA2.out.cells; obtain ⟨d3, d4, d5⟩ := HO2.out.cells; obtain ⟨m0, m1, m2⟩ := HZ2.out.melts; obtain ⟨u0, u1, u2⟩ := HZ2.out.cells; clear hb))
    | (go_at_call 33; ((with_reducible refine (HT.out _).mono ?_); rintro e w3 ⟨rfl, hb⟩; have HZ3 := Lib.hid (HZ2.out.over hb); obtain ⟨m0, m1, m2⟩ := HZ3.out.melts; obtain ⟨u0, u1, u2⟩ := HZ3.out.cells; have HB3 := Lib.hid (HB2.out.trans (hb.mono HB2.out.size)); clear hb)))
  all_goals exact bodyPost_ret (out_vl (HZ3.out.put3 v) _ _ 6 res_rtwo rfl) rfl ⟨rfl, belowV3 HB3.out HLE.out v⟩
set_option maxRecDepth 100000 in
set_option maxHeartbeats 1600000 in
theorem rtwo_11 (a b : Vl) (ha4 : ¬ a.k = 4) (hb4 : ¬ b.k = 4) (ma : mayV a = true) (mb : mayV b = true) (w : World) : Calls Tryd.prog 20 #[.int .i64 11, .agg #[.int .i64 a.k, .int .i64 a.n, .string a.s], .agg #[.int .i64 b.k, .int .i64 b.n, .string b.s]] w fun e w' => e = .returned (.agg #[.int .i64 (Vl.truth (decide (cmpV a b < 0))).k, .int .i64 (Vl.truth (decide (cmpV a b < 0))).n, .string (Vl.truth (decide (cmpV a b < 0))).s]) ∧ Below w.heap.size w w' := by
  have ea4 : (a.k == 4) = false := beq_eq_false_iff_ne.2 ha4
  clear ha4
  have eb4 : (b.k == 4) = false := beq_eq_false_iff_ne.2 hb4
  clear hb4
  have hc := rorder_any a b ma mb
  generalize cmpV a b = c at hc ⊢
  have ht := rtruth_any (decide (c < 0))
  skip
  generalize Vl.truth (decide (c < 0)) = v at ht ⊢
  have HC := Lib.hid hc; have HT := Lib.hid ht
  clear hc ht ma mb
  obtain ⟨k1, k2, k3, k4⟩ := vl_open2 w a b
  have HA := Lib.hid k1; have HO := Lib.hid k2; have HZ := Lib.hid k3; have HB := Lib.hid k4
  clear k1 k2 k3 k4
  go_enter Tryd.func20, Tryd.ntmps20
  go_upto_region 1 with (fail)
  generalize hz : w.heap.size = q at HA HO HZ ⊢
  generalize (((w.alloc (.cells #[.int .i64 a.k, .int .i64 a.n, .string a.s] 23)).alloc (.cells #[.int .i64 b.k, .int .i64 b.n, .string b.s] 23)).alloc (.cells #[.int .i64 0, .int .i64 0, .string ⟨#[]⟩] 23)) = w1 at HA HO HZ HB ⊢
  have HA1 := HA; have HO1 := HO; have HZ1 := HZ; have HB1 := HB
  have HLE := Lib.hid (show w.heap.size ≤ q + 2 by omega)
  obtain ⟨a0, a1, a2⟩ := HA.out.cells
  obtain ⟨o0, o1, o2⟩ := HO.out.cells
  obtain ⟨m0, m1, m2⟩ := HZ.out.melts
  obtain ⟨u0, u1, u2⟩ := HZ.out.cells
  clear hz
  go_wp2_with (first
    | (go_at_call 32; ((with_reducible refine (HC.out _).mono ?_); rintro e w2 ⟨rfl, hb⟩; have HA2 := Lib.hid (HA1.out.over hb); have HO2 := Lib.hid (HO1.out.over hb); have HZ2 := Lib.hid (HZ1.out.over hb); have HB2 := Lib.hid (HB1.out.trans (hb.mono HB1.out.size)); obtain ⟨d0, d1, d2⟩ := HA2.out.cells; obtain ⟨d3, d4, d5⟩ := HO2.out.cells; obtain ⟨m0, m1, m2⟩ := HZ2.out.melts; obtain ⟨u0, u1, u2⟩ := HZ2.out.cells; clear hb))
    | (go_at_call 33; ((with_reducible refine (HT.out _).mono ?_); rintro e w3 ⟨rfl, hb⟩; have HZ3 := Lib.hid (HZ2.out.over hb); obtain ⟨m0, m1, m2⟩ := HZ3.out.melts; obtain ⟨u0, u1, u2⟩ := HZ3.out.cells; have HB3 := Lib.hid (HB2.out.trans (hb.mono HB2.out.size)); clear hb)))
  all_goals exact bodyPost_ret (out_vl (HZ3.out.put3 v) _ _ 6 res_rtwo rfl) rfl ⟨rfl, belowV3 HB3.out HLE.out v⟩
set_option maxRecDepth 100000 in
set_option maxHeartbeats 1600000 in
theorem rtwo_12 (a b : Vl) (ha4 : ¬ a.k = 4) (hb4 : ¬ b.k = 4) (ma : mayV a = true) (mb : mayV b = true) (w : World) : Calls Tryd.prog 20 #[.int .i64 12, .agg #[.int .i64 a.k, .int .i64 a.n, .string a.s], .agg #[.int .i64 b.k, .int .i64 b.n, .string b.s]] w fun e w' => e = .returned (.agg #[.int .i64 (Vl.truth (decide (cmpV a b ≤ 0))).k, .int .i64 (Vl.truth (decide (cmpV a b ≤ 0))).n, .string (Vl.truth (decide (cmpV a b ≤ 0))).s]) ∧ Below w.heap.size w w' := by
  have ea4 : (a.k == 4) = false := beq_eq_false_iff_ne.2 ha4
  clear ha4
  have eb4 : (b.k == 4) = false := beq_eq_false_iff_ne.2 hb4
  clear hb4
  have hc := rorder_any a b ma mb
  generalize cmpV a b = c at hc ⊢
  have ht := rtruth_any (decide (c ≤ 0))
  skip
  generalize Vl.truth (decide (c ≤ 0)) = v at ht ⊢
  have HC := Lib.hid hc; have HT := Lib.hid ht
  clear hc ht ma mb
  obtain ⟨k1, k2, k3, k4⟩ := vl_open2 w a b
  have HA := Lib.hid k1; have HO := Lib.hid k2; have HZ := Lib.hid k3; have HB := Lib.hid k4
  clear k1 k2 k3 k4
  go_enter Tryd.func20, Tryd.ntmps20
  go_upto_region 1 with (fail)
  generalize hz : w.heap.size = q at HA HO HZ ⊢
  generalize (((w.alloc (.cells #[.int .i64 a.k, .int .i64 a.n, .string a.s] 23)).alloc (.cells #[.int .i64 b.k, .int .i64 b.n, .string b.s] 23)).alloc (.cells #[.int .i64 0, .int .i64 0, .string ⟨#[]⟩] 23)) = w1 at HA HO HZ HB ⊢
  have HA1 := HA; have HO1 := HO; have HZ1 := HZ; have HB1 := HB
  have HLE := Lib.hid (show w.heap.size ≤ q + 2 by omega)
  obtain ⟨a0, a1, a2⟩ := HA.out.cells
  obtain ⟨o0, o1, o2⟩ := HO.out.cells
  obtain ⟨m0, m1, m2⟩ := HZ.out.melts
  obtain ⟨u0, u1, u2⟩ := HZ.out.cells
  clear hz
  go_wp2_with (first
    | (go_at_call 32; ((with_reducible refine (HC.out _).mono ?_); rintro e w2 ⟨rfl, hb⟩; have HA2 := Lib.hid (HA1.out.over hb); have HO2 := Lib.hid (HO1.out.over hb); have HZ2 := Lib.hid (HZ1.out.over hb); have HB2 := Lib.hid (HB1.out.trans (hb.mono HB1.out.size)); obtain ⟨d0, d1, d2⟩ := HA2.out.cells; obtain ⟨d3, d4, d5⟩ := HO2.out.cells; obtain ⟨m0, m1, m2⟩ := HZ2.out.melts; obtain ⟨u0, u1, u2⟩ := HZ2.out.cells; clear hb))
    | (go_at_call 33; ((with_reducible refine (HT.out _).mono ?_); rintro e w3 ⟨rfl, hb⟩; have HZ3 := Lib.hid (HZ2.out.over hb); obtain ⟨m0, m1, m2⟩ := HZ3.out.melts; obtain ⟨u0, u1, u2⟩ := HZ3.out.cells; have HB3 := Lib.hid (HB2.out.trans (hb.mono HB2.out.size)); clear hb)))
  all_goals exact bodyPost_ret (out_vl (HZ3.out.put3 v) _ _ 6 res_rtwo rfl) rfl ⟨rfl, belowV3 HB3.out HLE.out v⟩
set_option maxRecDepth 100000 in
set_option maxHeartbeats 1600000 in
theorem rtwo_13 (a b : Vl) (ha4 : ¬ a.k = 4) (hb4 : ¬ b.k = 4) (ma : mayV a = true) (mb : mayV b = true) (w : World) : Calls Tryd.prog 20 #[.int .i64 13, .agg #[.int .i64 a.k, .int .i64 a.n, .string a.s], .agg #[.int .i64 b.k, .int .i64 b.n, .string b.s]] w fun e w' => e = .returned (.agg #[.int .i64 (Vl.truth (decide (0 < cmpV a b))).k, .int .i64 (Vl.truth (decide (0 < cmpV a b))).n, .string (Vl.truth (decide (0 < cmpV a b))).s]) ∧ Below w.heap.size w w' := by
  have ea4 : (a.k == 4) = false := beq_eq_false_iff_ne.2 ha4
  clear ha4
  have eb4 : (b.k == 4) = false := beq_eq_false_iff_ne.2 hb4
  clear hb4
  have hc := rorder_any a b ma mb
  generalize cmpV a b = c at hc ⊢
  have ht := rtruth_any (decide (0 < c))
  skip
  generalize Vl.truth (decide (0 < c)) = v at ht ⊢
  have HC := Lib.hid hc; have HT := Lib.hid ht
  clear hc ht ma mb
  obtain ⟨k1, k2, k3, k4⟩ := vl_open2 w a b
  have HA := Lib.hid k1; have HO := Lib.hid k2; have HZ := Lib.hid k3; have HB := Lib.hid k4
  clear k1 k2 k3 k4
  go_enter Tryd.func20, Tryd.ntmps20
  go_upto_region 1 with (fail)
  generalize hz : w.heap.size = q at HA HO HZ ⊢
  generalize (((w.alloc (.cells #[.int .i64 a.k, .int .i64 a.n, .string a.s] 23)).alloc (.cells #[.int .i64 b.k, .int .i64 b.n, .string b.s] 23)).alloc (.cells #[.int .i64 0, .int .i64 0, .string ⟨#[]⟩] 23)) = w1 at HA HO HZ HB ⊢
  have HA1 := HA; have HO1 := HO; have HZ1 := HZ; have HB1 := HB
  have HLE := Lib.hid (show w.heap.size ≤ q + 2 by omega)
  obtain ⟨a0, a1, a2⟩ := HA.out.cells
  obtain ⟨o0, o1, o2⟩ := HO.out.cells
  obtain ⟨m0, m1, m2⟩ := HZ.out.melts
  obtain ⟨u0, u1, u2⟩ := HZ.out.cells
  clear hz
  go_wp2_with (first
    | (go_at_call 32; ((with_reducible refine (HC.out _).mono ?_); rintro e w2 ⟨rfl, hb⟩; have HA2 := Lib.hid (HA1.out.over hb); have HO2 := Lib.hid (HO1.out.over hb); have HZ2 := Lib.hid (HZ1.out.over hb); have HB2 := Lib.hid (HB1.out.trans (hb.mono HB1.out.size)); obtain ⟨d0, d1, d2⟩ := HA2.out.cells; obtain ⟨d3, d4, d5⟩ := HO2.out.cells; obtain ⟨m0, m1, m2⟩ := HZ2.out.melts; obtain ⟨u0, u1, u2⟩ := HZ2.out.cells; clear hb))
    | (go_at_call 33; ((with_reducible refine (HT.out _).mono ?_); rintro e w3 ⟨rfl, hb⟩; have HZ3 := Lib.hid (HZ2.out.over hb); obtain ⟨m0, m1, m2⟩ := HZ3.out.melts; obtain ⟨u0, u1, u2⟩ := HZ3.out.cells; have HB3 := Lib.hid (HB2.out.trans (hb.mono HB2.out.size)); clear hb)))
  all_goals exact bodyPost_ret (out_vl (HZ3.out.put3 v) _ _ 6 res_rtwo rfl) rfl ⟨rfl, belowV3 HB3.out HLE.out v⟩
set_option maxRecDepth 100000 in
set_option maxHeartbeats 1600000 in
theorem rtwo_14 (a b : Vl) (ha4 : ¬ a.k = 4) (hb4 : ¬ b.k = 4) (ma : mayV a = true) (mb : mayV b = true) (w : World) : Calls Tryd.prog 20 #[.int .i64 14, .agg #[.int .i64 a.k, .int .i64 a.n, .string a.s], .agg #[.int .i64 b.k, .int .i64 b.n, .string b.s]] w fun e w' => e = .returned (.agg #[.int .i64 (Vl.truth (decide (0 ≤ cmpV a b))).k, .int .i64 (Vl.truth (decide (0 ≤ cmpV a b))).n, .string (Vl.truth (decide (0 ≤ cmpV a b))).s]) ∧ Below w.heap.size w w' := by
  have ea4 : (a.k == 4) = false := beq_eq_false_iff_ne.2 ha4
  clear ha4
  have eb4 : (b.k == 4) = false := beq_eq_false_iff_ne.2 hb4
  clear hb4
  have hc := rorder_any a b ma mb
  generalize cmpV a b = c at hc ⊢
  have ht := rtruth_any (decide (0 ≤ c))
  skip
  generalize Vl.truth (decide (0 ≤ c)) = v at ht ⊢
  have HC := Lib.hid hc; have HT := Lib.hid ht
  clear hc ht ma mb
  obtain ⟨k1, k2, k3, k4⟩ := vl_open2 w a b
  have HA := Lib.hid k1; have HO := Lib.hid k2; have HZ := Lib.hid k3; have HB := Lib.hid k4
  clear k1 k2 k3 k4
  go_enter Tryd.func20, Tryd.ntmps20
  go_upto_region 1 with (fail)
  generalize hz : w.heap.size = q at HA HO HZ ⊢
  generalize (((w.alloc (.cells #[.int .i64 a.k, .int .i64 a.n, .string a.s] 23)).alloc (.cells #[.int .i64 b.k, .int .i64 b.n, .string b.s] 23)).alloc (.cells #[.int .i64 0, .int .i64 0, .string ⟨#[]⟩] 23)) = w1 at HA HO HZ HB ⊢
  have HA1 := HA; have HO1 := HO; have HZ1 := HZ; have HB1 := HB
  have HLE := Lib.hid (show w.heap.size ≤ q + 2 by omega)
  obtain ⟨a0, a1, a2⟩ := HA.out.cells
  obtain ⟨o0, o1, o2⟩ := HO.out.cells
  obtain ⟨m0, m1, m2⟩ := HZ.out.melts
  obtain ⟨u0, u1, u2⟩ := HZ.out.cells
  clear hz
  go_wp2_with (first
    | (go_at_call 32; ((with_reducible refine (HC.out _).mono ?_); rintro e w2 ⟨rfl, hb⟩; have HA2 := Lib.hid (HA1.out.over hb); have HO2 := Lib.hid (HO1.out.over hb); have HZ2 := Lib.hid (HZ1.out.over hb); have HB2 := Lib.hid (HB1.out.trans (hb.mono HB1.out.size)); obtain ⟨d0, d1, d2⟩ := HA2.out.cells; obtain ⟨d3, d4, d5⟩ := HO2.out.cells; obtain ⟨m0, m1, m2⟩ := HZ2.out.melts; obtain ⟨u0, u1, u2⟩ := HZ2.out.cells; clear hb))
    | (go_at_call 33; ((with_reducible refine (HT.out _).mono ?_); rintro e w3 ⟨rfl, hb⟩; have HZ3 := Lib.hid (HZ2.out.over hb); obtain ⟨m0, m1, m2⟩ := HZ3.out.melts; obtain ⟨u0, u1, u2⟩ := HZ3.out.cells; have HB3 := Lib.hid (HB2.out.trans (hb.mono HB2.out.size)); clear hb)))
  all_goals exact bodyPost_ret (out_vl (HZ3.out.put3 v) _ _ 6 res_rtwo rfl) rfl ⟨rfl, belowV3 HB3.out HLE.out v⟩
set_option maxRecDepth 100000 in
set_option maxHeartbeats 1600000 in
theorem rtwo_x (kind : Int) (a b : Vl) (ha4 : ¬ a.k = 4) (hb4 : ¬ b.k = 4) (ma : mayV a = true) (mb : mayV b = true) (hk : kind < 9 ∨ 20 ≤ kind) (w : World) : Calls Tryd.prog 20 #[.int .i64 kind, .agg #[.int .i64 a.k, .int .i64 a.n, .string a.s], .agg #[.int .i64 b.k, .int .i64 b.n, .string b.s]] w fun e w' => e = .returned (.agg #[.int .i64 (Vl.err 1).k, .int .i64 (Vl.err 1).n, .string (Vl.err 1).s]) ∧ Below w.heap.size w w' := by
  have ea4 : (a.k == 4) = false := beq_eq_false_iff_ne.2 ha4
  clear ha4
  have eb4 : (b.k == 4) = false := beq_eq_false_iff_ne.2 hb4
  clear hb4
  have k9 : (kind == 9) = false := beq_eq_false_iff_ne.2 (by omega)
  have k10 : (kind == 10) = false := beq_eq_false_iff_ne.2 (by omega)
  have k11 : (kind == 11) = false := beq_eq_false_iff_ne.2 (by omega)
  have k12 : (kind == 12) = false := beq_eq_false_iff_ne.2 (by omega)
  have k13 : (kind == 13) = false := beq_eq_false_iff_ne.2 (by omega)
  have k14 : (kind == 14) = false := beq_eq_false_iff_ne.2 (by omega)
  have k15 : (kind == 15) = false := beq_eq_false_iff_ne.2 (by omega)
  have hc := rorder_any a b ma mb
  have HC := Lib.hid hc
  have HN := Lib.hid (fun (w : World) => rno_any 1 w)
  clear hc ma mb
  by_cases hk9 : kind < 9
  · have k16 : ¬ (16 : Int) ≤ kind := by omega
    clear hk hk9
    obtain ⟨k1, k2, k3, k4⟩ := vl_open2 w a b
    have HA := Lib.hid k1; have HO := Lib.hid k2; have HZ := Lib.hid k3; have HB := Lib.hid k4
    clear k1 k2 k3 k4
    go_enter Tryd.func20, Tryd.ntmps20
    go_upto_region 1 with (fail)
    generalize hz : w.heap.size = q at HA HO HZ ⊢
    generalize (((w.alloc (.cells #[.int .i64 a.k, .int .i64 a.n, .string a.s] 23)).alloc (.cells #[.int .i64 b.k, .int .i64 b.n, .string b.s] 23)).alloc (.cells #[.int .i64 0, .int .i64 0, .string ⟨#[]⟩] 23)) = w1 at HA HO HZ HB ⊢
    have HA1 := HA; have HO1 := HO; have HZ1 := HZ; have HB1 := HB
    have HLE := Lib.hid (show w.heap.size ≤ q + 2 by omega)
    obtain ⟨a0, a1, a2⟩ := HA.out.cells
    obtain ⟨o0, o1, o2⟩ := HO.out.cells
    obtain ⟨m0, m1, m2⟩ := HZ.out.melts
    obtain ⟨u0, u1, u2⟩ := HZ.out.cells
    clear hz
    go_wp2_with (first
      | (go_at_call 32; ((with_reducible refine (HC.out _).mono ?_); rintro e w2 ⟨rfl, hb⟩; have HA2 := Lib.hid (HA1.out.over hb); have HO2 := Lib.hid (HO1.out.over hb); have HZ2 := Lib.hid (HZ1.out.over hb); have HB2 := Lib.hid (HB1.out.trans (hb.mono HB1.out.size)); obtain ⟨d0, d1, d2⟩ := HA2.out.cells; obtain ⟨d3, d4, d5⟩ := HO2.out.cells; obtain ⟨m0, m1, m2⟩ := HZ2.out.melts; obtain ⟨u0, u1, u2⟩ := HZ2.out.cells; clear hb))
      | (go_at_call 28; ((with_reducible refine (HN.out _).mono ?_); rintro e w3 ⟨rfl, hb⟩; have HZ3 := Lib.hid (HZ2.out.over hb); obtain ⟨m0, m1, m2⟩ := HZ3.out.melts; obtain ⟨u0, u1, u2⟩ := HZ3.out.cells; have HB3 := Lib.hid (HB2.out.trans (hb.mono HB2.out.size)); clear hb)))
    all_goals exact bodyPost_ret (out_vl (HZ3.out.put3 (Vl.err 1)) _ _ 6 res_rtwo rfl) rfl ⟨rfl, belowV3 HB3.out HLE.out (Vl.err 1)⟩
  · have k16 : (16 : Int) ≤ kind := by omega
    have k19 : ¬ kind ≤ 19 := by omega
    clear hk hk9
    obtain ⟨k1, k2, k3, k4⟩ := vl_open2 w a b
    have HA := Lib.hid k1; have HO := Lib.hid k2; have HZ := Lib.hid k3; have HB := Lib.hid k4
    clear k1 k2 k3 k4
    go_enter Tryd.func20, Tryd.ntmps20
    go_upto_region 1 with (fail)
    generalize hz : w.heap.size = q at HA HO HZ ⊢
    generalize (((w.alloc (.cells #[.int .i64 a.k, .int .i64 a.n, .string a.s] 23)).alloc (.cells #[.int .i64 b.k, .int .i64 b.n, .string b.s] 23)).alloc (.cells #[.int .i64 0, .int .i64 0, .string ⟨#[]⟩] 23)) = w1 at HA HO HZ HB ⊢
    have HA1 := HA; have HO1 := HO; have HZ1 := HZ; have HB1 := HB
    have HLE := Lib.hid (show w.heap.size ≤ q + 2 by omega)
    obtain ⟨a0, a1, a2⟩ := HA.out.cells
    obtain ⟨o0, o1, o2⟩ := HO.out.cells
    obtain ⟨m0, m1, m2⟩ := HZ.out.melts
    obtain ⟨u0, u1, u2⟩ := HZ.out.cells
    clear hz
    go_wp2_with (first
      | (go_at_call 32; ((with_reducible refine (HC.out _).mono ?_); rintro e w2 ⟨rfl, hb⟩; have HA2 := Lib.hid (HA1.out.over hb); have HO2 := Lib.hid (HO1.out.over hb); have HZ2 := Lib.hid (HZ1.out.over hb); have HB2 := Lib.hid (HB1.out.trans (hb.mono HB1.out.size)); obtain ⟨d0, d1, d2⟩ := HA2.out.cells; obtain ⟨d3, d4, d5⟩ := HO2.out.cells; obtain ⟨m0, m1, m2⟩ := HZ2.out.melts; obtain ⟨u0, u1, u2⟩ := HZ2.out.cells; clear hb))
      | (go_at_call 28; ((with_reducible refine (HN.out _).mono ?_); rintro e w3 ⟨rfl, hb⟩; have HZ3 := Lib.hid (HZ2.out.over hb); obtain ⟨m0, m1, m2⟩ := HZ3.out.melts; obtain ⟨u0, u1, u2⟩ := HZ3.out.cells; have HB3 := Lib.hid (HB2.out.trans (hb.mono HB2.out.size)); clear hb)))
    all_goals exact bodyPost_ret (out_vl (HZ3.out.put3 (Vl.err 1)) _ _ 6 res_rtwo rfl) rfl ⟨rfl, belowV3 HB3.out HLE.out (Vl.err 1)⟩
set_option maxRecDepth 100000 in
set_option maxHeartbeats 1600000 in
theorem rtwo_16n (a b : Vl) (ha4 : ¬ a.k = 4) (hb4 : ¬ b.k = 4) (ma : mayV a = true) (mb : mayV b = true) (h : isInt a = false) (w : World) : Calls Tryd.prog 20 #[.int .i64 16, .agg #[.int .i64 a.k, .int .i64 a.n, .string a.s], .agg #[.int .i64 b.k, .int .i64 b.n, .string b.s]] w fun e w' => e = .returned (.agg #[.int .i64 (Vl.err 1).k, .int .i64 (Vl.err 1).n, .string (Vl.err 1).s]) ∧ Below w.heap.size w w' := by
  have ea4 : (a.k == 4) = false := beq_eq_false_iff_ne.2 ha4
  clear ha4
  have eb4 : (b.k == 4) = false := beq_eq_false_iff_ne.2 hb4
  clear hb4
  have hia := rint_any a ma
  have hib := rint_any b mb
  rw [h] at hia
  have HN := Lib.hid (fun (w : World) => rno_any 1 w)
  have HIA := Lib.hid hia; have HIB := Lib.hid hib
  clear hia hib ma mb
  obtain ⟨k1, k2, k3, k4⟩ := vl_open2 w a b
  have HA := Lib.hid k1; have HO := Lib.hid k2; have HZ := Lib.hid k3; have HB := Lib.hid k4
  clear k1 k2 k3 k4
  go_enter Tryd.func20, Tryd.ntmps20
  go_upto_region 1 with (fail)
  generalize hz : w.heap.size = q at HA HO HZ ⊢
  generalize (((w.alloc (.cells #[.int .i64 a.k, .int .i64 a.n, .string a.s] 23)).alloc (.cells #[.int .i64 b.k, .int .i64 b.n, .string b.s] 23)).alloc (.cells #[.int .i64 0, .int .i64 0, .string ⟨#[]⟩] 23)) = w1 at HA HO HZ HB ⊢
  have HA1 := HA; have HO1 := HO; have HZ1 := HZ; have HB1 := HB
  have HLE := Lib.hid (show w.heap.size ≤ q + 2 by omega)
  obtain ⟨a0, a1, a2⟩ := HA.out.cells
  obtain ⟨o0, o1, o2⟩ := HO.out.cells
  obtain ⟨m0, m1, m2⟩ := HZ.out.melts
  obtain ⟨u0, u1, u2⟩ := HZ.out.cells
  clear hz
  go_wp2_with (first
    | (go_at_call 14; ((with_reducible refine (HIA.out _).mono ?_); rintro e w2 ⟨rfl, hb⟩; have HA2 := Lib.hid (HA1.out.over hb); have HO2 := Lib.hid (HO1.out.over hb); have HZ2 := Lib.hid (HZ1.out.over hb); have HB2 := Lib.hid (HB1.out.trans (hb.mono HB1.out.size)); obtain ⟨d0, d1, d2⟩ := HA2.out.cells; obtain ⟨d3, d4, d5⟩ := HO2.out.cells; obtain ⟨m0, m1, m2⟩ := HZ2.out.melts; obtain ⟨u0, u1, u2⟩ := HZ2.out.cells; clear hb))
    | (go_at_call 14; ((with_reducible refine (HIB.out _).mono ?_); rintro e w3 ⟨rfl, hb⟩; have HA3 := Lib.hid (HA2.out.over hb); have HO3 := Lib.hid (HO2.out.over hb); have HZ3 := Lib.hid (HZ2.out.over hb); have HB3 := Lib.hid (HB2.out.trans (hb.mono HB2.out.size)); obtain ⟨g0, g1, g2⟩ := HA3.out.cells; obtain ⟨g3, g4, g5⟩ := HO3.out.cells; obtain ⟨m0, m1, m2⟩ := HZ3.out.melts; obtain ⟨u0, u1, u2⟩ := HZ3.out.cells; clear hb))
    | (go_at_call 28; ((with_reducible refine (HN.out _).mono ?_); rintro e w4 ⟨rfl, hb⟩; have HZ4 := Lib.hid (HZ3.out.over hb); obtain ⟨m0, m1, m2⟩ := HZ4.out.melts; obtain ⟨u0, u1, u2⟩ := HZ4.out.cells; have HB4 := Lib.hid (HB3.out.trans (hb.mono HB3.out.size)); clear hb)))
  all_goals exact bodyPost_ret (out_vl (HZ4.out.put3 (Vl.err 1)) _ _ 6 res_rtwo rfl) rfl ⟨rfl, belowV3 HB4.out HLE.out (Vl.err 1)⟩
set_option maxRecDepth 100000 in
set_option maxHeartbeats 1600000 in
theorem rtwo_16m (a b : Vl) (ha4 : ¬ a.k = 4) (hb4 : ¬ b.k = 4) (ma : mayV a = true) (mb : mayV b = true) (h : isInt a = true) (h2 : isInt b = false) (w : World) : Calls Tryd.prog 20 #[.int .i64 16, .agg #[.int .i64 a.k, .int .i64 a.n, .string a.s], .agg #[.int .i64 b.k, .int .i64 b.n, .string b.s]] w fun e w' => e = .returned (.agg #[.int .i64 (Vl.err 1).k, .int .i64 (Vl.err 1).n, .string (Vl.err 1).s]) ∧ Below w.heap.size w w' := by
  have ea4 : (a.k == 4) = false := beq_eq_false_iff_ne.2 ha4
  clear ha4
  have eb4 : (b.k == 4) = false := beq_eq_false_iff_ne.2 hb4
  clear hb4
  have hia := rint_any a ma
  have hib := rint_any b mb
  rw [h] at hia
  rw [h2] at hib
  have HN := Lib.hid (fun (w : World) => rno_any 1 w)
  have HIA := Lib.hid hia; have HIB := Lib.hid hib
  clear hia hib ma mb
  obtain ⟨k1, k2, k3, k4⟩ := vl_open2 w a b
  have HA := Lib.hid k1; have HO := Lib.hid k2; have HZ := Lib.hid k3; have HB := Lib.hid k4
  clear k1 k2 k3 k4
  go_enter Tryd.func20, Tryd.ntmps20
  go_upto_region 1 with (fail)
  generalize hz : w.heap.size = q at HA HO HZ ⊢
  generalize (((w.alloc (.cells #[.int .i64 a.k, .int .i64 a.n, .string a.s] 23)).alloc (.cells #[.int .i64 b.k, .int .i64 b.n, .string b.s] 23)).alloc (.cells #[.int .i64 0, .int .i64 0, .string ⟨#[]⟩] 23)) = w1 at HA HO HZ HB ⊢
  have HA1 := HA; have HO1 := HO; have HZ1 := HZ; have HB1 := HB
  have HLE := Lib.hid (show w.heap.size ≤ q + 2 by omega)
  obtain ⟨a0, a1, a2⟩ := HA.out.cells
  obtain ⟨o0, o1, o2⟩ := HO.out.cells
  obtain ⟨m0, m1, m2⟩ := HZ.out.melts
  obtain ⟨u0, u1, u2⟩ := HZ.out.cells
  clear hz
  go_wp2_with (first
    | (go_at_call 14; ((with_reducible refine (HIA.out _).mono ?_); rintro e w2 ⟨rfl, hb⟩; have HA2 := Lib.hid (HA1.out.over hb); have HO2 := Lib.hid (HO1.out.over hb); have HZ2 := Lib.hid (HZ1.out.over hb); have HB2 := Lib.hid (HB1.out.trans (hb.mono HB1.out.size)); obtain ⟨d0, d1, d2⟩ := HA2.out.cells; obtain ⟨d3, d4, d5⟩ := HO2.out.cells; obtain ⟨m0, m1, m2⟩ := HZ2.out.melts; obtain ⟨u0, u1, u2⟩ := HZ2.out.cells; clear hb))
    | (go_at_call 14; ((with_reducible refine (HIB.out _).mono ?_); rintro e w3 ⟨rfl, hb⟩; have HA3 := Lib.hid (HA2.out.over hb); have HO3 := Lib.hid (HO2.out.over hb); have HZ3 := Lib.hid (HZ2.out.over hb); have HB3 := Lib.hid (HB2.out.trans (hb.mono HB2.out.size)); obtain ⟨g0, g1, g2⟩ := HA3.out.cells; obtain ⟨g3, g4, g5⟩ := HO3.out.cells; obtain ⟨m0, m1, m2⟩ := HZ3.out.melts; obtain ⟨u0, u1, u2⟩ := HZ3.out.cells; clear hb))
    | (go_at_call 28; ((with_reducible refine (HN.out _).mono ?_); rintro e w4 ⟨rfl, hb⟩; have HZ4 := Lib.hid (HZ3.out.over hb); obtain ⟨m0, m1, m2⟩ := HZ4.out.melts; obtain ⟨u0, u1, u2⟩ := HZ4.out.cells; have HB4 := Lib.hid (HB3.out.trans (hb.mono HB3.out.size)); clear hb)))
  all_goals exact bodyPost_ret (out_vl (HZ4.out.put3 (Vl.err 1)) _ _ 6 res_rtwo rfl) rfl ⟨rfl, belowV3 HB4.out HLE.out (Vl.err 1)⟩
set_option maxRecDepth 100000 in
set_option maxHeartbeats 1600000 in
theorem rtwo_16y (a b : Vl) (ha4 : ¬ a.k = 4) (hb4 : ¬ b.k = 4) (ma : mayV a = true) (mb : mayV b = true) (h : isInt a = true) (h2 : isInt b = true) (oa : VOk a) (ob : VOk b) (w : World) : Calls Tryd.prog 20 #[.int .i64 16, .agg #[.int .i64 a.k, .int .i64 a.n, .string a.s], .agg #[.int .i64 b.k, .int .i64 b.n, .string b.s]] w fun e w' => e = .returned (.agg #[.int .i64 (sumV (intV a) (intV b)).k, .int .i64 (sumV (intV a) (intV b)).n, .string (sumV (intV a) (intV b)).s]) ∧ Below w.heap.size w w' := by
  have ea4 : (a.k == 4) = false := beq_eq_false_iff_ne.2 ha4
  clear ha4
  have eb4 : (b.k == 4) = false := beq_eq_false_iff_ne.2 hb4
  clear hb4
  have hia := rint_any a ma
  have hib := rint_any b mb
  rw [h] at hia
  rw [h2] at hib
  have hc : ∀ w : World, Calls Tryd.prog 31 #[.int .i64 16, .int .i64 (intV a), .int .i64 (intV b)] w _ := rreckon_any 16 (intV a) (intV b) oa.int.1 oa.int.2 ob.int.1 ob.int.2 (by decide)
  rw [show (if (16 : Int) = 16 then sumV (intV a) (intV b) else if (16 : Int) = 17 then subV (intV a) (intV b) else if (16 : Int) = 18 then mulV (intV a) (intV b) else divV (intV a) (intV b)) = sumV (intV a) (intV b) from rfl] at hc
  generalize sumV (intV a) (intV b) = v at hc ⊢
  generalize intV a = x at hc hia
  generalize intV b = y at hc hib
  have HC := Lib.hid hc
  clear hc oa ob
  have HIA := Lib.hid hia; have HIB := Lib.hid hib
  clear hia hib ma mb
  obtain ⟨k1, k2, k3, k4⟩ := vl_open2 w a b
  have HA := Lib.hid k1; have HO := Lib.hid k2; have HZ := Lib.hid k3; have HB := Lib.hid k4
  clear k1 k2 k3 k4
  go_enter Tryd.func20, Tryd.ntmps20
  go_upto_region 1 with (fail)
  generalize hz : w.heap.size = q at HA HO HZ ⊢
  generalize (((w.alloc (.cells #[.int .i64 a.k, .int .i64 a.n, .string a.s] 23)).alloc (.cells #[.int .i64 b.k, .int .i64 b.n, .string b.s] 23)).alloc (.cells #[.int .i64 0, .int .i64 0, .string ⟨#[]⟩] 23)) = w1 at HA HO HZ HB ⊢
  have HA1 := HA; have HO1 := HO; have HZ1 := HZ; have HB1 := HB
  have HLE := Lib.hid (show w.heap.size ≤ q + 2 by omega)
  obtain ⟨a0, a1, a2⟩ := HA.out.cells
  obtain ⟨o0, o1, o2⟩ := HO.out.cells
  obtain ⟨m0, m1, m2⟩ := HZ.out.melts
  obtain ⟨u0, u1, u2⟩ := HZ.out.cells
  clear hz
  go_wp2_with (first
    | (go_at_call 14; ((with_reducible refine (HIA.out _).mono ?_); rintro e w2 ⟨rfl, hb⟩; have HA2 := Lib.hid (HA1.out.over hb); have HO2 := Lib.hid (HO1.out.over hb); have HZ2 := Lib.hid (HZ1.out.over hb); have HB2 := Lib.hid (HB1.out.trans (hb.mono HB1.out.size)); obtain ⟨d0, d1, d2⟩ := HA2.out.cells; obtain ⟨d3, d4, d5⟩ := HO2.out.cells; obtain ⟨m0, m1, m2⟩ := HZ2.out.melts; obtain ⟨u0, u1, u2⟩ := HZ2.out.cells; clear hb))
    | (go_at_call 14; ((with_reducible refine (HIB.out _).mono ?_); rintro e w3 ⟨rfl, hb⟩; have HA3 := Lib.hid (HA2.out.over hb); have HO3 := Lib.hid (HO2.out.over hb); have HZ3 := Lib.hid (HZ2.out.over hb); have HB3 := Lib.hid (HB2.out.trans (hb.mono HB2.out.size)); obtain ⟨g0, g1, g2⟩ := HA3.out.cells; obtain ⟨g3, g4, g5⟩ := HO3.out.cells; obtain ⟨m0, m1, m2⟩ := HZ3.out.melts; obtain ⟨u0, u1, u2⟩ := HZ3.out.cells; clear hb))
    | (go_at_call 31; ((with_reducible refine (HC.out _).mono ?_); rintro e w4 ⟨rfl, hb⟩; have HZ4 := Lib.hid (HZ3.out.over hb); obtain ⟨m0, m1, m2⟩ := HZ4.out.melts; obtain ⟨u0, u1, u2⟩ := HZ4.out.cells; have HB4 := Lib.hid (HB3.out.trans (hb.mono HB3.out.size)); clear hb)))
  all_goals exact bodyPost_ret (out_vl (HZ4.out.put3 v) _ _ 6 res_rtwo rfl) rfl ⟨rfl, belowV3 HB4.out HLE.out v⟩
set_option maxRecDepth 100000 in
set_option maxHeartbeats 1600000 in
theorem rtwo_17n (a b : Vl) (ha4 : ¬ a.k = 4) (hb4 : ¬ b.k = 4) (ma : mayV a = true) (mb : mayV b = true) (h : isInt a = false) (w : World) : Calls Tryd.prog 20 #[.int .i64 17, .agg #[.int .i64 a.k, .int .i64 a.n, .string a.s], .agg #[.int .i64 b.k, .int .i64 b.n, .string b.s]] w fun e w' => e = .returned (.agg #[.int .i64 (Vl.err 1).k, .int .i64 (Vl.err 1).n, .string (Vl.err 1).s]) ∧ Below w.heap.size w w' := by
  have ea4 : (a.k == 4) = false := beq_eq_false_iff_ne.2 ha4
  clear ha4
  have eb4 : (b.k == 4) = false := beq_eq_false_iff_ne.2 hb4
  clear hb4
  have hia := rint_any a ma
  have hib := rint_any b mb
  rw [h] at hia
  have HN := Lib.hid (fun (w : World) => rno_any 1 w)
  have HIA := Lib.hid hia; have HIB := Lib.hid hib
  clear hia hib ma mb
  obtain ⟨k1, k2, k3, k4⟩ := vl_open2 w a b
  have HA := Lib.hid k1; have HO := Lib.hid k2; have HZ := Lib.hid k3; have HB := Lib.hid k4
  clear k1 k2 k3 k4
  go_enter Tryd.func20, Tryd.ntmps20
  go_upto_region 1 with (fail)
  generalize hz : w.heap.size = q at HA HO HZ ⊢
  generalize (((w.alloc (.cells #[.int .i64 a.k, .int .i64 a.n, .string a.s] 23)).alloc (.cells #[.int .i64 b.k, .int .i64 b.n, .string b.s] 23)).alloc (.cells #[.int .i64 0, .int .i64 0, .string ⟨#[]⟩] 23)) = w1 at HA HO HZ HB ⊢
  have HA1 := HA; have HO1 := HO; have HZ1 := HZ; have HB1 := HB
  have HLE := Lib.hid (show w.heap.size ≤ q + 2 by omega)
  obtain ⟨a0, a1, a2⟩ := HA.out.cells
  obtain ⟨o0, o1, o2⟩ := HO.out.cells
  obtain ⟨m0, m1, m2⟩ := HZ.out.melts
  obtain ⟨u0, u1, u2⟩ := HZ.out.cells
  clear hz
  go_wp2_with (first
    | (go_at_call 14; ((with_reducible refine (HIA.out _).mono ?_); rintro e w2 ⟨rfl, hb⟩; have HA2 := Lib.hid (HA1.out.over hb); have HO2 := Lib.hid (HO1.out.over hb); have HZ2 := Lib.hid (HZ1.out.over hb); have HB2 := Lib.hid (HB1.out.trans (hb.mono HB1.out.size)); obtain ⟨d0, d1, d2⟩ := HA2.out.cells; obtain ⟨d3, d4, d5⟩ := HO2.out.cells; obtain ⟨m0, m1, m2⟩ := HZ2.out.melts; obtain ⟨u0, u1, u2⟩ := HZ2.out.cells; clear hb))
    | (go_at_call 14; ((with_reducible refine (HIB.out _).mono ?_); rintro e w3 ⟨rfl, hb⟩; have HA3 := Lib.hid (HA2.out.over hb); have HO3 := Lib.hid (HO2.out.over hb); have HZ3 := Lib.hid (HZ2.out.over hb); have HB3 := Lib.hid (HB2.out.trans (hb.mono HB2.out.size)); obtain ⟨g0, g1, g2⟩ := HA3.out.cells; obtain ⟨g3, g4, g5⟩ := HO3.out.cells; obtain ⟨m0, m1, m2⟩ := HZ3.out.melts; obtain ⟨u0, u1, u2⟩ := HZ3.out.cells; clear hb))
    | (go_at_call 28; ((with_reducible refine (HN.out _).mono ?_); rintro e w4 ⟨rfl, hb⟩; have HZ4 := Lib.hid (HZ3.out.over hb); obtain ⟨m0, m1, m2⟩ := HZ4.out.melts; obtain ⟨u0, u1, u2⟩ := HZ4.out.cells; have HB4 := Lib.hid (HB3.out.trans (hb.mono HB3.out.size)); clear hb)))
  all_goals exact bodyPost_ret (out_vl (HZ4.out.put3 (Vl.err 1)) _ _ 6 res_rtwo rfl) rfl ⟨rfl, belowV3 HB4.out HLE.out (Vl.err 1)⟩
set_option maxRecDepth 100000 in
set_option maxHeartbeats 1600000 in
theorem rtwo_17m (a b : Vl) (ha4 : ¬ a.k = 4) (hb4 : ¬ b.k = 4) (ma : mayV a = true) (mb : mayV b = true) (h : isInt a = true) (h2 : isInt b = false) (w : World) : Calls Tryd.prog 20 #[.int .i64 17, .agg #[.int .i64 a.k, .int .i64 a.n, .string a.s], .agg #[.int .i64 b.k, .int .i64 b.n, .string b.s]] w fun e w' => e = .returned (.agg #[.int .i64 (Vl.err 1).k, .int .i64 (Vl.err 1).n, .string (Vl.err 1).s]) ∧ Below w.heap.size w w' := by
  have ea4 : (a.k == 4) = false := beq_eq_false_iff_ne.2 ha4
  clear ha4
  have eb4 : (b.k == 4) = false := beq_eq_false_iff_ne.2 hb4
  clear hb4
  have hia := rint_any a ma
  have hib := rint_any b mb
  rw [h] at hia
  rw [h2] at hib
  have HN := Lib.hid (fun (w : World) => rno_any 1 w)
  have HIA := Lib.hid hia; have HIB := Lib.hid hib
  clear hia hib ma mb
  obtain ⟨k1, k2, k3, k4⟩ := vl_open2 w a b
  have HA := Lib.hid k1; have HO := Lib.hid k2; have HZ := Lib.hid k3; have HB := Lib.hid k4
  clear k1 k2 k3 k4
  go_enter Tryd.func20, Tryd.ntmps20
  go_upto_region 1 with (fail)
  generalize hz : w.heap.size = q at HA HO HZ ⊢
  generalize (((w.alloc (.cells #[.int .i64 a.k, .int .i64 a.n, .string a.s] 23)).alloc (.cells #[.int .i64 b.k, .int .i64 b.n, .string b.s] 23)).alloc (.cells #[.int .i64 0, .int .i64 0, .string ⟨#[]⟩] 23)) = w1 at HA HO HZ HB ⊢
  have HA1 := HA; have HO1 := HO; have HZ1 := HZ; have HB1 := HB
  have HLE := Lib.hid (show w.heap.size ≤ q + 2 by omega)
  obtain ⟨a0, a1, a2⟩ := HA.out.cells
  obtain ⟨o0, o1, o2⟩ := HO.out.cells
  obtain ⟨m0, m1, m2⟩ := HZ.out.melts
  obtain ⟨u0, u1, u2⟩ := HZ.out.cells
  clear hz
  go_wp2_with (first
    | (go_at_call 14; ((with_reducible refine (HIA.out _).mono ?_); rintro e w2 ⟨rfl, hb⟩; have HA2 := Lib.hid (HA1.out.over hb); have HO2 := Lib.hid (HO1.out.over hb); have HZ2 := Lib.hid (HZ1.out.over hb); have HB2 := Lib.hid (HB1.out.trans (hb.mono HB1.out.size)); obtain ⟨d0, d1, d2⟩ := HA2.out.cells; obtain ⟨d3, d4, d5⟩ := HO2.out.cells; obtain ⟨m0, m1, m2⟩ := HZ2.out.melts; obtain ⟨u0, u1, u2⟩ := HZ2.out.cells; clear hb))
    | (go_at_call 14; ((with_reducible refine (HIB.out _).mono ?_); rintro e w3 ⟨rfl, hb⟩; have HA3 := Lib.hid (HA2.out.over hb); have HO3 := Lib.hid (HO2.out.over hb); have HZ3 := Lib.hid (HZ2.out.over hb); have HB3 := Lib.hid (HB2.out.trans (hb.mono HB2.out.size)); obtain ⟨g0, g1, g2⟩ := HA3.out.cells; obtain ⟨g3, g4, g5⟩ := HO3.out.cells; obtain ⟨m0, m1, m2⟩ := HZ3.out.melts; obtain ⟨u0, u1, u2⟩ := HZ3.out.cells; clear hb))
    | (go_at_call 28; ((with_reducible refine (HN.out _).mono ?_); rintro e w4 ⟨rfl, hb⟩; have HZ4 := Lib.hid (HZ3.out.over hb); obtain ⟨m0, m1, m2⟩ := HZ4.out.melts; obtain ⟨u0, u1, u2⟩ := HZ4.out.cells; have HB4 := Lib.hid (HB3.out.trans (hb.mono HB3.out.size)); clear hb)))
  all_goals exact bodyPost_ret (out_vl (HZ4.out.put3 (Vl.err 1)) _ _ 6 res_rtwo rfl) rfl ⟨rfl, belowV3 HB4.out HLE.out (Vl.err 1)⟩
set_option maxRecDepth 100000 in
set_option maxHeartbeats 1600000 in
theorem rtwo_17y (a b : Vl) (ha4 : ¬ a.k = 4) (hb4 : ¬ b.k = 4) (ma : mayV a = true) (mb : mayV b = true) (h : isInt a = true) (h2 : isInt b = true) (oa : VOk a) (ob : VOk b) (w : World) : Calls Tryd.prog 20 #[.int .i64 17, .agg #[.int .i64 a.k, .int .i64 a.n, .string a.s], .agg #[.int .i64 b.k, .int .i64 b.n, .string b.s]] w fun e w' => e = .returned (.agg #[.int .i64 (subV (intV a) (intV b)).k, .int .i64 (subV (intV a) (intV b)).n, .string (subV (intV a) (intV b)).s]) ∧ Below w.heap.size w w' := by
  have ea4 : (a.k == 4) = false := beq_eq_false_iff_ne.2 ha4
  clear ha4
  have eb4 : (b.k == 4) = false := beq_eq_false_iff_ne.2 hb4
  clear hb4
  have hia := rint_any a ma
  have hib := rint_any b mb
  rw [h] at hia
  rw [h2] at hib
  have hc : ∀ w : World, Calls Tryd.prog 31 #[.int .i64 17, .int .i64 (intV a), .int .i64 (intV b)] w _ := rreckon_any 17 (intV a) (intV b) oa.int.1 oa.int.2 ob.int.1 ob.int.2 (by decide)
  rw [show (if (17 : Int) = 16 then sumV (intV a) (intV b) else if (17 : Int) = 17 then subV (intV a) (intV b) else if (17 : Int) = 18 then mulV (intV a) (intV b) else divV (intV a) (intV b)) = subV (intV a) (intV b) from rfl] at hc
  generalize subV (intV a) (intV b) = v at hc ⊢
  generalize intV a = x at hc hia
  generalize intV b = y at hc hib
  have HC := Lib.hid hc
  clear hc oa ob
  have HIA := Lib.hid hia; have HIB := Lib.hid hib
  clear hia hib ma mb
  obtain ⟨k1, k2, k3, k4⟩ := vl_open2 w a b
  have HA := Lib.hid k1; have HO := Lib.hid k2; have HZ := Lib.hid k3; have HB := Lib.hid k4
  clear k1 k2 k3 k4
  go_enter Tryd.func20, Tryd.ntmps20
  go_upto_region 1 with (fail)
  generalize hz : w.heap.size = q at HA HO HZ ⊢
  generalize (((w.alloc (.cells #[.int .i64 a.k, .int .i64 a.n, .string a.s] 23)).alloc (.cells #[.int .i64 b.k, .int .i64 b.n, .string b.s] 23)).alloc (.cells #[.int .i64 0, .int .i64 0, .string ⟨#[]⟩] 23)) = w1 at HA HO HZ HB ⊢
  have HA1 := HA; have HO1 := HO; have HZ1 := HZ; have HB1 := HB
  have HLE := Lib.hid (show w.heap.size ≤ q + 2 by omega)
  obtain ⟨a0, a1, a2⟩ := HA.out.cells
  obtain ⟨o0, o1, o2⟩ := HO.out.cells
  obtain ⟨m0, m1, m2⟩ := HZ.out.melts
  obtain ⟨u0, u1, u2⟩ := HZ.out.cells
  clear hz
  go_wp2_with (first
    | (go_at_call 14; ((with_reducible refine (HIA.out _).mono ?_); rintro e w2 ⟨rfl, hb⟩; have HA2 := Lib.hid (HA1.out.over hb); have HO2 := Lib.hid (HO1.out.over hb); have HZ2 := Lib.hid (HZ1.out.over hb); have HB2 := Lib.hid (HB1.out.trans (hb.mono HB1.out.size)); obtain ⟨d0, d1, d2⟩ := HA2.out.cells; obtain ⟨d3, d4, d5⟩ := HO2.out.cells; obtain ⟨m0, m1, m2⟩ := HZ2.out.melts; obtain ⟨u0, u1, u2⟩ := HZ2.out.cells; clear hb))
    | (go_at_call 14; ((with_reducible refine (HIB.out _).mono ?_); rintro e w3 ⟨rfl, hb⟩; have HA3 := Lib.hid (HA2.out.over hb); have HO3 := Lib.hid (HO2.out.over hb); have HZ3 := Lib.hid (HZ2.out.over hb); have HB3 := Lib.hid (HB2.out.trans (hb.mono HB2.out.size)); obtain ⟨g0, g1, g2⟩ := HA3.out.cells; obtain ⟨g3, g4, g5⟩ := HO3.out.cells; obtain ⟨m0, m1, m2⟩ := HZ3.out.melts; obtain ⟨u0, u1, u2⟩ := HZ3.out.cells; clear hb))
    | (go_at_call 31; ((with_reducible refine (HC.out _).mono ?_); rintro e w4 ⟨rfl, hb⟩; have HZ4 := Lib.hid (HZ3.out.over hb); obtain ⟨m0, m1, m2⟩ := HZ4.out.melts; obtain ⟨u0, u1, u2⟩ := HZ4.out.cells; have HB4 := Lib.hid (HB3.out.trans (hb.mono HB3.out.size)); clear hb)))
  all_goals exact bodyPost_ret (out_vl (HZ4.out.put3 v) _ _ 6 res_rtwo rfl) rfl ⟨rfl, belowV3 HB4.out HLE.out v⟩
set_option maxRecDepth 100000 in
set_option maxHeartbeats 1600000 in
theorem rtwo_18n (a b : Vl) (ha4 : ¬ a.k = 4) (hb4 : ¬ b.k = 4) (ma : mayV a = true) (mb : mayV b = true) (h : isInt a = false) (w : World) : Calls Tryd.prog 20 #[.int .i64 18, .agg #[.int .i64 a.k, .int .i64 a.n, .string a.s], .agg #[.int .i64 b.k, .int .i64 b.n, .string b.s]] w fun e w' => e = .returned (.agg #[.int .i64 (Vl.err 1).k, .int .i64 (Vl.err 1).n, .string (Vl.err 1).s]) ∧ Below w.heap.size w w' := by
  have ea4 : (a.k == 4) = false := beq_eq_false_iff_ne.2 ha4
  clear ha4
  have eb4 : (b.k == 4) = false := beq_eq_false_iff_ne.2 hb4
  clear hb4
  have hia := rint_any a ma
  have hib := rint_any b mb
  rw [h] at hia
  have HN := Lib.hid (fun (w : World) => rno_any 1 w)
  have HIA := Lib.hid hia; have HIB := Lib.hid hib
  clear hia hib ma mb
  obtain ⟨k1, k2, k3, k4⟩ := vl_open2 w a b
  have HA := Lib.hid k1; have HO := Lib.hid k2; have HZ := Lib.hid k3; have HB := Lib.hid k4
  clear k1 k2 k3 k4
  go_enter Tryd.func20, Tryd.ntmps20
  go_upto_region 1 with (fail)
  generalize hz : w.heap.size = q at HA HO HZ ⊢
  generalize (((w.alloc (.cells #[.int .i64 a.k, .int .i64 a.n, .string a.s] 23)).alloc (.cells #[.int .i64 b.k, .int .i64 b.n, .string b.s] 23)).alloc (.cells #[.int .i64 0, .int .i64 0, .string ⟨#[]⟩] 23)) = w1 at HA HO HZ HB ⊢
  have HA1 := HA; have HO1 := HO; have HZ1 := HZ; have HB1 := HB
  have HLE := Lib.hid (show w.heap.size ≤ q + 2 by omega)
  obtain ⟨a0, a1, a2⟩ := HA.out.cells
  obtain ⟨o0, o1, o2⟩ := HO.out.cells
  obtain ⟨m0, m1, m2⟩ := HZ.out.melts
  obtain ⟨u0, u1, u2⟩ := HZ.out.cells
  clear hz
  go_wp2_with (first
    | (go_at_call 14; ((with_reducible refine (HIA.out _).mono ?_); rintro e w2 ⟨rfl, hb⟩; have HA2 := Lib.hid (HA1.out.over hb); have HO2 := Lib.hid (HO1.out.over hb); have HZ2 := Lib.hid (HZ1.out.over hb); have HB2 := Lib.hid (HB1.out.trans (hb.mono HB1.out.size)); obtain ⟨d0, d1, d2⟩ := HA2.out.cells; obtain ⟨d3, d4, d5⟩ := HO2.out.cells; obtain ⟨m0, m1, m2⟩ := HZ2.out.melts; obtain ⟨u0, u1, u2⟩ := HZ2.out.cells; clear hb))
    | (go_at_call 14; ((with_reducible refine (HIB.out _).mono ?_); rintro e w3 ⟨rfl, hb⟩; have HA3 := Lib.hid (HA2.out.over hb); have HO3 := Lib.hid (HO2.out.over hb); have HZ3 := Lib.hid (HZ2.out.over hb); have HB3 := Lib.hid (HB2.out.trans (hb.mono HB2.out.size)); obtain ⟨g0, g1, g2⟩ := HA3.out.cells; obtain ⟨g3, g4, g5⟩ := HO3.out.cells; obtain ⟨m0, m1, m2⟩ := HZ3.out.melts; obtain ⟨u0, u1, u2⟩ := HZ3.out.cells; clear hb))
    | (go_at_call 28; ((with_reducible refine (HN.out _).mono ?_); rintro e w4 ⟨rfl, hb⟩; have HZ4 := Lib.hid (HZ3.out.over hb); obtain ⟨m0, m1, m2⟩ := HZ4.out.melts; obtain ⟨u0, u1, u2⟩ := HZ4.out.cells; have HB4 := Lib.hid (HB3.out.trans (hb.mono HB3.out.size)); clear hb)))
  all_goals exact bodyPost_ret (out_vl (HZ4.out.put3 (Vl.err 1)) _ _ 6 res_rtwo rfl) rfl ⟨rfl, belowV3 HB4.out HLE.out (Vl.err 1)⟩
set_option maxRecDepth 100000 in
set_option maxHeartbeats 1600000 in
theorem rtwo_18m (a b : Vl) (ha4 : ¬ a.k = 4) (hb4 : ¬ b.k = 4) (ma : mayV a = true) (mb : mayV b = true) (h : isInt a = true) (h2 : isInt b = false) (w : World) : Calls Tryd.prog 20 #[.int .i64 18, .agg #[.int .i64 a.k, .int .i64 a.n, .string a.s], .agg #[.int .i64 b.k, .int .i64 b.n, .string b.s]] w fun e w' => e = .returned (.agg #[.int .i64 (Vl.err 1).k, .int .i64 (Vl.err 1).n, .string (Vl.err 1).s]) ∧ Below w.heap.size w w' := by
  have ea4 : (a.k == 4) = false := beq_eq_false_iff_ne.2 ha4
  clear ha4
  have eb4 : (b.k == 4) = false := beq_eq_false_iff_ne.2 hb4
  clear hb4
  have hia := rint_any a ma
  have hib := rint_any b mb
  rw [h] at hia
  rw [h2] at hib
  have HN := Lib.hid (fun (w : World) => rno_any 1 w)
  have HIA := Lib.hid hia; have HIB := Lib.hid hib
  clear hia hib ma mb
  obtain ⟨k1, k2, k3, k4⟩ := vl_open2 w a b
  have HA := Lib.hid k1; have HO := Lib.hid k2; have HZ := Lib.hid k3; have HB := Lib.hid k4
  clear k1 k2 k3 k4
  go_enter Tryd.func20, Tryd.ntmps20
  go_upto_region 1 with (fail)
  generalize hz : w.heap.size = q at HA HO HZ ⊢
  generalize (((w.alloc (.cells #[.int .i64 a.k, .int .i64 a.n, .string a.s] 23)).alloc (.cells #[.int .i64 b.k, .int .i64 b.n, .string b.s] 23)).alloc (.cells #[.int .i64 0, .int .i64 0, .string ⟨#[]⟩] 23)) = w1 at HA HO HZ HB ⊢
  have HA1 := HA; have HO1 := HO; have HZ1 := HZ; have HB1 := HB
  have HLE := Lib.hid (show w.heap.size ≤ q + 2 by omega)
  obtain ⟨a0, a1, a2⟩ := HA.out.cells
  obtain ⟨o0, o1, o2⟩ := HO.out.cells
  obtain ⟨m0, m1, m2⟩ := HZ.out.melts
  obtain ⟨u0, u1, u2⟩ := HZ.out.cells
  clear hz
  go_wp2_with (first
    | (go_at_call 14; ((with_reducible refine (HIA.out _).mono ?_); rintro e w2 ⟨rfl, hb⟩; have HA2 := Lib.hid (HA1.out.over hb); have HO2 := Lib.hid (HO1.out.over hb); have HZ2 := Lib.hid (HZ1.out.over hb); have HB2 := Lib.hid (HB1.out.trans (hb.mono HB1.out.size)); obtain ⟨d0, d1, d2⟩ := HA2.out.cells; obtain ⟨d3, d4, d5⟩ := HO2.out.cells; obtain ⟨m0, m1, m2⟩ := HZ2.out.melts; obtain ⟨u0, u1, u2⟩ := HZ2.out.cells; clear hb))
    | (go_at_call 14; ((with_reducible refine (HIB.out _).mono ?_); rintro e w3 ⟨rfl, hb⟩; have HA3 := Lib.hid (HA2.out.over hb); have HO3 := Lib.hid (HO2.out.over hb); have HZ3 := Lib.hid (HZ2.out.over hb); have HB3 := Lib.hid (HB2.out.trans (hb.mono HB2.out.size)); obtain ⟨g0, g1, g2⟩ := HA3.out.cells; obtain ⟨g3, g4, g5⟩ := HO3.out.cells; obtain ⟨m0, m1, m2⟩ := HZ3.out.melts; obtain ⟨u0, u1, u2⟩ := HZ3.out.cells; clear hb))
    | (go_at_call 28; ((with_reducible refine (HN.out _).mono ?_); rintro e w4 ⟨rfl, hb⟩; have HZ4 := Lib.hid (HZ3.out.over hb); obtain ⟨m0, m1, m2⟩ := HZ4.out.melts; obtain ⟨u0, u1, u2⟩ := HZ4.out.cells; have HB4 := Lib.hid (HB3.out.trans (hb.mono HB3.out.size)); clear hb)))
  all_goals exact bodyPost_ret (out_vl (HZ4.out.put3 (Vl.err 1)) _ _ 6 res_rtwo rfl) rfl ⟨rfl, belowV3 HB4.out HLE.out (Vl.err 1)⟩
set_option maxRecDepth 100000 in
set_option maxHeartbeats 1600000 in
theorem rtwo_18y (a b : Vl) (ha4 : ¬ a.k = 4) (hb4 : ¬ b.k = 4) (ma : mayV a = true) (mb : mayV b = true) (h : isInt a = true) (h2 : isInt b = true) (oa : VOk a) (ob : VOk b) (w : World) : Calls Tryd.prog 20 #[.int .i64 18, .agg #[.int .i64 a.k, .int .i64 a.n, .string a.s], .agg #[.int .i64 b.k, .int .i64 b.n, .string b.s]] w fun e w' => e = .returned (.agg #[.int .i64 (mulV (intV a) (intV b)).k, .int .i64 (mulV (intV a) (intV b)).n, .string (mulV (intV a) (intV b)).s]) ∧ Below w.heap.size w w' := by
  have ea4 : (a.k == 4) = false := beq_eq_false_iff_ne.2 ha4
  clear ha4
  have eb4 : (b.k == 4) = false := beq_eq_false_iff_ne.2 hb4
  clear hb4
  have hia := rint_any a ma
  have hib := rint_any b mb
  rw [h] at hia
  rw [h2] at hib
  have hc : ∀ w : World, Calls Tryd.prog 31 #[.int .i64 18, .int .i64 (intV a), .int .i64 (intV b)] w _ := rreckon_any 18 (intV a) (intV b) oa.int.1 oa.int.2 ob.int.1 ob.int.2 (by decide)
  rw [show (if (18 : Int) = 16 then sumV (intV a) (intV b) else if (18 : Int) = 17 then subV (intV a) (intV b) else if (18 : Int) = 18 then mulV (intV a) (intV b) else divV (intV a) (intV b)) = mulV (intV a) (intV b) from rfl] at hc
  generalize mulV (intV a) (intV b) = v at hc ⊢
  generalize intV a = x at hc hia
  generalize intV b = y at hc hib
  have HC := Lib.hid hc
  clear hc oa ob
  have HIA := Lib.hid hia; have HIB := Lib.hid hib
  clear hia hib ma mb
  obtain ⟨k1, k2, k3, k4⟩ := vl_open2 w a b
  have HA := Lib.hid k1; have HO := Lib.hid k2; have HZ := Lib.hid k3; have HB := Lib.hid k4
  clear k1 k2 k3 k4
  go_enter Tryd.func20, Tryd.ntmps20
  go_upto_region 1 with (fail)
  generalize hz : w.heap.size = q at HA HO HZ ⊢
  generalize (((w.alloc (.cells #[.int .i64 a.k, .int .i64 a.n, .string a.s] 23)).alloc (.cells #[.int .i64 b.k, .int .i64 b.n, .string b.s] 23)).alloc (.cells #[.int .i64 0, .int .i64 0, .string ⟨#[]⟩] 23)) = w1 at HA HO HZ HB ⊢
  have HA1 := HA; have HO1 := HO; have HZ1 := HZ; have HB1 := HB
  have HLE := Lib.hid (show w.heap.size ≤ q + 2 by omega)
  obtain ⟨a0, a1, a2⟩ := HA.out.cells
  obtain ⟨o0, o1, o2⟩ := HO.out.cells
  obtain ⟨m0, m1, m2⟩ := HZ.out.melts
  obtain ⟨u0, u1, u2⟩ := HZ.out.cells
  clear hz
  go_wp2_with (first
    | (go_at_call 14; ((with_reducible refine (HIA.out _).mono ?_); rintro e w2 ⟨rfl, hb⟩; have HA2 := Lib.hid (HA1.out.over hb); have HO2 := Lib.hid (HO1.out.over hb); have HZ2 := Lib.hid (HZ1.out.over hb); have HB2 := Lib.hid (HB1.out.trans (hb.mono HB1.out.size)); obtain ⟨d0, d1, d2⟩ := HA2.out.cells; obtain ⟨d3, d4, d5⟩ := HO2.out.cells; obtain ⟨m0, m1, m2⟩ := HZ2.out.melts; obtain ⟨u0, u1, u2⟩ := HZ2.out.cells; clear hb))
    | (go_at_call 14; ((with_reducible refine (HIB.out _).mono ?_); rintro e w3 ⟨rfl, hb⟩; have HA3 := Lib.hid (HA2.out.over hb); have HO3 := Lib.hid (HO2.out.over hb); have HZ3 := Lib.hid (HZ2.out.over hb); have HB3 := Lib.hid (HB2.out.trans (hb.mono HB2.out.size)); obtain ⟨g0, g1, g2⟩ := HA3.out.cells; obtain ⟨g3, g4, g5⟩ := HO3.out.cells; obtain ⟨m0, m1, m2⟩ := HZ3.out.melts; obtain ⟨u0, u1, u2⟩ := HZ3.out.cells; clear hb))
    | (go_at_call 31; ((with_reducible refine (HC.out _).mono ?_); rintro e w4 ⟨rfl, hb⟩; have HZ4 := Lib.hid (HZ3.out.over hb); obtain ⟨m0, m1, m2⟩ := HZ4.out.melts; obtain ⟨u0, u1, u2⟩ := HZ4.out.cells; have HB4 := Lib.hid (HB3.out.trans (hb.mono HB3.out.size)); clear hb)))
  all_goals exact bodyPost_ret (out_vl (HZ4.out.put3 v) _ _ 6 res_rtwo rfl) rfl ⟨rfl, belowV3 HB4.out HLE.out v⟩
set_option maxRecDepth 100000 in
set_option maxHeartbeats 1600000 in
theorem rtwo_19n (a b : Vl) (ha4 : ¬ a.k = 4) (hb4 : ¬ b.k = 4) (ma : mayV a = true) (mb : mayV b = true) (h : isInt a = false) (w : World) : Calls Tryd.prog 20 #[.int .i64 19, .agg #[.int .i64 a.k, .int .i64 a.n, .string a.s], .agg #[.int .i64 b.k, .int .i64 b.n, .string b.s]] w fun e w' => e = .returned (.agg #[.int .i64 (Vl.err 1).k, .int .i64 (Vl.err 1).n, .string (Vl.err 1).s]) ∧ Below w.heap.size w w' := by
  have ea4 : (a.k == 4) = false := beq_eq_false_iff_ne.2 ha4
  clear ha4
  have eb4 : (b.k == 4) = false := beq_eq_false_iff_ne.2 hb4
  clear hb4
  have hia := rint_any a ma
  have hib := rint_any b mb
  rw [h] at hia
  have HN := Lib.hid (fun (w : World) => rno_any 1 w)
  have HIA := Lib.hid hia; have HIB := Lib.hid hib
  clear hia hib ma mb
  obtain ⟨k1, k2, k3, k4⟩ := vl_open2 w a b
  have HA := Lib.hid k1; have HO := Lib.hid k2; have HZ := Lib.hid k3; have HB := Lib.hid k4
  clear k1 k2 k3 k4
  go_enter Tryd.func20, Tryd.ntmps20
  go_upto_region 1 with (fail)
  generalize hz : w.heap.size = q at HA HO HZ ⊢
  generalize (((w.alloc (.cells #[.int .i64 a.k, .int .i64 a.n, .string a.s] 23)).alloc (.cells #[.int .i64 b.k, .int .i64 b.n, .string b.s] 23)).alloc (.cells #[.int .i64 0, .int .i64 0, .string ⟨#[]⟩] 23)) = w1 at HA HO HZ HB ⊢
  have HA1 := HA; have HO1 := HO; have HZ1 := HZ; have HB1 := HB
  have HLE := Lib.hid (show w.heap.size ≤ q + 2 by omega)
  obtain ⟨a0, a1, a2⟩ := HA.out.cells
  obtain ⟨o0, o1, o2⟩ := HO.out.cells
  obtain ⟨m0, m1, m2⟩ := HZ.out.melts
  obtain ⟨u0, u1, u2⟩ := HZ.out.cells
  clear hz
  go_wp2_with (first
    | (go_at_call 14; ((with_reducible refine (HIA.out _).mono ?_); rintro e w2 ⟨rfl, hb⟩; have HA2 := Lib.hid (HA1.out.over hb); have HO2 := Lib.hid (HO1.out.over hb); have HZ2 := Lib.hid (HZ1.out.over hb); have HB2 := Lib.hid (HB1.out.trans (hb.mono HB1.out.size)); obtain ⟨d0, d1, d2⟩ := HA2.out.cells; obtain ⟨d3, d4, d5⟩ := HO2.out.cells; obtain ⟨m0, m1, m2⟩ := HZ2.out.melts; obtain ⟨u0, u1, u2⟩ := HZ2.out.cells; clear hb))
    | (go_at_call 14; ((with_reducible refine (HIB.out _).mono ?_); rintro e w3 ⟨rfl, hb⟩; have HA3 := Lib.hid (HA2.out.over hb); have HO3 := Lib.hid (HO2.out.over hb); have HZ3 := Lib.hid (HZ2.out.over hb); have HB3 := Lib.hid (HB2.out.trans (hb.mono HB2.out.size)); obtain ⟨g0, g1, g2⟩ := HA3.out.cells; obtain ⟨g3, g4, g5⟩ := HO3.out.cells; obtain ⟨m0, m1, m2⟩ := HZ3.out.melts; obtain ⟨u0, u1, u2⟩ := HZ3.out.cells; clear hb))
    | (go_at_call 28; ((with_reducible refine (HN.out _).mono ?_); rintro e w4 ⟨rfl, hb⟩; have HZ4 := Lib.hid (HZ3.out.over hb); obtain ⟨m0, m1, m2⟩ := HZ4.out.melts; obtain ⟨u0, u1, u2⟩ := HZ4.out.cells; have HB4 := Lib.hid (HB3.out.trans (hb.mono HB3.out.size)); clear hb)))
  all_goals exact bodyPost_ret (out_vl (HZ4.out.put3 (Vl.err 1)) _ _ 6 res_rtwo rfl) rfl ⟨rfl, belowV3 HB4.out HLE.out (Vl.err 1)⟩
set_option maxRecDepth 100000 in
set_option maxHeartbeats 1600000 in
theorem rtwo_19m (a b : Vl) (ha4 : ¬ a.k = 4) (hb4 : ¬ b.k = 4) (ma : mayV a = true) (mb : mayV b = true) (h : isInt a = true) (h2 : isInt b = false) (w : World) : Calls Tryd.prog 20 #[.int .i64 19, .agg #[.int .i64 a.k, .int .i64 a.n, .string a.s], .agg #[.int .i64 b.k, .int .i64 b.n, .string b.s]] w fun e w' => e = .returned (.agg #[.int .i64 (Vl.err 1).k, .int .i64 (Vl.err 1).n, .string (Vl.err 1).s]) ∧ Below w.heap.size w w' := by
  have ea4 : (a.k == 4) = false := beq_eq_false_iff_ne.2 ha4
  clear ha4
  have eb4 : (b.k == 4) = false := beq_eq_false_iff_ne.2 hb4
  clear hb4
  have hia := rint_any a ma
  have hib := rint_any b mb
  rw [h] at hia
  rw [h2] at hib
  have HN := Lib.hid (fun (w : World) => rno_any 1 w)
  have HIA := Lib.hid hia; have HIB := Lib.hid hib
  clear hia hib ma mb
  obtain ⟨k1, k2, k3, k4⟩ := vl_open2 w a b
  have HA := Lib.hid k1; have HO := Lib.hid k2; have HZ := Lib.hid k3; have HB := Lib.hid k4
  clear k1 k2 k3 k4
  go_enter Tryd.func20, Tryd.ntmps20
  go_upto_region 1 with (fail)
  generalize hz : w.heap.size = q at HA HO HZ ⊢
  generalize (((w.alloc (.cells #[.int .i64 a.k, .int .i64 a.n, .string a.s] 23)).alloc (.cells #[.int .i64 b.k, .int .i64 b.n, .string b.s] 23)).alloc (.cells #[.int .i64 0, .int .i64 0, .string ⟨#[]⟩] 23)) = w1 at HA HO HZ HB ⊢
  have HA1 := HA; have HO1 := HO; have HZ1 := HZ; have HB1 := HB
  have HLE := Lib.hid (show w.heap.size ≤ q + 2 by omega)
  obtain ⟨a0, a1, a2⟩ := HA.out.cells
  obtain ⟨o0, o1, o2⟩ := HO.out.cells
  obtain ⟨m0, m1, m2⟩ := HZ.out.melts
  obtain ⟨u0, u1, u2⟩ := HZ.out.cells
  clear hz
  go_wp2_with (first
    | (go_at_call 14; ((with_reducible refine (HIA.out _).mono ?_); rintro e w2 ⟨rfl, hb⟩; have HA2 := Lib.hid (HA1.out.over hb); have HO2 := Lib.hid (HO1.out.over hb); have HZ2 := Lib.hid (HZ1.out.over hb); have HB2 := Lib.hid (HB1.out.trans (hb.mono HB1.out.size)); obtain ⟨d0, d1, d2⟩ := HA2.out.cells; obtain ⟨d3, d4, d5⟩ := HO2.out.cells; obtain ⟨m0, m1, m2⟩ := HZ2.out.melts; obtain ⟨u0, u1, u2⟩ := HZ2.out.cells; clear hb))
    | (go_at_call 14; ((with_reducible refine (HIB.out _).mono ?_); rintro e w3 ⟨rfl, hb⟩; have HA3 := Lib.hid (HA2.out.over hb); have HO3 := Lib.hid (HO2.out.over hb); have HZ3 := Lib.hid (HZ2.out.over hb); have HB3 := Lib.hid (HB2.out.trans (hb.mono HB2.out.size)); obtain ⟨g0, g1, g2⟩ := HA3.out.cells; obtain ⟨g3, g4, g5⟩ := HO3.out.cells; obtain ⟨m0, m1, m2⟩ := HZ3.out.melts; obtain ⟨u0, u1, u2⟩ := HZ3.out.cells; clear hb))
    | (go_at_call 28; ((with_reducible refine (HN.out _).mono ?_); rintro e w4 ⟨rfl, hb⟩; have HZ4 := Lib.hid (HZ3.out.over hb); obtain ⟨m0, m1, m2⟩ := HZ4.out.melts; obtain ⟨u0, u1, u2⟩ := HZ4.out.cells; have HB4 := Lib.hid (HB3.out.trans (hb.mono HB3.out.size)); clear hb)))
  all_goals exact bodyPost_ret (out_vl (HZ4.out.put3 (Vl.err 1)) _ _ 6 res_rtwo rfl) rfl ⟨rfl, belowV3 HB4.out HLE.out (Vl.err 1)⟩
set_option maxRecDepth 100000 in
set_option maxHeartbeats 1600000 in
theorem rtwo_19y (a b : Vl) (ha4 : ¬ a.k = 4) (hb4 : ¬ b.k = 4) (ma : mayV a = true) (mb : mayV b = true) (h : isInt a = true) (h2 : isInt b = true) (oa : VOk a) (ob : VOk b) (w : World) : Calls Tryd.prog 20 #[.int .i64 19, .agg #[.int .i64 a.k, .int .i64 a.n, .string a.s], .agg #[.int .i64 b.k, .int .i64 b.n, .string b.s]] w fun e w' => e = .returned (.agg #[.int .i64 (divV (intV a) (intV b)).k, .int .i64 (divV (intV a) (intV b)).n, .string (divV (intV a) (intV b)).s]) ∧ Below w.heap.size w w' := by
  have ea4 : (a.k == 4) = false := beq_eq_false_iff_ne.2 ha4
  clear ha4
  have eb4 : (b.k == 4) = false := beq_eq_false_iff_ne.2 hb4
  clear hb4
  have hia := rint_any a ma
  have hib := rint_any b mb
  rw [h] at hia
  rw [h2] at hib
  have hc : ∀ w : World, Calls Tryd.prog 31 #[.int .i64 19, .int .i64 (intV a), .int .i64 (intV b)] w _ := rreckon_any 19 (intV a) (intV b) oa.int.1 oa.int.2 ob.int.1 ob.int.2 (by decide)
  rw [show (if (19 : Int) = 16 then sumV (intV a) (intV b) else if (19 : Int) = 17 then subV (intV a) (intV b) else if (19 : Int) = 18 then mulV (intV a) (intV b) else divV (intV a) (intV b)) = divV (intV a) (intV b) from rfl] at hc
  generalize divV (intV a) (intV b) = v at hc ⊢
  generalize intV a = x at hc hia
  generalize intV b = y at hc hib
  have HC := Lib.hid hc
  clear hc oa ob
  have HIA := Lib.hid hia; have HIB := Lib.hid hib
  clear hia hib ma mb
  obtain ⟨k1, k2, k3, k4⟩ := vl_open2 w a b
  have HA := Lib.hid k1; have HO := Lib.hid k2; have HZ := Lib.hid k3; have HB := Lib.hid k4
  clear k1 k2 k3 k4
  go_enter Tryd.func20, Tryd.ntmps20
  go_upto_region 1 with (fail)
  generalize hz : w.heap.size = q at HA HO HZ ⊢
  generalize (((w.alloc (.cells #[.int .i64 a.k, .int .i64 a.n, .string a.s] 23)).alloc (.cells #[.int .i64 b.k, .int .i64 b.n, .string b.s] 23)).alloc (.cells #[.int .i64 0, .int .i64 0, .string ⟨#[]⟩] 23)) = w1 at HA HO HZ HB ⊢
  have HA1 := HA; have HO1 := HO; have HZ1 := HZ; have HB1 := HB
  have HLE := Lib.hid (show w.heap.size ≤ q + 2 by omega)
  obtain ⟨a0, a1, a2⟩ := HA.out.cells
  obtain ⟨o0, o1, o2⟩ := HO.out.cells
  obtain ⟨m0, m1, m2⟩ := HZ.out.melts
  obtain ⟨u0, u1, u2⟩ := HZ.out.cells
  clear hz
  go_wp2_with (first
    | (go_at_call 14; ((with_reducible refine (HIA.out _).mono ?_); rintro e w2 ⟨rfl, hb⟩; have HA2 := Lib.hid (HA1.out.over hb); have HO2 := Lib.hid (HO1.out.over hb); have HZ2 := Lib.hid (HZ1.out.over hb); have HB2 := Lib.hid (HB1.out.trans (hb.mono HB1.out.size)); obtain ⟨d0, d1, d2⟩ := HA2.out.cells; obtain ⟨d3, d4, d5⟩ := HO2.out.cells; obtain ⟨m0, m1, m2⟩ := HZ2.out.melts; obtain ⟨u0, u1, u2⟩ := HZ2.out.cells; clear hb))
    | (go_at_call 14; ((with_reducible refine (HIB.out _).mono ?_); rintro e w3 ⟨rfl, hb⟩; have HA3 := Lib.hid (HA2.out.over hb); have HO3 := Lib.hid (HO2.out.over hb); have HZ3 := Lib.hid (HZ2.out.over hb); have HB3 := Lib.hid (HB2.out.trans (hb.mono HB2.out.size)); obtain ⟨g0, g1, g2⟩ := HA3.out.cells; obtain ⟨g3, g4, g5⟩ := HO3.out.cells; obtain ⟨m0, m1, m2⟩ := HZ3.out.melts; obtain ⟨u0, u1, u2⟩ := HZ3.out.cells; clear hb))
    | (go_at_call 31; ((with_reducible refine (HC.out _).mono ?_); rintro e w4 ⟨rfl, hb⟩; have HZ4 := Lib.hid (HZ3.out.over hb); obtain ⟨m0, m1, m2⟩ := HZ4.out.melts; obtain ⟨u0, u1, u2⟩ := HZ4.out.cells; have HB4 := Lib.hid (HB3.out.trans (hb.mono HB3.out.size)); clear hb)))
  all_goals exact bodyPost_ret (out_vl (HZ4.out.put3 v) _ _ 6 res_rtwo rfl) rfl ⟨rfl, belowV3 HB4.out HLE.out v⟩
end Go.Proofs.YtgnandbokgfeiaaDoor
