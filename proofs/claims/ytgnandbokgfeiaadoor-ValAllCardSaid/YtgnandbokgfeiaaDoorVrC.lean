/-
  Layer 7, the reference: numbers reckoned with; the order.
-/
import Derived.Test.YtgnandbokgfeiaaDoorVrB
namespace Go.Proofs.YtgnandbokgfeiaaDoor
open Go.RowKit

theorem plus_fit (a b : Int) (ha : -9223372036854775808 ≤ a) (ha2 : a ≤ 9223372036854775807) (hb : -9223372036854775808 ≤ b) (hb2 : b ≤ 9223372036854775807) :
    (decide (a ≤ wrap64 (a + b)) == decide (0 ≤ b)) = decide (-9223372036854775808 ≤ a + b ∧ a + b ≤ 9223372036854775807) := by
  rw [Bool.beq_eq_decide_eq, decide_eq_decide, decide_eq_decide]
  unfold wrap64; omega
theorem less_fit (a b : Int) (ha : -9223372036854775808 ≤ a) (ha2 : a ≤ 9223372036854775807) (hb : -9223372036854775808 ≤ b) (hb2 : b ≤ 9223372036854775807) :
    (decide (wrap64 (a - b) ≤ a) == decide (0 ≤ b)) = decide (-9223372036854775808 ≤ a - b ∧ a - b ≤ 9223372036854775807) := by
  rw [Bool.beq_eq_decide_eq, decide_eq_decide, decide_eq_decide]
  unfold wrap64; omega
set_option maxRecDepth 100000 in
set_option maxHeartbeats 1600000 in
theorem plus_any (x y : Int) (h0 : -9223372036854775808 ≤ x) (h1 : x ≤ 9223372036854775807) (h2 : -9223372036854775808 ≤ y) (h3 : y ≤ 9223372036854775807) (w : World) : Calls Tryd.prog 47 #[.int .i64 x, .int .i64 y] w fun e w' => e = .returned (.tuple #[.int .i64 (wrap64 (x + y)), .bool (decide (-9223372036854775808 ≤ x + y ∧ x + y ≤ 9223372036854775807))]) ∧ w = w' := by
  have HF := Lib.hid (plus_fit x y h0 h1 h2 h3)
  clear h0 h1 h2 h3
  go_enter Tryd.func47, Tryd.ntmps47
  go_wp2_with fail
  go_ret2
  exact ⟨by rw [← HF.out]; rfl, rfl⟩
set_option maxRecDepth 100000 in
set_option maxHeartbeats 1600000 in
theorem times_x (x y : Int) (hx : x = 0) (w : World) : Calls Tryd.prog 48 #[.int .i64 x, .int .i64 y] w fun e w' => e = .returned (.tuple #[.int .i64 0, .bool true]) ∧ w = w' := by
  have e0 : (x == 0) = true := beq_iff_eq.2 hx
  clear hx
  go_enter Tryd.func48, Tryd.ntmps48
  go_wp2_with fail
  all_goals go_ret2
  all_goals exact ⟨rfl, rfl⟩
set_option maxRecDepth 100000 in
set_option maxHeartbeats 1600000 in
theorem times_y (x y : Int) (hx : ¬ x = 0) (hy : y = 0) (w : World) : Calls Tryd.prog 48 #[.int .i64 x, .int .i64 y] w fun e w' => e = .returned (.tuple #[.int .i64 0, .bool true]) ∧ w = w' := by
  have e0 : (x == 0) = false := beq_eq_false_iff_ne.2 hx
  have e1 : (y == 0) = true := beq_iff_eq.2 hy
  clear hx hy
  go_enter Tryd.func48, Tryd.ntmps48
  go_wp2_with fail
  all_goals go_ret2
  all_goals exact ⟨rfl, rfl⟩
set_option maxRecDepth 100000 in
set_option maxHeartbeats 1600000 in
theorem times_else (x y : Int) (h2 : -9223372036854775808 ≤ y) (h3 : y ≤ 9223372036854775807) (hx : ¬ x = 0) (hy : ¬ y = 0) (hm : ¬ y = -1) (w : World) : Calls Tryd.prog 48 #[.int .i64 x, .int .i64 y] w fun e w' => e = .returned (.tuple #[.int .i64 (wrap64 (x * y)), .bool (decide (-9223372036854775808 ≤ x * y ∧ x * y ≤ 9223372036854775807))]) ∧ w = w' := by
  have e0 : (x == 0) = false := beq_eq_false_iff_ne.2 hx
  have e1 : (y == 0) = false := beq_eq_false_iff_ne.2 hy
  have e2 : (y == -1) = false := beq_eq_false_iff_ne.2 hm
  have hr : -9223372036854775808 ≤ wr64 (x * y) ∧ wr64 (x * y) ≤ 9223372036854775807 := by rw [wr64_is]; unfold wrap64; omega
  have htd := tdiv_in (wr64 (x * y)) y hr.1 hr.2 hy hm
  have hw2 := wr64_in _ htd.1 htd.2
  have hb := mul_back x y h2 h3 hy
  simp only [wr64_is] at hb hw2
  have hq := IntWalk.i64_left ((wrap64 (x * y)).tdiv y)
  rw [hw2] at hq
  by_cases hin : -9223372036854775808 ≤ x * y ∧ x * y ≤ 9223372036854775807
  · have e3 : ((wrap64 (x * y)).tdiv y == x) = true := beq_iff_eq.2 (hb.2 hin)
    rw [decide_eq_true hin]
    clear hb hin hr htd hx hm h2 h3
    go_enter Tryd.func48, Tryd.ntmps48
    go_wp2_with fail
    all_goals go_ret2
    all_goals exact ⟨rfl, rfl⟩
  · have e3 : ((wrap64 (x * y)).tdiv y == x) = false := beq_eq_false_iff_ne.2 (fun e => hin (hb.1 e))
    rw [decide_eq_false hin]
    clear hb hin hr htd hx hm h2 h3
    go_enter Tryd.func48, Tryd.ntmps48
    go_wp2_with fail
    all_goals go_ret2
    all_goals exact ⟨rfl, rfl⟩
theorem times_least (w : World) : Calls Tryd.prog 48 #[.int .i64 (-9223372036854775808), .int .i64 (-1)] w fun e w' => e = .returned (.tuple #[.int .i64 (-9223372036854775808), .bool false]) ∧ w = w' := by
  have hq : IntKind.i64.wrap (Int.tdiv (-9223372036854775808) (-1)) = -9223372036854775808 := by rw [IntKind.wrap_i64]; decide
  have hq3 : wrap64 9223372036854775808 = -9223372036854775808 := by unfold wrap64; decide
  go_enter Tryd.func48, Tryd.ntmps48
  go_wp2_with fail
  all_goals go_ret2
  all_goals exact ⟨by simp only [hq3]; rfl, rfl⟩
set_option maxRecDepth 100000 in
set_option maxHeartbeats 1600000 in
theorem times_minus (x : Int) (h0 : -9223372036854775808 < x) (h1 : x ≤ 9223372036854775807) (hx : ¬ x = 0) (w : World) : Calls Tryd.prog 48 #[.int .i64 x, .int .i64 (-1)] w fun e w' => e = .returned (.tuple #[.int .i64 (-x), .bool true]) ∧ w = w' := by
  have e0 : (x == 0) = false := beq_eq_false_iff_ne.2 hx
  have e2 : (x == -9223372036854775808) = false := beq_eq_false_iff_ne.2 (by omega)
  have w0 : x * -1 = -x := by omega
  have w2 : wrap64 (-x) = -x := by unfold wrap64; omega
  have t1 : (-x).tdiv (-1) = x := by rw [Int.tdiv_neg, Int.tdiv_one, Int.neg_neg]
  have w3 : IntKind.i64.wrap x = x := by rw [IntKind.wrap_i64]; omega
  have w4 : wrap64 x = x := by unfold wrap64; omega
  clear hx h0 h1
  go_enter Tryd.func48, Tryd.ntmps48
  go_wp2_with fail
  all_goals go_ret2
  all_goals exact ⟨by first | rfl | (simp only [w2]; rfl), rfl⟩
theorem times_any (x y : Int) (h0 : -9223372036854775808 ≤ x) (h1 : x ≤ 9223372036854775807) (h2 : -9223372036854775808 ≤ y) (h3 : y ≤ 9223372036854775807) : ∃ c : Int, ((-9223372036854775808 ≤ x * y ∧ x * y ≤ 9223372036854775807) → c = x * y) ∧ ∀ w : World, Calls Tryd.prog 48 #[.int .i64 x, .int .i64 y] w fun e w' => e = .returned (.tuple #[.int .i64 c, .bool (decide (-9223372036854775808 ≤ x * y ∧ x * y ≤ 9223372036854775807))]) ∧ w = w' := by
  by_cases hx : x = 0
  · refine ⟨0, fun _ => by rw [hx, Int.zero_mul], fun w => ?_⟩
    rw [decide_eq_true (by rw [hx, Int.zero_mul]; decide)]; exact times_x x y hx w
  by_cases hy : y = 0
  · refine ⟨0, fun _ => by rw [hy, Int.mul_zero], fun w => ?_⟩
    rw [decide_eq_true (by rw [hy, Int.mul_zero]; decide)]; exact times_y x y hx hy w
  by_cases hm : y = -1
  · subst hm
    by_cases hl : x = -9223372036854775808
    · subst hl
      refine ⟨-9223372036854775808, fun h => absurd h (by decide), fun w => ?_⟩
      rw [decide_eq_false (by decide)]; exact times_least w
    · refine ⟨-x, fun _ => by omega, fun w => ?_⟩
      rw [decide_eq_true (by omega)]; exact times_minus x (by omega) h1 hx w
  · refine ⟨wrap64 (x * y), fun h => by unfold wrap64; omega, fun w => ?_⟩
    exact times_else x y h2 h3 hx hy hm w
theorem res_rreckon : Tryd.f31.results = #[.cell 6 23] := by kernel_rfl
set_option maxRecDepth 100000 in
set_option maxHeartbeats 1600000 in
theorem rreckon_16y (x y : Int) (h0 : -9223372036854775808 ≤ x) (h1 : x ≤ 9223372036854775807) (h2 : -9223372036854775808 ≤ y) (h3 : y ≤ 9223372036854775807) (hin : -9223372036854775808 ≤ x + y ∧ x + y ≤ 9223372036854775807) (w : World) : Calls Tryd.prog 31 #[.int .i64 16, .int .i64 x, .int .i64 y] w fun e w' => e = .returned (.agg #[.int .i64 (Vl.num (x + y)).k, .int .i64 (Vl.num (x + y)).n, .string (Vl.num (x + y)).s]) ∧ Below w.heap.size w w' := by
  have hp := plus_any x y h0 h1 h2 h3
  rw [decide_eq_true hin, show wrap64 (x + y) = x + y from by unfold wrap64; omega] at hp
  have HP := Lib.hid hp
  have hc := fun (w : World) => rnum_any (x + y) w
  clear hp hin h0 h1 h2 h3
  generalize Vl.num (x + y) = v at hc ⊢
  have HC := Lib.hid hc
  clear hc
  have HZ := Lib.hid (VlAt.zero w)
  have HB := Lib.hid (below_z w)
  go_enter Tryd.func31, Tryd.ntmps31
  go_upto_region 2 with (fail)
  generalize hz : w.heap.size = z at HZ ⊢
  generalize w.alloc (.cells #[.int .i64 0, .int .i64 0, .string ⟨#[]⟩] 23) = w1 at HZ HB ⊢
  have HLE := Lib.hid (Nat.le_of_eq hz)
  clear hz
  go_wp2_with (first
    | (go_at_call 47; ((with_reducible refine (HP.out _).mono ?_); rintro e wq ⟨rfl, rfl⟩))
    | (go_at_call 29; ((with_reducible refine (HC.out _).mono ?_); rintro e w2 ⟨rfl, hb⟩; have HZ2 := Lib.hid (HZ.out.over hb); obtain ⟨m0, m1, m2⟩ := HZ2.out.melts; obtain ⟨u0, u1, u2⟩ := HZ2.out.cells; have HB2 := Lib.hid (HB.out.trans (hb.mono HB.out.size)); clear hb)))
  all_goals exact bodyPost_ret (out_vl (HZ2.out.put3 v) _ _ 6 res_rreckon rfl) rfl ⟨rfl, belowV3 HB2.out HLE.out v⟩
set_option maxRecDepth 100000 in
set_option maxHeartbeats 1600000 in
theorem rreckon_16n (x y : Int) (h0 : -9223372036854775808 ≤ x) (h1 : x ≤ 9223372036854775807) (h2 : -9223372036854775808 ≤ y) (h3 : y ≤ 9223372036854775807) (hin : ¬ (-9223372036854775808 ≤ x + y ∧ x + y ≤ 9223372036854775807)) (w : World) : Calls Tryd.prog 31 #[.int .i64 16, .int .i64 x, .int .i64 y] w fun e w' => e = .returned (.agg #[.int .i64 (Vl.err 2).k, .int .i64 (Vl.err 2).n, .string (Vl.err 2).s]) ∧ Below w.heap.size w w' := by
  have hp := plus_any x y h0 h1 h2 h3
  rw [decide_eq_false hin] at hp
  have HP := Lib.hid hp
  have hc := fun (w : World) => rno_any 2 w
  clear hp hin h0 h1 h2 h3
  generalize Vl.err 2 = v at hc ⊢
  have HC := Lib.hid hc
  clear hc
  have HZ := Lib.hid (VlAt.zero w)
  have HB := Lib.hid (below_z w)
  go_enter Tryd.func31, Tryd.ntmps31
  go_upto_region 2 with (fail)
  generalize hz : w.heap.size = z at HZ ⊢
  generalize w.alloc (.cells #[.int .i64 0, .int .i64 0, .string ⟨#[]⟩] 23) = w1 at HZ HB ⊢
  have HLE := Lib.hid (Nat.le_of_eq hz)
  clear hz
  go_wp2_with (first
    | (go_at_call 47; ((with_reducible refine (HP.out _).mono ?_); rintro e wq ⟨rfl, rfl⟩))
    | (go_at_call 28; ((with_reducible refine (HC.out _).mono ?_); rintro e w2 ⟨rfl, hb⟩; have HZ2 := Lib.hid (HZ.out.over hb); obtain ⟨m0, m1, m2⟩ := HZ2.out.melts; obtain ⟨u0, u1, u2⟩ := HZ2.out.cells; have HB2 := Lib.hid (HB.out.trans (hb.mono HB.out.size)); clear hb)))
  all_goals exact bodyPost_ret (out_vl (HZ2.out.put3 v) _ _ 6 res_rreckon rfl) rfl ⟨rfl, belowV3 HB2.out HLE.out v⟩
set_option maxRecDepth 100000 in
set_option maxHeartbeats 1600000 in
theorem rreckon_17y (x y : Int) (h0 : -9223372036854775808 ≤ x) (h1 : x ≤ 9223372036854775807) (h2 : -9223372036854775808 ≤ y) (h3 : y ≤ 9223372036854775807) (hin : -9223372036854775808 ≤ x - y ∧ x - y ≤ 9223372036854775807) (w : World) : Calls Tryd.prog 31 #[.int .i64 17, .int .i64 x, .int .i64 y] w fun e w' => e = .returned (.agg #[.int .i64 (Vl.num (x - y)).k, .int .i64 (Vl.num (x - y)).n, .string (Vl.num (x - y)).s]) ∧ Below w.heap.size w w' := by
  have hf := less_fit x y h0 h1 h2 h3
  rw [decide_eq_true hin] at hf
  have hw : wrap64 (x - y) = x - y := by unfold wrap64; omega
  rw [hw] at hf
  have hc := fun (w : World) => rnum_any (x - y) w
  clear hin h0 h1 h2 h3
  generalize Vl.num (x - y) = v at hc ⊢
  have HC := Lib.hid hc
  clear hc
  have HZ := Lib.hid (VlAt.zero w)
  have HB := Lib.hid (below_z w)
  go_enter Tryd.func31, Tryd.ntmps31
  go_upto_region 2 with (fail)
  generalize hz : w.heap.size = z at HZ ⊢
  generalize w.alloc (.cells #[.int .i64 0, .int .i64 0, .string ⟨#[]⟩] 23) = w1 at HZ HB ⊢
  have HLE := Lib.hid (Nat.le_of_eq hz)
  clear hz
  go_wp2_with (first
    | (go_at_call 29; ((with_reducible refine (HC.out _).mono ?_); rintro e w2 ⟨rfl, hb⟩; have HZ2 := Lib.hid (HZ.out.over hb); obtain ⟨m0, m1, m2⟩ := HZ2.out.melts; obtain ⟨u0, u1, u2⟩ := HZ2.out.cells; have HB2 := Lib.hid (HB.out.trans (hb.mono HB.out.size)); clear hb)))
  all_goals exact bodyPost_ret (out_vl (HZ2.out.put3 v) _ _ 6 res_rreckon rfl) rfl ⟨rfl, belowV3 HB2.out HLE.out v⟩
set_option maxRecDepth 100000 in
set_option maxHeartbeats 1600000 in
theorem rreckon_17n (x y : Int) (h0 : -9223372036854775808 ≤ x) (h1 : x ≤ 9223372036854775807) (h2 : -9223372036854775808 ≤ y) (h3 : y ≤ 9223372036854775807) (hin : ¬ (-9223372036854775808 ≤ x - y ∧ x - y ≤ 9223372036854775807)) (w : World) : Calls Tryd.prog 31 #[.int .i64 17, .int .i64 x, .int .i64 y] w fun e w' => e = .returned (.agg #[.int .i64 (Vl.err 2).k, .int .i64 (Vl.err 2).n, .string (Vl.err 2).s]) ∧ Below w.heap.size w w' := by
  have hf := less_fit x y h0 h1 h2 h3
  rw [decide_eq_false hin] at hf
  have hc := fun (w : World) => rno_any 2 w
  clear hin h0 h1 h2 h3
  generalize Vl.err 2 = v at hc ⊢
  have HC := Lib.hid hc
  clear hc
  have HZ := Lib.hid (VlAt.zero w)
  have HB := Lib.hid (below_z w)
  go_enter Tryd.func31, Tryd.ntmps31
  go_upto_region 2 with (fail)
  generalize hz : w.heap.size = z at HZ ⊢
  generalize w.alloc (.cells #[.int .i64 0, .int .i64 0, .string ⟨#[]⟩] 23) = w1 at HZ HB ⊢
  have HLE := Lib.hid (Nat.le_of_eq hz)
  clear hz
  go_wp2_with (first
    | (go_at_call 28; ((with_reducible refine (HC.out _).mono ?_); rintro e w2 ⟨rfl, hb⟩; have HZ2 := Lib.hid (HZ.out.over hb); obtain ⟨m0, m1, m2⟩ := HZ2.out.melts; obtain ⟨u0, u1, u2⟩ := HZ2.out.cells; have HB2 := Lib.hid (HB.out.trans (hb.mono HB.out.size)); clear hb)))
  all_goals exact bodyPost_ret (out_vl (HZ2.out.put3 v) _ _ 6 res_rreckon rfl) rfl ⟨rfl, belowV3 HB2.out HLE.out v⟩
set_option maxRecDepth 100000 in
set_option maxHeartbeats 1600000 in
theorem rreckon_18y (x y : Int) (h0 : -9223372036854775808 ≤ x) (h1 : x ≤ 9223372036854775807) (h2 : -9223372036854775808 ≤ y) (h3 : y ≤ 9223372036854775807) (hin : -9223372036854775808 ≤ x * y ∧ x * y ≤ 9223372036854775807) (w : World) : Calls Tryd.prog 31 #[.int .i64 18, .int .i64 x, .int .i64 y] w fun e w' => e = .returned (.agg #[.int .i64 (Vl.num (x * y)).k, .int .i64 (Vl.num (x * y)).n, .string (Vl.num (x * y)).s]) ∧ Below w.heap.size w w' := by
  obtain ⟨c, hcv, hp⟩ := times_any x y h0 h1 h2 h3
  rw [decide_eq_true hin] at hp
  have hc := fun (w : World) => rnum_any c w
  rw [hcv hin] at hp hc
  have HP := Lib.hid hp
  clear hp hcv hin h0 h1 h2 h3
  generalize Vl.num (x * y) = v at hc ⊢
  have HC := Lib.hid hc
  clear hc
  have HZ := Lib.hid (VlAt.zero w)
  have HB := Lib.hid (below_z w)
  go_enter Tryd.func31, Tryd.ntmps31
  go_upto_region 2 with (fail)
  generalize hz : w.heap.size = z at HZ ⊢
  generalize w.alloc (.cells #[.int .i64 0, .int .i64 0, .string ⟨#[]⟩] 23) = w1 at HZ HB ⊢
  have HLE := Lib.hid (Nat.le_of_eq hz)
  clear hz
  go_wp2_with (first
    | (go_at_call 48; ((with_reducible refine (HP.out _).mono ?_); rintro e wq ⟨rfl, rfl⟩))
    | (go_at_call 29; ((with_reducible refine (HC.out _).mono ?_); rintro e w2 ⟨rfl, hb⟩; have HZ2 := Lib.hid (HZ.out.over hb); obtain ⟨m0, m1, m2⟩ := HZ2.out.melts; obtain ⟨u0, u1, u2⟩ := HZ2.out.cells; have HB2 := Lib.hid (HB.out.trans (hb.mono HB.out.size)); clear hb)))
  all_goals exact bodyPost_ret (out_vl (HZ2.out.put3 v) _ _ 6 res_rreckon rfl) rfl ⟨rfl, belowV3 HB2.out HLE.out v⟩
set_option maxRecDepth 100000 in
set_option maxHeartbeats 1600000 in
theorem rreckon_18n (x y : Int) (h0 : -9223372036854775808 ≤ x) (h1 : x ≤ 9223372036854775807) (h2 : -9223372036854775808 ≤ y) (h3 : y ≤ 9223372036854775807) (hin : ¬ (-9223372036854775808 ≤ x * y ∧ x * y ≤ 9223372036854775807)) (w : World) : Calls Tryd.prog 31 #[.int .i64 18, .int .i64 x, .int .i64 y] w fun e w' => e = .returned (.agg #[.int .i64 (Vl.err 2).k, .int .i64 (Vl.err 2).n, .string (Vl.err 2).s]) ∧ Below w.heap.size w w' := by
  obtain ⟨c, hcv, hp⟩ := times_any x y h0 h1 h2 h3
  rw [decide_eq_false hin] at hp
  have HP := Lib.hid hp
  have hc := fun (w : World) => rno_any 2 w
  clear hp hcv hin h0 h1 h2 h3
  generalize Vl.err 2 = v at hc ⊢
  have HC := Lib.hid hc
  clear hc
  have HZ := Lib.hid (VlAt.zero w)
  have HB := Lib.hid (below_z w)
  go_enter Tryd.func31, Tryd.ntmps31
  go_upto_region 2 with (fail)
  generalize hz : w.heap.size = z at HZ ⊢
  generalize w.alloc (.cells #[.int .i64 0, .int .i64 0, .string ⟨#[]⟩] 23) = w1 at HZ HB ⊢
  have HLE := Lib.hid (Nat.le_of_eq hz)
  clear hz
  go_wp2_with (first
    | (go_at_call 48; ((with_reducible refine (HP.out _).mono ?_); rintro e wq ⟨rfl, rfl⟩))
    | (go_at_call 28; ((with_reducible refine (HC.out _).mono ?_); rintro e w2 ⟨rfl, hb⟩; have HZ2 := Lib.hid (HZ.out.over hb); obtain ⟨m0, m1, m2⟩ := HZ2.out.melts; obtain ⟨u0, u1, u2⟩ := HZ2.out.cells; have HB2 := Lib.hid (HB.out.trans (hb.mono HB.out.size)); clear hb)))
  all_goals exact bodyPost_ret (out_vl (HZ2.out.put3 v) _ _ 6 res_rreckon rfl) rfl ⟨rfl, belowV3 HB2.out HLE.out v⟩
set_option maxRecDepth 100000 in
set_option maxHeartbeats 1600000 in
theorem rreckon_19z (x y : Int) (hy : y = 0) (w : World) : Calls Tryd.prog 31 #[.int .i64 19, .int .i64 x, .int .i64 y] w fun e w' => e = .returned (.agg #[.int .i64 (Vl.err 3).k, .int .i64 (Vl.err 3).n, .string (Vl.err 3).s]) ∧ Below w.heap.size w w' := by
  have e1 : (y == 0) = true := beq_iff_eq.2 hy
  have hc := fun (w : World) => rno_any 3 w
  clear hy
  generalize Vl.err 3 = v at hc ⊢
  have HC := Lib.hid hc
  clear hc
  have HZ := Lib.hid (VlAt.zero w)
  have HB := Lib.hid (below_z w)
  go_enter Tryd.func31, Tryd.ntmps31
  go_upto_region 2 with (fail)
  generalize hz : w.heap.size = z at HZ ⊢
  generalize w.alloc (.cells #[.int .i64 0, .int .i64 0, .string ⟨#[]⟩] 23) = w1 at HZ HB ⊢
  have HLE := Lib.hid (Nat.le_of_eq hz)
  clear hz
  go_wp2_with (first
    | (go_at_call 28; ((with_reducible refine (HC.out _).mono ?_); rintro e w2 ⟨rfl, hb⟩; have HZ2 := Lib.hid (HZ.out.over hb); obtain ⟨m0, m1, m2⟩ := HZ2.out.melts; obtain ⟨u0, u1, u2⟩ := HZ2.out.cells; have HB2 := Lib.hid (HB.out.trans (hb.mono HB.out.size)); clear hb)))
  all_goals exact bodyPost_ret (out_vl (HZ2.out.put3 v) _ _ 6 res_rreckon rfl) rfl ⟨rfl, belowV3 HB2.out HLE.out v⟩
set_option maxRecDepth 100000 in
set_option maxHeartbeats 1600000 in
theorem rreckon_19l (x y : Int) (hx : x = -9223372036854775808) (hy : y = -1) (w : World) : Calls Tryd.prog 31 #[.int .i64 19, .int .i64 x, .int .i64 y] w fun e w' => e = .returned (.agg #[.int .i64 (Vl.err 2).k, .int .i64 (Vl.err 2).n, .string (Vl.err 2).s]) ∧ Below w.heap.size w w' := by
  have e1 : (y == 0) = false := beq_eq_false_iff_ne.2 (by omega)
  have e2 : (y == -1) = true := beq_iff_eq.2 hy
  have e3 : (x == -9223372036854775808) = true := beq_iff_eq.2 hx
  have hc := fun (w : World) => rno_any 2 w
  clear hx hy
  generalize Vl.err 2 = v at hc ⊢
  have HC := Lib.hid hc
  clear hc
  have HZ := Lib.hid (VlAt.zero w)
  have HB := Lib.hid (below_z w)
  go_enter Tryd.func31, Tryd.ntmps31
  go_upto_region 2 with (fail)
  generalize hz : w.heap.size = z at HZ ⊢
  generalize w.alloc (.cells #[.int .i64 0, .int .i64 0, .string ⟨#[]⟩] 23) = w1 at HZ HB ⊢
  have HLE := Lib.hid (Nat.le_of_eq hz)
  clear hz
  go_wp2_with (first
    | (go_at_call 28; ((with_reducible refine (HC.out _).mono ?_); rintro e w2 ⟨rfl, hb⟩; have HZ2 := Lib.hid (HZ.out.over hb); obtain ⟨m0, m1, m2⟩ := HZ2.out.melts; obtain ⟨u0, u1, u2⟩ := HZ2.out.cells; have HB2 := Lib.hid (HB.out.trans (hb.mono HB.out.size)); clear hb)))
  all_goals exact bodyPost_ret (out_vl (HZ2.out.put3 v) _ _ 6 res_rreckon rfl) rfl ⟨rfl, belowV3 HB2.out HLE.out v⟩
set_option maxRecDepth 100000 in
set_option maxHeartbeats 1600000 in
theorem rreckon_19a (x y : Int) (hx : ¬ x = -9223372036854775808) (hy : ¬ y = 0) (h0 : -9223372036854775808 ≤ x.tdiv y) (h1 : x.tdiv y ≤ 9223372036854775807) (w : World) : Calls Tryd.prog 31 #[.int .i64 19, .int .i64 x, .int .i64 y] w fun e w' => e = .returned (.agg #[.int .i64 (Vl.num (x.tdiv y)).k, .int .i64 (Vl.num (x.tdiv y)).n, .string (Vl.num (x.tdiv y)).s]) ∧ Below w.heap.size w w' := by
  have e1 : (y == 0) = false := beq_eq_false_iff_ne.2 hy
  have e3 : (x == -9223372036854775808) = false := beq_eq_false_iff_ne.2 hx
  have q1 : IntKind.i64.wrap (x.tdiv y) = x.tdiv y := by rw [IntKind.wrap_i64]; omega
  have q2 : wrap64 (x.tdiv y) = x.tdiv y := by unfold wrap64; omega
  have hc := fun (w : World) => rnum_any (x.tdiv y) w
  clear hx h0 h1
  generalize Vl.num (x.tdiv y) = v at hc ⊢
  have HC := Lib.hid hc
  clear hc
  have HZ := Lib.hid (VlAt.zero w)
  have HB := Lib.hid (below_z w)
  go_enter Tryd.func31, Tryd.ntmps31
  go_upto_region 2 with (fail)
  generalize hz : w.heap.size = z at HZ ⊢
  generalize w.alloc (.cells #[.int .i64 0, .int .i64 0, .string ⟨#[]⟩] 23) = w1 at HZ HB ⊢
  have HLE := Lib.hid (Nat.le_of_eq hz)
  clear hz
  go_wp2_with (first
    | (go_at_call 29; ((with_reducible refine (HC.out _).mono ?_); rintro e w2 ⟨rfl, hb⟩; have HZ2 := Lib.hid (HZ.out.over hb); obtain ⟨m0, m1, m2⟩ := HZ2.out.melts; obtain ⟨u0, u1, u2⟩ := HZ2.out.cells; have HB2 := Lib.hid (HB.out.trans (hb.mono HB.out.size)); clear hb)))
  all_goals exact bodyPost_ret (out_vl (HZ2.out.put3 v) _ _ 6 res_rreckon rfl) rfl ⟨rfl, belowV3 HB2.out HLE.out v⟩
set_option maxRecDepth 100000 in
set_option maxHeartbeats 1600000 in
theorem rreckon_19b (x y : Int) (hx : x = -9223372036854775808) (hy : ¬ y = 0) (hm : ¬ y = -1) (h0 : -9223372036854775808 ≤ x.tdiv y) (h1 : x.tdiv y ≤ 9223372036854775807) (w : World) : Calls Tryd.prog 31 #[.int .i64 19, .int .i64 x, .int .i64 y] w fun e w' => e = .returned (.agg #[.int .i64 (Vl.num (x.tdiv y)).k, .int .i64 (Vl.num (x.tdiv y)).n, .string (Vl.num (x.tdiv y)).s]) ∧ Below w.heap.size w w' := by
  have e1 : (y == 0) = false := beq_eq_false_iff_ne.2 hy
  have e3 : (x == -9223372036854775808) = true := beq_iff_eq.2 hx
  have e4 : (y == -1) = false := beq_eq_false_iff_ne.2 hm
  have q1 : IntKind.i64.wrap (x.tdiv y) = x.tdiv y := by rw [IntKind.wrap_i64]; omega
  have q2 : wrap64 (x.tdiv y) = x.tdiv y := by unfold wrap64; omega
  have hc := fun (w : World) => rnum_any (x.tdiv y) w
  clear hx h0 h1
  generalize Vl.num (x.tdiv y) = v at hc ⊢
  have HC := Lib.hid hc
  clear hc
  have HZ := Lib.hid (VlAt.zero w)
  have HB := Lib.hid (below_z w)
  go_enter Tryd.func31, Tryd.ntmps31
  go_upto_region 2 with (fail)
  generalize hz : w.heap.size = z at HZ ⊢
  generalize w.alloc (.cells #[.int .i64 0, .int .i64 0, .string ⟨#[]⟩] 23) = w1 at HZ HB ⊢
  have HLE := Lib.hid (Nat.le_of_eq hz)
  clear hz
  go_wp2_with (first
    | (go_at_call 29; ((with_reducible refine (HC.out _).mono ?_); rintro e w2 ⟨rfl, hb⟩; have HZ2 := Lib.hid (HZ.out.over hb); obtain ⟨m0, m1, m2⟩ := HZ2.out.melts; obtain ⟨u0, u1, u2⟩ := HZ2.out.cells; have HB2 := Lib.hid (HB.out.trans (hb.mono HB.out.size)); clear hb)))
  all_goals exact bodyPost_ret (out_vl (HZ2.out.put3 v) _ _ 6 res_rreckon rfl) rfl ⟨rfl, belowV3 HB2.out HLE.out v⟩
theorem tdiv_minus (x : Int) (h0 : -9223372036854775808 < x) (h1 : x ≤ 9223372036854775807) : -9223372036854775808 ≤ x.tdiv (-1) ∧ x.tdiv (-1) ≤ 9223372036854775807 := by
  rw [Int.tdiv_neg, Int.tdiv_one]; omega
theorem rreckon_any (k x y : Int) (h0 : -9223372036854775808 ≤ x) (h1 : x ≤ 9223372036854775807) (h2 : -9223372036854775808 ≤ y) (h3 : y ≤ 9223372036854775807) (hk : k = 16 ∨ k = 17 ∨ k = 18 ∨ k = 19) (w : World) : Calls Tryd.prog 31 #[.int .i64 k, .int .i64 x, .int .i64 y] w fun e w' => e = .returned (.agg #[.int .i64 (if k = 16 then sumV x y else if k = 17 then subV x y else if k = 18 then mulV x y else divV x y).k, .int .i64 (if k = 16 then sumV x y else if k = 17 then subV x y else if k = 18 then mulV x y else divV x y).n, .string (if k = 16 then sumV x y else if k = 17 then subV x y else if k = 18 then mulV x y else divV x y).s]) ∧ Below w.heap.size w w' := by
  rcases hk with rfl | rfl | rfl | rfl
  · rw [if_pos rfl]; unfold sumV
    by_cases hin : -9223372036854775808 ≤ x + y ∧ x + y ≤ 9223372036854775807
    · rw [fit_in hin.1 hin.2]; exact rreckon_16y x y h0 h1 h2 h3 hin w
    · rw [fit_out hin]; exact rreckon_16n x y h0 h1 h2 h3 hin w
  · rw [if_neg (by decide), if_pos rfl]; unfold subV
    by_cases hin : -9223372036854775808 ≤ x - y ∧ x - y ≤ 9223372036854775807
    · rw [fit_in hin.1 hin.2]; exact rreckon_17y x y h0 h1 h2 h3 hin w
    · rw [fit_out hin]; exact rreckon_17n x y h0 h1 h2 h3 hin w
  · rw [if_neg (by decide), if_neg (by decide), if_pos rfl]; unfold mulV
    by_cases hin : -9223372036854775808 ≤ x * y ∧ x * y ≤ 9223372036854775807
    · rw [fit_in hin.1 hin.2]; exact rreckon_18y x y h0 h1 h2 h3 hin w
    · rw [fit_out hin]; exact rreckon_18n x y h0 h1 h2 h3 hin w
  · rw [if_neg (by decide), if_neg (by decide), if_neg (by decide)]; unfold divV
    by_cases hy : y = 0
    · rw [if_pos hy]; exact rreckon_19z x y hy w
    · rw [if_neg hy]
      by_cases hx : x = -9223372036854775808
      · by_cases hm : y = -1
        · rw [fit_out (by rw [hx, hm]; decide)]; exact rreckon_19l x y hx hm w
        · have ht := tdiv_in x y h0 h1 hy hm
          rw [fit_in ht.1 ht.2]; exact rreckon_19b x y hx hy hm ht.1 ht.2 w
      · have ht : -9223372036854775808 ≤ x.tdiv y ∧ x.tdiv y ≤ 9223372036854775807 := by
          by_cases hm : y = -1
          · rw [hm]; exact tdiv_minus x (by omega) h1
          · exact tdiv_in x y h0 h1 hy hm
        rw [fit_in ht.1 ht.2]; exact rreckon_19a x y hx hy ht.1 ht.2 w
end Go.Proofs.YtgnandbokgfeiaaDoor
