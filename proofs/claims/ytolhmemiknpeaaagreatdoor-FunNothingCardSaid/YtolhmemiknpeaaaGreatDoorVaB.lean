/-
  Layer 7, the program: numbers reckoned with.
-/
import Derived.Test.YtolhmemiknpeaaaGreatDoorVaA
namespace Go.Proofs.YtolhmemiknpeaaaGreatDoor
open Go.RowKit

theorem res_fitting : Tryz.f73.results = #[.cell 4 28] := by kernel_rfl
theorem res_negative : Tryz.f57.results = #[.cell 2 28] := by kernel_rfl
set_option maxRecDepth 100000 in
set_option maxHeartbeats 1600000 in
theorem fitting_false (n : Int) (w : World) : Calls Tryz.prog 73 #[.int .i64 n, .bool false] w fun e w' => e = .returned (.agg #[.int .i64 (Vl.err 2).k, .int .i64 (Vl.err 2).n, .string (Vl.err 2).s]) ∧ Below w.heap.size w w' := by
  obtain ⟨v, hv⟩ : ∃ v, Vl.err 2 = v := ⟨_, rfl⟩
  have hc := fault_any 2
  rw [hv] at hc ⊢
  have HC := Lib.hid hc; clear hc hv
  have HZ := Lib.hid (VlAt.zero w)
  have HB := Lib.hid (below_z w)
  go_enter Tryz.func73, Tryz.ntmps73
  go_upto_region 1 with (fail)
  generalize hz : w.heap.size = z at HZ ⊢
  generalize w.alloc (.cells #[.int .i64 0, .int .i64 0, .string ⟨#[]⟩] 28) = w1 at HZ HB ⊢
  have HLE := Lib.hid (Nat.le_of_eq hz)
  clear hz
  go_wp2_with (go_at_call 55; ((with_reducible refine (HC.out _).mono ?_); rintro e w2 ⟨rfl, hb⟩; have HZ2 := Lib.hid (HZ.out.over hb); obtain ⟨m0, m1, m2⟩ := HZ2.out.melts; obtain ⟨u0, u1, u2⟩ := HZ2.out.cells; have HB2 := Lib.hid (HB.out.trans (hb.mono HB.out.size)); clear hb))
  exact bodyPost_ret (out_vl (HZ2.out.put3 v) _ _ 4 res_fitting rfl) rfl ⟨rfl, belowV3 HB2.out HLE.out v⟩
set_option maxRecDepth 100000 in
set_option maxHeartbeats 1600000 in
theorem fitting_true (n : Int) (w : World) : Calls Tryz.prog 73 #[.int .i64 n, .bool true] w fun e w' => e = .returned (.agg #[.int .i64 (Vl.num n).k, .int .i64 (Vl.num n).n, .string (Vl.num n).s]) ∧ Below w.heap.size w w' := by
  obtain ⟨v, hv⟩ : ∃ v, Vl.num n = v := ⟨_, rfl⟩
  have hc := number_any n
  rw [hv] at hc ⊢
  have HC := Lib.hid hc; clear hc hv
  have HZ := Lib.hid (VlAt.zero w)
  have HB := Lib.hid (below_z w)
  go_enter Tryz.func73, Tryz.ntmps73
  go_upto_region 1 with (fail)
  generalize hz : w.heap.size = z at HZ ⊢
  generalize w.alloc (.cells #[.int .i64 0, .int .i64 0, .string ⟨#[]⟩] 28) = w1 at HZ HB ⊢
  have HLE := Lib.hid (Nat.le_of_eq hz)
  clear hz
  go_wp2_with (go_at_call 85; ((with_reducible refine (HC.out _).mono ?_); rintro e w2 ⟨rfl, hb⟩; have HZ2 := Lib.hid (HZ.out.over hb); obtain ⟨m0, m1, m2⟩ := HZ2.out.melts; obtain ⟨u0, u1, u2⟩ := HZ2.out.cells; have HB2 := Lib.hid (HB.out.trans (hb.mono HB.out.size)); clear hb))
  exact bodyPost_ret (out_vl (HZ2.out.put3 v) _ _ 4 res_fitting rfl) rfl ⟨rfl, belowV3 HB2.out HLE.out v⟩
/-- What goes into 64 bits, or does not. -/
theorem fitting_is (n m : Int) (b : Bool) (hb : b = decide (-9223372036854775808 ≤ m ∧ m ≤ 9223372036854775807)) (hn : n = wr64 m) (w : World) : Calls Tryz.prog 73 #[.int .i64 n, .bool b] w fun e w' => e = .returned (.agg #[.int .i64 (fitV m).k, .int .i64 (fitV m).n, .string (fitV m).s]) ∧ Below w.heap.size w w' := by
  by_cases h : -9223372036854775808 ≤ m ∧ m ≤ 9223372036854775807
  · rw [decide_eq_true h] at hb
    subst hb; subst hn
    rw [wr64_in m h.1 h.2, fit_in h.1 h.2]
    exact fitting_true m w
  · rw [decide_eq_false h] at hb
    subst hb
    rw [fit_out h]
    exact fitting_false n w
set_option maxRecDepth 100000 in
set_option maxHeartbeats 1600000 in
theorem negative_any (n : Int) (h0 : -9223372036854775808 ≤ n) (h1 : n ≤ 9223372036854775807) (w : World) : Calls Tryz.prog 57 #[.int .i64 n] w fun e w' => e = .returned (.agg #[.int .i64 (fitV (-n)).k, .int .i64 (fitV (-n)).n, .string (fitV (-n)).s]) ∧ Below w.heap.size w w' := by
  have hc := fun (w : World) => fitting_is (wr64 (-n)) (-n) (n != -9223372036854775808) (by rw [bne, Bool.beq_eq_decide_eq, ← decide_not, decide_eq_decide]; omega) rfl w
  obtain ⟨v, hv⟩ : ∃ v, fitV (-n) = v := ⟨_, rfl⟩
  rw [hv] at hc ⊢
  simp only [wr64_is] at hc
  have HC := Lib.hid hc; clear hc hv h0 h1
  have HZ := Lib.hid (VlAt.zero w)
  have HB := Lib.hid (below_z w)
  go_enter Tryz.func57, Tryz.ntmps57
  go_upto_region 1 with (fail)
  generalize hz : w.heap.size = z at HZ ⊢
  generalize w.alloc (.cells #[.int .i64 0, .int .i64 0, .string ⟨#[]⟩] 28) = w1 at HZ HB ⊢
  have HLE := Lib.hid (Nat.le_of_eq hz)
  clear hz
  go_wp2_with (go_at_call 73; ((with_reducible refine (HC.out _).mono ?_); rintro e w2 ⟨rfl, hb⟩; have HZ2 := Lib.hid (HZ.out.over hb); obtain ⟨m0, m1, m2⟩ := HZ2.out.melts; obtain ⟨u0, u1, u2⟩ := HZ2.out.cells; have HB2 := Lib.hid (HB.out.trans (hb.mono HB.out.size)); clear hb))
  exact bodyPost_ret (out_vl (HZ2.out.put3 v) _ _ 2 res_negative rfl) rfl ⟨rfl, belowV3 HB2.out HLE.out v⟩
theorem res_sum : Tryz.f81.results = #[.cell 2 28] := by kernel_rfl
theorem res_difference : Tryz.f82.results = #[.cell 2 28] := by kernel_rfl
theorem res_product : Tryz.f83.results = #[.cell 2 28] := by kernel_rfl
theorem res_quotient : Tryz.f84.results = #[.cell 2 28] := by kernel_rfl
def NmAt (w : World) (b : Nat) (x y : Int) : Prop := w.heap[b]? = some (.cells #[.int .i64 x, .int .i64 y] 100)
theorem NmAt.lt {w : World} {b : Nat} {x y : Int} (h : NmAt w b x y) : b < w.heap.size := (Array.getElem?_eq_some_iff.1 h).1
theorem NmAt.cells {w : World} {b : Nat} {x y : Int} (h : NmAt w b x y) : w.cell? ⟨b, 0, none⟩ = some (.int .i64 x) ∧ w.cell? ⟨b, 1, none⟩ = some (.int .i64 y) :=
  ⟨by rw [cell_of_row w b 0 _ _ _ h]; rfl, by rw [cell_of_row w b 1 _ _ _ h]; rfl⟩
/-- Two numbers in a block, a place for what comes of them behind. -/
def NmZ (w : World) : World := (w.alloc (.cells #[.int .i64 0, .int .i64 0] 100)).alloc (.cells #[.int .i64 0, .int .i64 0, .string ⟨#[]⟩] 28)
theorem nm_open (w : World) (x y : Int) : NmAt ((w.alloc (.cells #[.int .i64 x, .int .i64 y] 100)).alloc (.cells #[.int .i64 0, .int .i64 0, .string ⟨#[]⟩] 28)) w.heap.size x y ∧ VlAt ((w.alloc (.cells #[.int .i64 x, .int .i64 y] 100)).alloc (.cells #[.int .i64 0, .int .i64 0, .string ⟨#[]⟩] 28)) (w.heap.size + 1) Vl.none ∧ Below w.heap.size w ((w.alloc (.cells #[.int .i64 x, .int .i64 y] 100)).alloc (.cells #[.int .i64 0, .int .i64 0, .string ⟨#[]⟩] 28)) := by
  have hb : Below w.heap.size w (w.alloc (.cells #[.int .i64 x, .int .i64 y] 100)) := (Below.refl _ _).alloc (Nat.le_refl _) _
  have h1 : NmAt (w.alloc (.cells #[.int .i64 x, .int .i64 y] 100)) w.heap.size x y := (Go.MapKept.heap_alloc w _).1
  refine ⟨?_, ?_, hb.alloc hb.size _⟩
  · unfold NmAt; rw [((Below.refl _ (w.alloc (.cells #[.int .i64 x, .int .i64 y] 100))).alloc (Nat.le_refl _) (.cells #[.int .i64 0, .int .i64 0, .string ⟨#[]⟩] 28)).block _ h1.lt]; exact h1
  · have := VlAt.zero (w.alloc (.cells #[.int .i64 x, .int .i64 y] 100))
    rwa [World.size_alloc] at this
set_option maxRecDepth 100000 in
set_option maxHeartbeats 1600000 in
theorem sum_any (x y : Int) (h0 : -9223372036854775808 ≤ x) (h1 : x ≤ 9223372036854775807) (h2 : -9223372036854775808 ≤ y) (h3 : y ≤ 9223372036854775807) (w : World) : Calls Tryz.prog 81 #[.agg #[.int .i64 x, .int .i64 y]] w fun e w' => e = .returned (.agg #[.int .i64 (sumV x y).k, .int .i64 (sumV x y).n, .string (sumV x y).s]) ∧ Below w.heap.size w w' := by
  have hc := fun (w : World) => fitting_is (wr64 (x + y)) (x + y) (decide (wr64 (x + y) < x) == decide (y < 0)) (sum_fit x y h0 h1 h2 h3) rfl w
  obtain ⟨v, hv⟩ : ∃ v, sumV x y = v := ⟨_, rfl⟩
  unfold sumV at hv
  rw [hv] at hc
  simp only [wr64_is] at hc
  have HC := Lib.hid hc
  rw [show sumV x y = v from hv]
  clear hc hv h0 h1 h2 h3
  obtain ⟨k1, k2, k3⟩ := nm_open w x y
  have HN := Lib.hid k1; have HZ := Lib.hid k2; have HB := Lib.hid k3
  clear k1 k2 k3
  go_enter Tryz.func81, Tryz.ntmps81
  go_upto_region 1 with (fail)
  generalize hz : w.heap.size = q at HN HZ ⊢
  generalize (w.alloc (.cells #[.int .i64 x, .int .i64 y] 100)).alloc (.cells #[.int .i64 0, .int .i64 0, .string ⟨#[]⟩] 28) = w1 at HN HZ HB ⊢
  have HLE := Lib.hid (show w.heap.size ≤ q + 1 by omega)
  obtain ⟨n0, n1⟩ := HN.out.cells
  clear hz
  go_wp2_with (go_at_call 73; ((with_reducible refine (HC.out _).mono ?_); rintro e w2 ⟨rfl, hb⟩; have HZ2 := Lib.hid (HZ.out.over hb); obtain ⟨m0, m1, m2⟩ := HZ2.out.melts; obtain ⟨u0, u1, u2⟩ := HZ2.out.cells; have HB2 := Lib.hid (HB.out.trans (hb.mono HB.out.size)); clear hb))
  exact bodyPost_ret (out_vl (HZ2.out.put3 v) _ _ 2 res_sum rfl) rfl ⟨rfl, belowV3 HB2.out HLE.out v⟩
set_option maxRecDepth 100000 in
set_option maxHeartbeats 1600000 in
theorem difference_any (x y : Int) (h0 : -9223372036854775808 ≤ x) (h1 : x ≤ 9223372036854775807) (h2 : -9223372036854775808 ≤ y) (h3 : y ≤ 9223372036854775807) (w : World) : Calls Tryz.prog 82 #[.agg #[.int .i64 x, .int .i64 y]] w fun e w' => e = .returned (.agg #[.int .i64 (subV x y).k, .int .i64 (subV x y).n, .string (subV x y).s]) ∧ Below w.heap.size w w' := by
  have hc := fun (w : World) => fitting_is (wr64 (x - y)) (x - y) (decide (x < wr64 (x - y)) == decide (y < 0)) (sub_fit x y h0 h1 h2 h3) rfl w
  obtain ⟨v, hv⟩ : ∃ v, subV x y = v := ⟨_, rfl⟩
  unfold subV at hv
  rw [hv] at hc
  simp only [wr64_is] at hc
  have HC := Lib.hid hc
  rw [show subV x y = v from hv]
  clear hc hv h0 h1 h2 h3
  obtain ⟨k1, k2, k3⟩ := nm_open w x y
  have HN := Lib.hid k1; have HZ := Lib.hid k2; have HB := Lib.hid k3
  clear k1 k2 k3
  go_enter Tryz.func82, Tryz.ntmps82
  go_upto_region 1 with (fail)
  generalize hz : w.heap.size = q at HN HZ ⊢
  generalize (w.alloc (.cells #[.int .i64 x, .int .i64 y] 100)).alloc (.cells #[.int .i64 0, .int .i64 0, .string ⟨#[]⟩] 28) = w1 at HN HZ HB ⊢
  have HLE := Lib.hid (show w.heap.size ≤ q + 1 by omega)
  obtain ⟨n0, n1⟩ := HN.out.cells
  clear hz
  go_wp2_with (go_at_call 73; ((with_reducible refine (HC.out _).mono ?_); rintro e w2 ⟨rfl, hb⟩; have HZ2 := Lib.hid (HZ.out.over hb); obtain ⟨m0, m1, m2⟩ := HZ2.out.melts; obtain ⟨u0, u1, u2⟩ := HZ2.out.cells; have HB2 := Lib.hid (HB.out.trans (hb.mono HB.out.size)); clear hb))
  exact bodyPost_ret (out_vl (HZ2.out.put3 v) _ _ 2 res_difference rfl) rfl ⟨rfl, belowV3 HB2.out HLE.out v⟩
set_option maxRecDepth 100000 in
set_option maxHeartbeats 1600000 in
theorem product_nought (x y : Int) (hy : y = 0) (w : World) : Calls Tryz.prog 83 #[.agg #[.int .i64 x, .int .i64 y]] w fun e w' => e = .returned (.agg #[.int .i64 (mulV x y).k, .int .i64 (mulV x y).n, .string (mulV x y).s]) ∧ Below w.heap.size w w' := by
  have hc := fun (w : World) => number_any 0 w
  rw [show Vl.num 0 = mulV x y from by subst hy; unfold mulV; rw [Int.mul_zero]; rfl] at hc
  have e0 : (y == 0) = true := beq_iff_eq.2 hy
  clear hy
  obtain ⟨v, hv⟩ : ∃ v, mulV x y = v := ⟨_, rfl⟩
  rw [hv] at hc ⊢
  have HC := Lib.hid hc
  clear hc hv
  obtain ⟨k1, k2, k3⟩ := nm_open w x y
  have HN := Lib.hid k1; have HZ := Lib.hid k2; have HB := Lib.hid k3
  clear k1 k2 k3
  go_enter Tryz.func83, Tryz.ntmps83
  go_upto_region 1 with (fail)
  generalize hz : w.heap.size = q at HN HZ ⊢
  generalize (w.alloc (.cells #[.int .i64 x, .int .i64 y] 100)).alloc (.cells #[.int .i64 0, .int .i64 0, .string ⟨#[]⟩] 28) = w1 at HN HZ HB ⊢
  have HLE := Lib.hid (show w.heap.size ≤ q + 1 by omega)
  obtain ⟨n0, n1⟩ := HN.out.cells
  clear hz
  go_wp2_with (go_at_call 85; ((with_reducible refine (HC.out _).mono ?_); rintro e w2 ⟨rfl, hb⟩; have HZ2 := Lib.hid (HZ.out.over hb); obtain ⟨m0, m1, m2⟩ := HZ2.out.melts; obtain ⟨u0, u1, u2⟩ := HZ2.out.cells; have HB2 := Lib.hid (HB.out.trans (hb.mono HB.out.size)); clear hb))
  exact bodyPost_ret (out_vl (HZ2.out.put3 v) _ _ 2 res_product rfl) rfl ⟨rfl, belowV3 HB2.out HLE.out v⟩
set_option maxRecDepth 100000 in
set_option maxHeartbeats 1600000 in
theorem product_minus (x y : Int) (h0 : -9223372036854775808 ≤ x) (h1 : x ≤ 9223372036854775807) (hy : y = -1) (w : World) : Calls Tryz.prog 83 #[.agg #[.int .i64 x, .int .i64 y]] w fun e w' => e = .returned (.agg #[.int .i64 (mulV x y).k, .int .i64 (mulV x y).n, .string (mulV x y).s]) ∧ Below w.heap.size w w' := by
  have hc := fun (w : World) => negative_any x h0 h1 w
  rw [show fitV (-x) = mulV x y from by subst hy; unfold mulV; rw [Int.mul_neg_one]] at hc
  have e0 : (y == 0) = false := beq_eq_false_iff_ne.2 (by omega)
  have e1 : (y == -1) = true := beq_iff_eq.2 hy
  clear hy
  obtain ⟨v, hv⟩ : ∃ v, mulV x y = v := ⟨_, rfl⟩
  rw [hv] at hc ⊢
  have HC := Lib.hid hc
  clear hc hv
  obtain ⟨k1, k2, k3⟩ := nm_open w x y
  have HN := Lib.hid k1; have HZ := Lib.hid k2; have HB := Lib.hid k3
  clear k1 k2 k3
  go_enter Tryz.func83, Tryz.ntmps83
  go_upto_region 1 with (fail)
  generalize hz : w.heap.size = q at HN HZ ⊢
  generalize (w.alloc (.cells #[.int .i64 x, .int .i64 y] 100)).alloc (.cells #[.int .i64 0, .int .i64 0, .string ⟨#[]⟩] 28) = w1 at HN HZ HB ⊢
  have HLE := Lib.hid (show w.heap.size ≤ q + 1 by omega)
  obtain ⟨n0, n1⟩ := HN.out.cells
  clear hz
  go_wp2_with (go_at_call 57; ((with_reducible refine (HC.out _).mono ?_); rintro e w2 ⟨rfl, hb⟩; have HZ2 := Lib.hid (HZ.out.over hb); obtain ⟨m0, m1, m2⟩ := HZ2.out.melts; obtain ⟨u0, u1, u2⟩ := HZ2.out.cells; have HB2 := Lib.hid (HB.out.trans (hb.mono HB.out.size)); clear hb))
  exact bodyPost_ret (out_vl (HZ2.out.put3 v) _ _ 2 res_product rfl) rfl ⟨rfl, belowV3 HB2.out HLE.out v⟩
set_option maxRecDepth 100000 in
set_option maxHeartbeats 1600000 in
theorem product_else (x y : Int) (h2 : -9223372036854775808 ≤ y) (h3 : y ≤ 9223372036854775807) (hy : ¬ y = 0) (hy2 : ¬ y = -1) (w : World) : Calls Tryz.prog 83 #[.agg #[.int .i64 x, .int .i64 y]] w fun e w' => e = .returned (.agg #[.int .i64 (mulV x y).k, .int .i64 (mulV x y).n, .string (mulV x y).s]) ∧ Below w.heap.size w w' := by
  have hr : -9223372036854775808 ≤ wr64 (x * y) ∧ wr64 (x * y) ≤ 9223372036854775807 := by rw [wr64_is]; unfold wrap64; omega
  have htd := tdiv_in (wr64 (x * y)) y hr.1 hr.2 hy hy2
  have hw2 := wr64_in _ htd.1 htd.2
  have hc := fun (w : World) => fitting_is (wr64 (x * y)) (x * y) (IntKind.i64.wrap ((wr64 (x * y)).tdiv y) == x) (by rw [show IntKind.i64.wrap ((wr64 (x * y)).tdiv y) = (wr64 (x * y)).tdiv y from hw2, Bool.beq_eq_decide_eq, decide_eq_decide]; exact mul_back x y h2 h3 hy) rfl w
  rw [show fitV (x * y) = mulV x y from rfl] at hc
  simp only [wr64_is] at hc
  have e0 : (y == 0) = false := beq_eq_false_iff_ne.2 hy
  have e1 : (y == -1) = false := beq_eq_false_iff_ne.2 hy2
  clear hw2
  clear hr htd h2 h3
  obtain ⟨v, hv⟩ : ∃ v, mulV x y = v := ⟨_, rfl⟩
  rw [hv] at hc ⊢
  have HC := Lib.hid hc
  clear hc hv
  obtain ⟨k1, k2, k3⟩ := nm_open w x y
  have HN := Lib.hid k1; have HZ := Lib.hid k2; have HB := Lib.hid k3
  clear k1 k2 k3
  go_enter Tryz.func83, Tryz.ntmps83
  go_upto_region 1 with (fail)
  generalize hz : w.heap.size = q at HN HZ ⊢
  generalize (w.alloc (.cells #[.int .i64 x, .int .i64 y] 100)).alloc (.cells #[.int .i64 0, .int .i64 0, .string ⟨#[]⟩] 28) = w1 at HN HZ HB ⊢
  have HLE := Lib.hid (show w.heap.size ≤ q + 1 by omega)
  obtain ⟨n0, n1⟩ := HN.out.cells
  clear hz
  go_upto_region 7 with (fail)
  have hd := (Below.refl w1.heap.size w1).drew
  have HZ := Lib.hid (HZ.out.over hd)
  have HB := Lib.hid (HB.out.trans (hd.mono HB.out.size))
  clear hd
  go_region_held3 (fun w' => w'.cell? ⟨q, 0, none⟩ = some (.int .i64 x) ∧ w'.cell? ⟨q, 1, none⟩ = some (.int .i64 y)) (go_keep) (first | (go_at_call 73; ((with_reducible refine (HC.out _).mono ?_); rintro e w2 ⟨rfl, hb⟩; have HZ2 := Lib.hid (HZ.out.over hb); obtain ⟨m0, m1, m2⟩ := HZ2.out.melts; obtain ⟨u0, u1, u2⟩ := HZ2.out.cells; have HB2 := Lib.hid (HB.out.trans (hb.mono HB.out.size)); have y0 := (hb.cell (p := ⟨q, 0, none⟩) HN.out.lt).trans n0; have y1 := (hb.cell (p := ⟨q, 1, none⟩) HN.out.lt).trans n1; clear hb)))
  all_goals go_wp2_with fail
  all_goals exact bodyPost_ret (out_vl (HZ2.out.put3 v) _ _ 2 res_product rfl) rfl ⟨rfl, belowV3 HB2.out HLE.out v⟩
theorem product_any (x y : Int) (h0 : -9223372036854775808 ≤ x) (h1 : x ≤ 9223372036854775807) (h2 : -9223372036854775808 ≤ y) (h3 : y ≤ 9223372036854775807) (w : World) : Calls Tryz.prog 83 #[.agg #[.int .i64 x, .int .i64 y]] w fun e w' => e = .returned (.agg #[.int .i64 (mulV x y).k, .int .i64 (mulV x y).n, .string (mulV x y).s]) ∧ Below w.heap.size w w' := by
  by_cases h : y = 0
  · exact product_nought x y h w
  · by_cases h4 : y = -1
    · exact product_minus x y h0 h1 h4 w
    · exact product_else x y h2 h3 h h4 w
set_option maxRecDepth 100000 in
set_option maxHeartbeats 1600000 in
theorem quotient_nought (x y : Int) (hy : y = 0) (w : World) : Calls Tryz.prog 84 #[.agg #[.int .i64 x, .int .i64 y]] w fun e w' => e = .returned (.agg #[.int .i64 (divV x y).k, .int .i64 (divV x y).n, .string (divV x y).s]) ∧ Below w.heap.size w w' := by
  have hc := fun (w : World) => fault_any 3 w
  rw [show Vl.err 3 = divV x y from by unfold divV; rw [if_pos hy]] at hc
  have e0 : (y == 0) = true := beq_iff_eq.2 hy
  clear hy
  obtain ⟨v, hv⟩ : ∃ v, divV x y = v := ⟨_, rfl⟩
  rw [hv] at hc ⊢
  have HC := Lib.hid hc
  clear hc hv
  obtain ⟨k1, k2, k3⟩ := nm_open w x y
  have HN := Lib.hid k1; have HZ := Lib.hid k2; have HB := Lib.hid k3
  clear k1 k2 k3
  go_enter Tryz.func84, Tryz.ntmps84
  go_upto_region 1 with (fail)
  generalize hz : w.heap.size = q at HN HZ ⊢
  generalize (w.alloc (.cells #[.int .i64 x, .int .i64 y] 100)).alloc (.cells #[.int .i64 0, .int .i64 0, .string ⟨#[]⟩] 28) = w1 at HN HZ HB ⊢
  have HLE := Lib.hid (show w.heap.size ≤ q + 1 by omega)
  obtain ⟨n0, n1⟩ := HN.out.cells
  clear hz
  go_wp2_with (go_at_call 55; ((with_reducible refine (HC.out _).mono ?_); rintro e w2 ⟨rfl, hb⟩; have HZ2 := Lib.hid (HZ.out.over hb); obtain ⟨m0, m1, m2⟩ := HZ2.out.melts; obtain ⟨u0, u1, u2⟩ := HZ2.out.cells; have HB2 := Lib.hid (HB.out.trans (hb.mono HB.out.size)); clear hb))
  exact bodyPost_ret (out_vl (HZ2.out.put3 v) _ _ 2 res_quotient rfl) rfl ⟨rfl, belowV3 HB2.out HLE.out v⟩
set_option maxRecDepth 100000 in
set_option maxHeartbeats 1600000 in
theorem quotient_minus (x y : Int) (h0 : -9223372036854775808 ≤ x) (h1 : x ≤ 9223372036854775807) (hy : y = -1) (w : World) : Calls Tryz.prog 84 #[.agg #[.int .i64 x, .int .i64 y]] w fun e w' => e = .returned (.agg #[.int .i64 (divV x y).k, .int .i64 (divV x y).n, .string (divV x y).s]) ∧ Below w.heap.size w w' := by
  have hc := fun (w : World) => negative_any x h0 h1 w
  rw [show fitV (-x) = divV x y from by subst hy; unfold divV; rw [if_neg (by decide), Int.tdiv_neg, Int.tdiv_one]] at hc
  have e0 : (y == 0) = false := beq_eq_false_iff_ne.2 (by omega)
  have e1 : (y == -1) = true := beq_iff_eq.2 hy
  clear hy
  obtain ⟨v, hv⟩ : ∃ v, divV x y = v := ⟨_, rfl⟩
  rw [hv] at hc ⊢
  have HC := Lib.hid hc
  clear hc hv
  obtain ⟨k1, k2, k3⟩ := nm_open w x y
  have HN := Lib.hid k1; have HZ := Lib.hid k2; have HB := Lib.hid k3
  clear k1 k2 k3
  go_enter Tryz.func84, Tryz.ntmps84
  go_upto_region 1 with (fail)
  generalize hz : w.heap.size = q at HN HZ ⊢
  generalize (w.alloc (.cells #[.int .i64 x, .int .i64 y] 100)).alloc (.cells #[.int .i64 0, .int .i64 0, .string ⟨#[]⟩] 28) = w1 at HN HZ HB ⊢
  have HLE := Lib.hid (show w.heap.size ≤ q + 1 by omega)
  obtain ⟨n0, n1⟩ := HN.out.cells
  clear hz
  go_wp2_with (go_at_call 57; ((with_reducible refine (HC.out _).mono ?_); rintro e w2 ⟨rfl, hb⟩; have HZ2 := Lib.hid (HZ.out.over hb); obtain ⟨m0, m1, m2⟩ := HZ2.out.melts; obtain ⟨u0, u1, u2⟩ := HZ2.out.cells; have HB2 := Lib.hid (HB.out.trans (hb.mono HB.out.size)); clear hb))
  exact bodyPost_ret (out_vl (HZ2.out.put3 v) _ _ 2 res_quotient rfl) rfl ⟨rfl, belowV3 HB2.out HLE.out v⟩
set_option maxRecDepth 100000 in
set_option maxHeartbeats 1600000 in
theorem quotient_else (x y : Int) (h0 : -9223372036854775808 ≤ x) (h1 : x ≤ 9223372036854775807) (hy : ¬ y = 0) (hy2 : ¬ y = -1) (w : World) : Calls Tryz.prog 84 #[.agg #[.int .i64 x, .int .i64 y]] w fun e w' => e = .returned (.agg #[.int .i64 (divV x y).k, .int .i64 (divV x y).n, .string (divV x y).s]) ∧ Below w.heap.size w w' := by
  have htd := tdiv_in x y h0 h1 hy hy2
  have hc := fun (w : World) => number_any (x.tdiv y) w
  rw [show Vl.num (x.tdiv y) = divV x y from by unfold divV; rw [if_neg hy, fit_in htd.1 htd.2]] at hc
  have hwd : wrap64 (x.tdiv y) = x.tdiv y := by have := wr64_in _ htd.1 htd.2; rwa [wr64_is] at this
  have e0 : (y == 0) = false := beq_eq_false_iff_ne.2 hy
  have e1 : (y == -1) = false := beq_eq_false_iff_ne.2 hy2
  clear htd
  obtain ⟨v, hv⟩ : ∃ v, divV x y = v := ⟨_, rfl⟩
  rw [hv] at hc ⊢
  have HC := Lib.hid hc
  clear hc hv
  obtain ⟨k1, k2, k3⟩ := nm_open w x y
  have HN := Lib.hid k1; have HZ := Lib.hid k2; have HB := Lib.hid k3
  clear k1 k2 k3
  go_enter Tryz.func84, Tryz.ntmps84
  go_upto_region 1 with (fail)
  generalize hz : w.heap.size = q at HN HZ ⊢
  generalize (w.alloc (.cells #[.int .i64 x, .int .i64 y] 100)).alloc (.cells #[.int .i64 0, .int .i64 0, .string ⟨#[]⟩] 28) = w1 at HN HZ HB ⊢
  have HLE := Lib.hid (show w.heap.size ≤ q + 1 by omega)
  obtain ⟨n0, n1⟩ := HN.out.cells
  clear hz
  go_wp2_with (go_at_call 85; ((with_reducible refine (HC.out _).mono ?_); rintro e w2 ⟨rfl, hb⟩; have HZ2 := Lib.hid (HZ.out.over hb); obtain ⟨m0, m1, m2⟩ := HZ2.out.melts; obtain ⟨u0, u1, u2⟩ := HZ2.out.cells; have HB2 := Lib.hid (HB.out.trans (hb.mono HB.out.size)); clear hb))
  exact bodyPost_ret (out_vl (HZ2.out.put3 v) _ _ 2 res_quotient rfl) rfl ⟨rfl, belowV3 HB2.out HLE.out v⟩
theorem quotient_any (x y : Int) (h0 : -9223372036854775808 ≤ x) (h1 : x ≤ 9223372036854775807) (w : World) : Calls Tryz.prog 84 #[.agg #[.int .i64 x, .int .i64 y]] w fun e w' => e = .returned (.agg #[.int .i64 (divV x y).k, .int .i64 (divV x y).n, .string (divV x y).s]) ∧ Below w.heap.size w w' := by
  by_cases h : y = 0
  · exact quotient_nought x y h w
  · by_cases h4 : y = -1
    · exact quotient_minus x y h0 h1 h4 w
    · exact quotient_else x y h0 h1 h h4 w
end Go.Proofs.YtolhmemiknpeaaaGreatDoor
