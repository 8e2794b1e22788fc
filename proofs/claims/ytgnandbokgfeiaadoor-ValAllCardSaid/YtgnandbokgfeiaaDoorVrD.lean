/-
  Layer 7, the reference: which is below.
-/
import Derived.Test.YtgnandbokgfeiaaDoorVrC
import Derived.Test.YtgnandbokgfeiaaDoorVaN
namespace Go.Proofs.YtgnandbokgfeiaaDoor
open Go.RowKit

set_option maxRecDepth 100000 in
set_option maxHeartbeats 1600000 in
theorem rorder_c1 (a b : Vl) (xk xn : Int) (xs : ByteArray) (yk : Int) (yn : Int) (ys : ByteArray) (hk : xk < yk)
    (h1 : ∀ w : World, Calls Tryd.prog 49 #[.agg #[.int .i64 a.k, .int .i64 a.n, .string a.s], .agg #[.int .i64 b.k, .int .i64 b.n, .string b.s]] w fun e w' => e = .returned (.agg #[.int .i64 xk, .int .i64 xn, .string xs]) ∧ Below w.heap.size w w')
    (h2 : ∀ w : World, Calls Tryd.prog 49 #[.agg #[.int .i64 b.k, .int .i64 b.n, .string b.s], .agg #[.int .i64 xk, .int .i64 xn, .string xs]] w fun e w' => e = .returned (.agg #[.int .i64 yk, .int .i64 yn, .string ys]) ∧ Below w.heap.size w w') (w : World) :
    Calls Tryd.prog 32 #[.agg #[.int .i64 a.k, .int .i64 a.n, .string a.s], .agg #[.int .i64 b.k, .int .i64 b.n, .string b.s]] w fun e w' => e = .returned (.int .i64 (-1)) ∧ Below w.heap.size w w' := by
  have H1 := Lib.hid h1; have H2 := Lib.hid h2
  obtain ⟨k1, k2, k3⟩ := vl_pair w a b
  have HA := Lib.hid k1; have HO := Lib.hid k2; have HB := Lib.hid k3
  clear k1 k2 k3 h1 h2 
  go_enter Tryd.func32, Tryd.ntmps32
  go_upto_region 1 with (fail)
  obtain ⟨q, hq⟩ : ∃ q, w.heap.size = q := ⟨_, rfl⟩
  obtain ⟨w1, hw1⟩ : ∃ w1, ((w.alloc (.cells #[.int .i64 a.k, .int .i64 a.n, .string a.s] 23)).alloc (.cells #[.int .i64 b.k, .int .i64 b.n, .string b.s] 23)) = w1 := ⟨_, rfl⟩
  rw [hw1] at HA HO HB ⊢
  rw [hq] at HA HO ⊢
  have HLE := Lib.hid (Nat.le_of_eq hq)
  clear hq hw1
  obtain ⟨a0, a1, a2⟩ := HA.out.cells
  obtain ⟨o0, o1, o2⟩ := HO.out.cells
  have n1 : q ≠ q + 1 := by omega
  have n2 : q + 1 ≠ q := by omega
  go_upto_region 2 with (go_at_call 49; ((with_reducible refine (H1.out _).mono ?_); rintro e w2 ⟨rfl, hb⟩; have HA2 := Lib.hid (HA.out.over hb); have HO2 := Lib.hid (HO.out.over hb); have HB2 := Lib.hid (HB.out.trans (hb.mono HB.out.size)); obtain ⟨b0, b1, b2⟩ := HA2.out.cells; obtain ⟨f0, f1, f2⟩ := HA2.out.melts; clear hb))
  have HX := Lib.hid (show VlAt (((w2.setCell ⟨q, 0, none⟩ (.int .i64 xk)).setCell ⟨q, 1, none⟩ (.int .i64 xn)).setCell ⟨q, 2, none⟩ (.string xs)) q (⟨xk, xn, xs⟩ : Vl) from HA2.out.put3 (⟨xk, xn, xs⟩ : Vl))
  have HO3 := Lib.hid (show VlAt (((w2.setCell ⟨q, 0, none⟩ (.int .i64 xk)).setCell ⟨q, 1, none⟩ (.int .i64 xn)).setCell ⟨q, 2, none⟩ (.string xs)) (q + 1) b from HO2.out.far n1 (⟨xk, xn, xs⟩ : Vl))
  have HB3 := Lib.hid (show Below w.heap.size w (((w2.setCell ⟨q, 0, none⟩ (.int .i64 xk)).setCell ⟨q, 1, none⟩ (.int .i64 xn)).setCell ⟨q, 2, none⟩ (.string xs)) from belowV3 HB2.out HLE.out (⟨xk, xn, xs⟩ : Vl))
  obtain ⟨w3, hw3⟩ : ∃ w3, (((w2.setCell ⟨q, 0, none⟩ (.int .i64 xk)).setCell ⟨q, 1, none⟩ (.int .i64 xn)).setCell ⟨q, 2, none⟩ (.string xs)) = w3 := ⟨_, rfl⟩
  rw [hw3] at HX HO3 HB3 ⊢
  clear hw3 a0 a1 a2 o0 o1 o2 b0 b1 b2 f0 f1 f2 HA HO HA2 HO2 HB HB2
  obtain ⟨x0, x1, x2⟩ : w3.cell? ⟨q, 0, none⟩ = some (.int .i64 xk) ∧ w3.cell? ⟨q, 1, none⟩ = some (.int .i64 xn) ∧ w3.cell? ⟨q, 2, none⟩ = some (.string xs) := HX.out.cells
  obtain ⟨o0, o1, o2⟩ := HO3.out.cells
  go_upto_region 3 with (go_at_call 49; ((with_reducible refine (H2.out _).mono ?_); rintro e w4 ⟨rfl, hb⟩; have HX4 := Lib.hid (HX.out.over hb); have HO4 := Lib.hid (HO3.out.over hb); have HB4 := Lib.hid (HB3.out.trans (hb.mono HB3.out.size)); obtain ⟨b0, b1, b2⟩ := HO4.out.cells; obtain ⟨f0, f1, f2⟩ := HO4.out.melts; clear hb))
  have HX5 := Lib.hid (show VlAt (((w4.setCell ⟨(q + 1), 0, none⟩ (.int .i64 yk)).setCell ⟨(q + 1), 1, none⟩ (.int .i64 yn)).setCell ⟨(q + 1), 2, none⟩ (.string ys)) q (⟨xk, xn, xs⟩ : Vl) from HX4.out.far n2 (⟨yk, yn, ys⟩ : Vl))
  have HY5 := Lib.hid (show VlAt (((w4.setCell ⟨(q + 1), 0, none⟩ (.int .i64 yk)).setCell ⟨(q + 1), 1, none⟩ (.int .i64 yn)).setCell ⟨(q + 1), 2, none⟩ (.string ys)) (q + 1) (⟨yk, yn, ys⟩ : Vl) from HO4.out.put3 (⟨yk, yn, ys⟩ : Vl))
  have HB5 := Lib.hid (show Below w.heap.size w (((w4.setCell ⟨(q + 1), 0, none⟩ (.int .i64 yk)).setCell ⟨(q + 1), 1, none⟩ (.int .i64 yn)).setCell ⟨(q + 1), 2, none⟩ (.string ys)) from belowV3 HB4.out (Nat.le_succ_of_le HLE.out) (⟨yk, yn, ys⟩ : Vl))
  obtain ⟨w5, hw5⟩ : ∃ w5, (((w4.setCell ⟨(q + 1), 0, none⟩ (.int .i64 yk)).setCell ⟨(q + 1), 1, none⟩ (.int .i64 yn)).setCell ⟨(q + 1), 2, none⟩ (.string ys)) = w5 := ⟨_, rfl⟩
  rw [hw5] at HX5 HY5 HB5 ⊢
  clear hw5 x0 x1 x2 o0 o1 o2 b0 b1 b2 f0 f1 f2 HX HO3 HB3 HX4 HO4 HB4 H1 H2
  obtain ⟨x0, x1, x2⟩ : w5.cell? ⟨q, 0, none⟩ = some (.int .i64 xk) ∧ w5.cell? ⟨q, 1, none⟩ = some (.int .i64 xn) ∧ w5.cell? ⟨q, 2, none⟩ = some (.string xs) := HX5.out.cells
  obtain ⟨y0, y1, y2⟩ : w5.cell? ⟨q + 1, 0, none⟩ = some (.int .i64 yk) ∧ w5.cell? ⟨q + 1, 1, none⟩ = some (.int .i64 yn) ∧ w5.cell? ⟨q + 1, 2, none⟩ = some (.string ys) := HY5.out.cells
  go_wp2_with fail
  all_goals go_ret
  all_goals exact ⟨rfl, HB5.out⟩
set_option maxRecDepth 100000 in
set_option maxHeartbeats 1600000 in
theorem rorder_c2 (a b : Vl) (xk xn : Int) (xs : ByteArray) (yk : Int) (yn : Int) (ys : ByteArray) (hk : yk < xk)
    (h1 : ∀ w : World, Calls Tryd.prog 49 #[.agg #[.int .i64 a.k, .int .i64 a.n, .string a.s], .agg #[.int .i64 b.k, .int .i64 b.n, .string b.s]] w fun e w' => e = .returned (.agg #[.int .i64 xk, .int .i64 xn, .string xs]) ∧ Below w.heap.size w w')
    (h2 : ∀ w : World, Calls Tryd.prog 49 #[.agg #[.int .i64 b.k, .int .i64 b.n, .string b.s], .agg #[.int .i64 xk, .int .i64 xn, .string xs]] w fun e w' => e = .returned (.agg #[.int .i64 yk, .int .i64 yn, .string ys]) ∧ Below w.heap.size w w') (w : World) :
    Calls Tryd.prog 32 #[.agg #[.int .i64 a.k, .int .i64 a.n, .string a.s], .agg #[.int .i64 b.k, .int .i64 b.n, .string b.s]] w fun e w' => e = .returned (.int .i64 (1)) ∧ Below w.heap.size w w' := by
  have g1 : ¬ xk < yk := by omega
  have g2 : ¬ xk = yk := by omega
  have g3 : (xk == yk) = false := beq_eq_false_iff_ne.2 g2
  have H1 := Lib.hid h1; have H2 := Lib.hid h2
  obtain ⟨k1, k2, k3⟩ := vl_pair w a b
  have HA := Lib.hid k1; have HO := Lib.hid k2; have HB := Lib.hid k3
  clear k1 k2 k3 h1 h2 hk
  go_enter Tryd.func32, Tryd.ntmps32
  go_upto_region 1 with (fail)
  obtain ⟨q, hq⟩ : ∃ q, w.heap.size = q := ⟨_, rfl⟩
  obtain ⟨w1, hw1⟩ : ∃ w1, ((w.alloc (.cells #[.int .i64 a.k, .int .i64 a.n, .string a.s] 23)).alloc (.cells #[.int .i64 b.k, .int .i64 b.n, .string b.s] 23)) = w1 := ⟨_, rfl⟩
  rw [hw1] at HA HO HB ⊢
  rw [hq] at HA HO ⊢
  have HLE := Lib.hid (Nat.le_of_eq hq)
  clear hq hw1
  obtain ⟨a0, a1, a2⟩ := HA.out.cells
  obtain ⟨o0, o1, o2⟩ := HO.out.cells
  have n1 : q ≠ q + 1 := by omega
  have n2 : q + 1 ≠ q := by omega
  go_upto_region 2 with (go_at_call 49; ((with_reducible refine (H1.out _).mono ?_); rintro e w2 ⟨rfl, hb⟩; have HA2 := Lib.hid (HA.out.over hb); have HO2 := Lib.hid (HO.out.over hb); have HB2 := Lib.hid (HB.out.trans (hb.mono HB.out.size)); obtain ⟨b0, b1, b2⟩ := HA2.out.cells; obtain ⟨f0, f1, f2⟩ := HA2.out.melts; clear hb))
  have HX := Lib.hid (show VlAt (((w2.setCell ⟨q, 0, none⟩ (.int .i64 xk)).setCell ⟨q, 1, none⟩ (.int .i64 xn)).setCell ⟨q, 2, none⟩ (.string xs)) q (⟨xk, xn, xs⟩ : Vl) from HA2.out.put3 (⟨xk, xn, xs⟩ : Vl))
  have HO3 := Lib.hid (show VlAt (((w2.setCell ⟨q, 0, none⟩ (.int .i64 xk)).setCell ⟨q, 1, none⟩ (.int .i64 xn)).setCell ⟨q, 2, none⟩ (.string xs)) (q + 1) b from HO2.out.far n1 (⟨xk, xn, xs⟩ : Vl))
  have HB3 := Lib.hid (show Below w.heap.size w (((w2.setCell ⟨q, 0, none⟩ (.int .i64 xk)).setCell ⟨q, 1, none⟩ (.int .i64 xn)).setCell ⟨q, 2, none⟩ (.string xs)) from belowV3 HB2.out HLE.out (⟨xk, xn, xs⟩ : Vl))
  obtain ⟨w3, hw3⟩ : ∃ w3, (((w2.setCell ⟨q, 0, none⟩ (.int .i64 xk)).setCell ⟨q, 1, none⟩ (.int .i64 xn)).setCell ⟨q, 2, none⟩ (.string xs)) = w3 := ⟨_, rfl⟩
  rw [hw3] at HX HO3 HB3 ⊢
  clear hw3 a0 a1 a2 o0 o1 o2 b0 b1 b2 f0 f1 f2 HA HO HA2 HO2 HB HB2
  obtain ⟨x0, x1, x2⟩ : w3.cell? ⟨q, 0, none⟩ = some (.int .i64 xk) ∧ w3.cell? ⟨q, 1, none⟩ = some (.int .i64 xn) ∧ w3.cell? ⟨q, 2, none⟩ = some (.string xs) := HX.out.cells
  obtain ⟨o0, o1, o2⟩ := HO3.out.cells
  go_upto_region 3 with (go_at_call 49; ((with_reducible refine (H2.out _).mono ?_); rintro e w4 ⟨rfl, hb⟩; have HX4 := Lib.hid (HX.out.over hb); have HO4 := Lib.hid (HO3.out.over hb); have HB4 := Lib.hid (HB3.out.trans (hb.mono HB3.out.size)); obtain ⟨b0, b1, b2⟩ := HO4.out.cells; obtain ⟨f0, f1, f2⟩ := HO4.out.melts; clear hb))
  have HX5 := Lib.hid (show VlAt (((w4.setCell ⟨(q + 1), 0, none⟩ (.int .i64 yk)).setCell ⟨(q + 1), 1, none⟩ (.int .i64 yn)).setCell ⟨(q + 1), 2, none⟩ (.string ys)) q (⟨xk, xn, xs⟩ : Vl) from HX4.out.far n2 (⟨yk, yn, ys⟩ : Vl))
  have HY5 := Lib.hid (show VlAt (((w4.setCell ⟨(q + 1), 0, none⟩ (.int .i64 yk)).setCell ⟨(q + 1), 1, none⟩ (.int .i64 yn)).setCell ⟨(q + 1), 2, none⟩ (.string ys)) (q + 1) (⟨yk, yn, ys⟩ : Vl) from HO4.out.put3 (⟨yk, yn, ys⟩ : Vl))
  have HB5 := Lib.hid (show Below w.heap.size w (((w4.setCell ⟨(q + 1), 0, none⟩ (.int .i64 yk)).setCell ⟨(q + 1), 1, none⟩ (.int .i64 yn)).setCell ⟨(q + 1), 2, none⟩ (.string ys)) from belowV3 HB4.out (Nat.le_succ_of_le HLE.out) (⟨yk, yn, ys⟩ : Vl))
  obtain ⟨w5, hw5⟩ : ∃ w5, (((w4.setCell ⟨(q + 1), 0, none⟩ (.int .i64 yk)).setCell ⟨(q + 1), 1, none⟩ (.int .i64 yn)).setCell ⟨(q + 1), 2, none⟩ (.string ys)) = w5 := ⟨_, rfl⟩
  rw [hw5] at HX5 HY5 HB5 ⊢
  clear hw5 x0 x1 x2 o0 o1 o2 b0 b1 b2 f0 f1 f2 HX HO3 HB3 HX4 HO4 HB4 H1 H2
  obtain ⟨x0, x1, x2⟩ : w5.cell? ⟨q, 0, none⟩ = some (.int .i64 xk) ∧ w5.cell? ⟨q, 1, none⟩ = some (.int .i64 xn) ∧ w5.cell? ⟨q, 2, none⟩ = some (.string xs) := HX5.out.cells
  obtain ⟨y0, y1, y2⟩ : w5.cell? ⟨q + 1, 0, none⟩ = some (.int .i64 yk) ∧ w5.cell? ⟨q + 1, 1, none⟩ = some (.int .i64 yn) ∧ w5.cell? ⟨q + 1, 2, none⟩ = some (.string ys) := HY5.out.cells
  go_wp2_with fail
  all_goals go_ret
  all_goals exact ⟨rfl, HB5.out⟩
set_option maxRecDepth 100000 in
set_option maxHeartbeats 1600000 in
theorem rorder_c3 (a b : Vl) (xk xn : Int) (xs : ByteArray) (yn : Int) (ys : ByteArray) (hn : xn < yn)
    (h1 : ∀ w : World, Calls Tryd.prog 49 #[.agg #[.int .i64 a.k, .int .i64 a.n, .string a.s], .agg #[.int .i64 b.k, .int .i64 b.n, .string b.s]] w fun e w' => e = .returned (.agg #[.int .i64 xk, .int .i64 xn, .string xs]) ∧ Below w.heap.size w w')
    (h2 : ∀ w : World, Calls Tryd.prog 49 #[.agg #[.int .i64 b.k, .int .i64 b.n, .string b.s], .agg #[.int .i64 xk, .int .i64 xn, .string xs]] w fun e w' => e = .returned (.agg #[.int .i64 xk, .int .i64 yn, .string ys]) ∧ Below w.heap.size w w') (w : World) :
    Calls Tryd.prog 32 #[.agg #[.int .i64 a.k, .int .i64 a.n, .string a.s], .agg #[.int .i64 b.k, .int .i64 b.n, .string b.s]] w fun e w' => e = .returned (.int .i64 (-1)) ∧ Below w.heap.size w w' := by
  have H1 := Lib.hid h1; have H2 := Lib.hid h2
  obtain ⟨k1, k2, k3⟩ := vl_pair w a b
  have HA := Lib.hid k1; have HO := Lib.hid k2; have HB := Lib.hid k3
  clear k1 k2 k3 h1 h2 
  go_enter Tryd.func32, Tryd.ntmps32
  go_upto_region 1 with (fail)
  obtain ⟨q, hq⟩ : ∃ q, w.heap.size = q := ⟨_, rfl⟩
  obtain ⟨w1, hw1⟩ : ∃ w1, ((w.alloc (.cells #[.int .i64 a.k, .int .i64 a.n, .string a.s] 23)).alloc (.cells #[.int .i64 b.k, .int .i64 b.n, .string b.s] 23)) = w1 := ⟨_, rfl⟩
  rw [hw1] at HA HO HB ⊢
  rw [hq] at HA HO ⊢
  have HLE := Lib.hid (Nat.le_of_eq hq)
  clear hq hw1
  obtain ⟨a0, a1, a2⟩ := HA.out.cells
  obtain ⟨o0, o1, o2⟩ := HO.out.cells
  have n1 : q ≠ q + 1 := by omega
  have n2 : q + 1 ≠ q := by omega
  go_upto_region 2 with (go_at_call 49; ((with_reducible refine (H1.out _).mono ?_); rintro e w2 ⟨rfl, hb⟩; have HA2 := Lib.hid (HA.out.over hb); have HO2 := Lib.hid (HO.out.over hb); have HB2 := Lib.hid (HB.out.trans (hb.mono HB.out.size)); obtain ⟨b0, b1, b2⟩ := HA2.out.cells; obtain ⟨f0, f1, f2⟩ := HA2.out.melts; clear hb))
  have HX := Lib.hid (show VlAt (((w2.setCell ⟨q, 0, none⟩ (.int .i64 xk)).setCell ⟨q, 1, none⟩ (.int .i64 xn)).setCell ⟨q, 2, none⟩ (.string xs)) q (⟨xk, xn, xs⟩ : Vl) from HA2.out.put3 (⟨xk, xn, xs⟩ : Vl))
  have HO3 := Lib.hid (show VlAt (((w2.setCell ⟨q, 0, none⟩ (.int .i64 xk)).setCell ⟨q, 1, none⟩ (.int .i64 xn)).setCell ⟨q, 2, none⟩ (.string xs)) (q + 1) b from HO2.out.far n1 (⟨xk, xn, xs⟩ : Vl))
  have HB3 := Lib.hid (show Below w.heap.size w (((w2.setCell ⟨q, 0, none⟩ (.int .i64 xk)).setCell ⟨q, 1, none⟩ (.int .i64 xn)).setCell ⟨q, 2, none⟩ (.string xs)) from belowV3 HB2.out HLE.out (⟨xk, xn, xs⟩ : Vl))
  obtain ⟨w3, hw3⟩ : ∃ w3, (((w2.setCell ⟨q, 0, none⟩ (.int .i64 xk)).setCell ⟨q, 1, none⟩ (.int .i64 xn)).setCell ⟨q, 2, none⟩ (.string xs)) = w3 := ⟨_, rfl⟩
  rw [hw3] at HX HO3 HB3 ⊢
  clear hw3 a0 a1 a2 o0 o1 o2 b0 b1 b2 f0 f1 f2 HA HO HA2 HO2 HB HB2
  obtain ⟨x0, x1, x2⟩ : w3.cell? ⟨q, 0, none⟩ = some (.int .i64 xk) ∧ w3.cell? ⟨q, 1, none⟩ = some (.int .i64 xn) ∧ w3.cell? ⟨q, 2, none⟩ = some (.string xs) := HX.out.cells
  obtain ⟨o0, o1, o2⟩ := HO3.out.cells
  go_upto_region 3 with (go_at_call 49; ((with_reducible refine (H2.out _).mono ?_); rintro e w4 ⟨rfl, hb⟩; have HX4 := Lib.hid (HX.out.over hb); have HO4 := Lib.hid (HO3.out.over hb); have HB4 := Lib.hid (HB3.out.trans (hb.mono HB3.out.size)); obtain ⟨b0, b1, b2⟩ := HO4.out.cells; obtain ⟨f0, f1, f2⟩ := HO4.out.melts; clear hb))
  have HX5 := Lib.hid (show VlAt (((w4.setCell ⟨(q + 1), 0, none⟩ (.int .i64 xk)).setCell ⟨(q + 1), 1, none⟩ (.int .i64 yn)).setCell ⟨(q + 1), 2, none⟩ (.string ys)) q (⟨xk, xn, xs⟩ : Vl) from HX4.out.far n2 (⟨xk, yn, ys⟩ : Vl))
  have HY5 := Lib.hid (show VlAt (((w4.setCell ⟨(q + 1), 0, none⟩ (.int .i64 xk)).setCell ⟨(q + 1), 1, none⟩ (.int .i64 yn)).setCell ⟨(q + 1), 2, none⟩ (.string ys)) (q + 1) (⟨xk, yn, ys⟩ : Vl) from HO4.out.put3 (⟨xk, yn, ys⟩ : Vl))
  have HB5 := Lib.hid (show Below w.heap.size w (((w4.setCell ⟨(q + 1), 0, none⟩ (.int .i64 xk)).setCell ⟨(q + 1), 1, none⟩ (.int .i64 yn)).setCell ⟨(q + 1), 2, none⟩ (.string ys)) from belowV3 HB4.out (Nat.le_succ_of_le HLE.out) (⟨xk, yn, ys⟩ : Vl))
  obtain ⟨w5, hw5⟩ : ∃ w5, (((w4.setCell ⟨(q + 1), 0, none⟩ (.int .i64 xk)).setCell ⟨(q + 1), 1, none⟩ (.int .i64 yn)).setCell ⟨(q + 1), 2, none⟩ (.string ys)) = w5 := ⟨_, rfl⟩
  rw [hw5] at HX5 HY5 HB5 ⊢
  clear hw5 x0 x1 x2 o0 o1 o2 b0 b1 b2 f0 f1 f2 HX HO3 HB3 HX4 HO4 HB4 H1 H2
  obtain ⟨x0, x1, x2⟩ : w5.cell? ⟨q, 0, none⟩ = some (.int .i64 xk) ∧ w5.cell? ⟨q, 1, none⟩ = some (.int .i64 xn) ∧ w5.cell? ⟨q, 2, none⟩ = some (.string xs) := HX5.out.cells
  obtain ⟨y0, y1, y2⟩ : w5.cell? ⟨q + 1, 0, none⟩ = some (.int .i64 xk) ∧ w5.cell? ⟨q + 1, 1, none⟩ = some (.int .i64 yn) ∧ w5.cell? ⟨q + 1, 2, none⟩ = some (.string ys) := HY5.out.cells
  go_wp2_with fail
  all_goals go_ret
  all_goals exact ⟨rfl, HB5.out⟩
set_option maxRecDepth 100000 in
set_option maxHeartbeats 1600000 in
theorem rorder_c4 (a b : Vl) (xk xn : Int) (xs : ByteArray) (yn : Int) (ys : ByteArray) (hn : yn < xn)
    (h1 : ∀ w : World, Calls Tryd.prog 49 #[.agg #[.int .i64 a.k, .int .i64 a.n, .string a.s], .agg #[.int .i64 b.k, .int .i64 b.n, .string b.s]] w fun e w' => e = .returned (.agg #[.int .i64 xk, .int .i64 xn, .string xs]) ∧ Below w.heap.size w w')
    (h2 : ∀ w : World, Calls Tryd.prog 49 #[.agg #[.int .i64 b.k, .int .i64 b.n, .string b.s], .agg #[.int .i64 xk, .int .i64 xn, .string xs]] w fun e w' => e = .returned (.agg #[.int .i64 xk, .int .i64 yn, .string ys]) ∧ Below w.heap.size w w') (w : World) :
    Calls Tryd.prog 32 #[.agg #[.int .i64 a.k, .int .i64 a.n, .string a.s], .agg #[.int .i64 b.k, .int .i64 b.n, .string b.s]] w fun e w' => e = .returned (.int .i64 (1)) ∧ Below w.heap.size w w' := by
  have g1 : ¬ xn < yn := by omega
  have g2 : ¬ xn = yn := by omega
  have g3 : (xn == yn) = false := beq_eq_false_iff_ne.2 g2
  have H1 := Lib.hid h1; have H2 := Lib.hid h2
  obtain ⟨k1, k2, k3⟩ := vl_pair w a b
  have HA := Lib.hid k1; have HO := Lib.hid k2; have HB := Lib.hid k3
  clear k1 k2 k3 h1 h2 hn
  go_enter Tryd.func32, Tryd.ntmps32
  go_upto_region 1 with (fail)
  obtain ⟨q, hq⟩ : ∃ q, w.heap.size = q := ⟨_, rfl⟩
  obtain ⟨w1, hw1⟩ : ∃ w1, ((w.alloc (.cells #[.int .i64 a.k, .int .i64 a.n, .string a.s] 23)).alloc (.cells #[.int .i64 b.k, .int .i64 b.n, .string b.s] 23)) = w1 := ⟨_, rfl⟩
  rw [hw1] at HA HO HB ⊢
  rw [hq] at HA HO ⊢
  have HLE := Lib.hid (Nat.le_of_eq hq)
  clear hq hw1
  obtain ⟨a0, a1, a2⟩ := HA.out.cells
  obtain ⟨o0, o1, o2⟩ := HO.out.cells
  have n1 : q ≠ q + 1 := by omega
  have n2 : q + 1 ≠ q := by omega
  go_upto_region 2 with (go_at_call 49; ((with_reducible refine (H1.out _).mono ?_); rintro e w2 ⟨rfl, hb⟩; have HA2 := Lib.hid (HA.out.over hb); have HO2 := Lib.hid (HO.out.over hb); have HB2 := Lib.hid (HB.out.trans (hb.mono HB.out.size)); obtain ⟨b0, b1, b2⟩ := HA2.out.cells; obtain ⟨f0, f1, f2⟩ := HA2.out.melts; clear hb))
  have HX := Lib.hid (show VlAt (((w2.setCell ⟨q, 0, none⟩ (.int .i64 xk)).setCell ⟨q, 1, none⟩ (.int .i64 xn)).setCell ⟨q, 2, none⟩ (.string xs)) q (⟨xk, xn, xs⟩ : Vl) from HA2.out.put3 (⟨xk, xn, xs⟩ : Vl))
  have HO3 := Lib.hid (show VlAt (((w2.setCell ⟨q, 0, none⟩ (.int .i64 xk)).setCell ⟨q, 1, none⟩ (.int .i64 xn)).setCell ⟨q, 2, none⟩ (.string xs)) (q + 1) b from HO2.out.far n1 (⟨xk, xn, xs⟩ : Vl))
  have HB3 := Lib.hid (show Below w.heap.size w (((w2.setCell ⟨q, 0, none⟩ (.int .i64 xk)).setCell ⟨q, 1, none⟩ (.int .i64 xn)).setCell ⟨q, 2, none⟩ (.string xs)) from belowV3 HB2.out HLE.out (⟨xk, xn, xs⟩ : Vl))
  obtain ⟨w3, hw3⟩ : ∃ w3, (((w2.setCell ⟨q, 0, none⟩ (.int .i64 xk)).setCell ⟨q, 1, none⟩ (.int .i64 xn)).setCell ⟨q, 2, none⟩ (.string xs)) = w3 := ⟨_, rfl⟩
  rw [hw3] at HX HO3 HB3 ⊢
  clear hw3 a0 a1 a2 o0 o1 o2 b0 b1 b2 f0 f1 f2 HA HO HA2 HO2 HB HB2
  obtain ⟨x0, x1, x2⟩ : w3.cell? ⟨q, 0, none⟩ = some (.int .i64 xk) ∧ w3.cell? ⟨q, 1, none⟩ = some (.int .i64 xn) ∧ w3.cell? ⟨q, 2, none⟩ = some (.string xs) := HX.out.cells
  obtain ⟨o0, o1, o2⟩ := HO3.out.cells
  go_upto_region 3 with (go_at_call 49; ((with_reducible refine (H2.out _).mono ?_); rintro e w4 ⟨rfl, hb⟩; have HX4 := Lib.hid (HX.out.over hb); have HO4 := Lib.hid (HO3.out.over hb); have HB4 := Lib.hid (HB3.out.trans (hb.mono HB3.out.size)); obtain ⟨b0, b1, b2⟩ := HO4.out.cells; obtain ⟨f0, f1, f2⟩ := HO4.out.melts; clear hb))
  have HX5 := Lib.hid (show VlAt (((w4.setCell ⟨(q + 1), 0, none⟩ (.int .i64 xk)).setCell ⟨(q + 1), 1, none⟩ (.int .i64 yn)).setCell ⟨(q + 1), 2, none⟩ (.string ys)) q (⟨xk, xn, xs⟩ : Vl) from HX4.out.far n2 (⟨xk, yn, ys⟩ : Vl))
  have HY5 := Lib.hid (show VlAt (((w4.setCell ⟨(q + 1), 0, none⟩ (.int .i64 xk)).setCell ⟨(q + 1), 1, none⟩ (.int .i64 yn)).setCell ⟨(q + 1), 2, none⟩ (.string ys)) (q + 1) (⟨xk, yn, ys⟩ : Vl) from HO4.out.put3 (⟨xk, yn, ys⟩ : Vl))
  have HB5 := Lib.hid (show Below w.heap.size w (((w4.setCell ⟨(q + 1), 0, none⟩ (.int .i64 xk)).setCell ⟨(q + 1), 1, none⟩ (.int .i64 yn)).setCell ⟨(q + 1), 2, none⟩ (.string ys)) from belowV3 HB4.out (Nat.le_succ_of_le HLE.out) (⟨xk, yn, ys⟩ : Vl))
  obtain ⟨w5, hw5⟩ : ∃ w5, (((w4.setCell ⟨(q + 1), 0, none⟩ (.int .i64 xk)).setCell ⟨(q + 1), 1, none⟩ (.int .i64 yn)).setCell ⟨(q + 1), 2, none⟩ (.string ys)) = w5 := ⟨_, rfl⟩
  rw [hw5] at HX5 HY5 HB5 ⊢
  clear hw5 x0 x1 x2 o0 o1 o2 b0 b1 b2 f0 f1 f2 HX HO3 HB3 HX4 HO4 HB4 H1 H2
  obtain ⟨x0, x1, x2⟩ : w5.cell? ⟨q, 0, none⟩ = some (.int .i64 xk) ∧ w5.cell? ⟨q, 1, none⟩ = some (.int .i64 xn) ∧ w5.cell? ⟨q, 2, none⟩ = some (.string xs) := HX5.out.cells
  obtain ⟨y0, y1, y2⟩ : w5.cell? ⟨q + 1, 0, none⟩ = some (.int .i64 xk) ∧ w5.cell? ⟨q + 1, 1, none⟩ = some (.int .i64 yn) ∧ w5.cell? ⟨q + 1, 2, none⟩ = some (.string ys) := HY5.out.cells
  go_wp2_with fail
  all_goals go_ret
  all_goals exact ⟨rfl, HB5.out⟩
set_option maxRecDepth 100000 in
set_option maxHeartbeats 1600000 in
theorem rorder_c5 (a b : Vl) (xk xn : Int) (xs : ByteArray) (ys : ByteArray) (hs : Op.bytesLess xs.toList ys.toList = true)
    (h1 : ∀ w : World, Calls Tryd.prog 49 #[.agg #[.int .i64 a.k, .int .i64 a.n, .string a.s], .agg #[.int .i64 b.k, .int .i64 b.n, .string b.s]] w fun e w' => e = .returned (.agg #[.int .i64 xk, .int .i64 xn, .string xs]) ∧ Below w.heap.size w w')
    (h2 : ∀ w : World, Calls Tryd.prog 49 #[.agg #[.int .i64 b.k, .int .i64 b.n, .string b.s], .agg #[.int .i64 xk, .int .i64 xn, .string xs]] w fun e w' => e = .returned (.agg #[.int .i64 xk, .int .i64 xn, .string ys]) ∧ Below w.heap.size w w') (w : World) :
    Calls Tryd.prog 32 #[.agg #[.int .i64 a.k, .int .i64 a.n, .string a.s], .agg #[.int .i64 b.k, .int .i64 b.n, .string b.s]] w fun e w' => e = .returned (.int .i64 (-1)) ∧ Below w.heap.size w w' := by
  have H1 := Lib.hid h1; have H2 := Lib.hid h2
  obtain ⟨k1, k2, k3⟩ := vl_pair w a b
  have HA := Lib.hid k1; have HO := Lib.hid k2; have HB := Lib.hid k3
  clear k1 k2 k3 h1 h2 
  go_enter Tryd.func32, Tryd.ntmps32
  go_upto_region 1 with (fail)
  obtain ⟨q, hq⟩ : ∃ q, w.heap.size = q := ⟨_, rfl⟩
  obtain ⟨w1, hw1⟩ : ∃ w1, ((w.alloc (.cells #[.int .i64 a.k, .int .i64 a.n, .string a.s] 23)).alloc (.cells #[.int .i64 b.k, .int .i64 b.n, .string b.s] 23)) = w1 := ⟨_, rfl⟩
  rw [hw1] at HA HO HB ⊢
  rw [hq] at HA HO ⊢
  have HLE := Lib.hid (Nat.le_of_eq hq)
  clear hq hw1
  obtain ⟨a0, a1, a2⟩ := HA.out.cells
  obtain ⟨o0, o1, o2⟩ := HO.out.cells
  have n1 : q ≠ q + 1 := by omega
  have n2 : q + 1 ≠ q := by omega
  go_upto_region 2 with (go_at_call 49; ((with_reducible refine (H1.out _).mono ?_); rintro e w2 ⟨rfl, hb⟩; have HA2 := Lib.hid (HA.out.over hb); have HO2 := Lib.hid (HO.out.over hb); have HB2 := Lib.hid (HB.out.trans (hb.mono HB.out.size)); obtain ⟨b0, b1, b2⟩ := HA2.out.cells; obtain ⟨f0, f1, f2⟩ := HA2.out.melts; clear hb))
  have HX := Lib.hid (show VlAt (((w2.setCell ⟨q, 0, none⟩ (.int .i64 xk)).setCell ⟨q, 1, none⟩ (.int .i64 xn)).setCell ⟨q, 2, none⟩ (.string xs)) q (⟨xk, xn, xs⟩ : Vl) from HA2.out.put3 (⟨xk, xn, xs⟩ : Vl))
  have HO3 := Lib.hid (show VlAt (((w2.setCell ⟨q, 0, none⟩ (.int .i64 xk)).setCell ⟨q, 1, none⟩ (.int .i64 xn)).setCell ⟨q, 2, none⟩ (.string xs)) (q + 1) b from HO2.out.far n1 (⟨xk, xn, xs⟩ : Vl))
  have HB3 := Lib.hid (show Below w.heap.size w (((w2.setCell ⟨q, 0, none⟩ (.int .i64 xk)).setCell ⟨q, 1, none⟩ (.int .i64 xn)).setCell ⟨q, 2, none⟩ (.string xs)) from belowV3 HB2.out HLE.out (⟨xk, xn, xs⟩ : Vl))
  obtain ⟨w3, hw3⟩ : ∃ w3, (((w2.setCell ⟨q, 0, none⟩ (.int .i64 xk)).setCell ⟨q, 1, none⟩ (.int .i64 xn)).setCell ⟨q, 2, none⟩ (.string xs)) = w3 := ⟨_, rfl⟩
  rw [hw3] at HX HO3 HB3 ⊢
  clear hw3 a0 a1 a2 o0 o1 o2 b0 b1 b2 f0 f1 f2 HA HO HA2 HO2 HB HB2
  obtain ⟨x0, x1, x2⟩ : w3.cell? ⟨q, 0, none⟩ = some (.int .i64 xk) ∧ w3.cell? ⟨q, 1, none⟩ = some (.int .i64 xn) ∧ w3.cell? ⟨q, 2, none⟩ = some (.string xs) := HX.out.cells
  obtain ⟨o0, o1, o2⟩ := HO3.out.cells
  go_upto_region 3 with (go_at_call 49; ((with_reducible refine (H2.out _).mono ?_); rintro e w4 ⟨rfl, hb⟩; have HX4 := Lib.hid (HX.out.over hb); have HO4 := Lib.hid (HO3.out.over hb); have HB4 := Lib.hid (HB3.out.trans (hb.mono HB3.out.size)); obtain ⟨b0, b1, b2⟩ := HO4.out.cells; obtain ⟨f0, f1, f2⟩ := HO4.out.melts; clear hb))
  have HX5 := Lib.hid (show VlAt (((w4.setCell ⟨(q + 1), 0, none⟩ (.int .i64 xk)).setCell ⟨(q + 1), 1, none⟩ (.int .i64 xn)).setCell ⟨(q + 1), 2, none⟩ (.string ys)) q (⟨xk, xn, xs⟩ : Vl) from HX4.out.far n2 (⟨xk, xn, ys⟩ : Vl))
  have HY5 := Lib.hid (show VlAt (((w4.setCell ⟨(q + 1), 0, none⟩ (.int .i64 xk)).setCell ⟨(q + 1), 1, none⟩ (.int .i64 xn)).setCell ⟨(q + 1), 2, none⟩ (.string ys)) (q + 1) (⟨xk, xn, ys⟩ : Vl) from HO4.out.put3 (⟨xk, xn, ys⟩ : Vl))
  have HB5 := Lib.hid (show Below w.heap.size w (((w4.setCell ⟨(q + 1), 0, none⟩ (.int .i64 xk)).setCell ⟨(q + 1), 1, none⟩ (.int .i64 xn)).setCell ⟨(q + 1), 2, none⟩ (.string ys)) from belowV3 HB4.out (Nat.le_succ_of_le HLE.out) (⟨xk, xn, ys⟩ : Vl))
  obtain ⟨w5, hw5⟩ : ∃ w5, (((w4.setCell ⟨(q + 1), 0, none⟩ (.int .i64 xk)).setCell ⟨(q + 1), 1, none⟩ (.int .i64 xn)).setCell ⟨(q + 1), 2, none⟩ (.string ys)) = w5 := ⟨_, rfl⟩
  rw [hw5] at HX5 HY5 HB5 ⊢
  clear hw5 x0 x1 x2 o0 o1 o2 b0 b1 b2 f0 f1 f2 HX HO3 HB3 HX4 HO4 HB4 H1 H2
  obtain ⟨x0, x1, x2⟩ : w5.cell? ⟨q, 0, none⟩ = some (.int .i64 xk) ∧ w5.cell? ⟨q, 1, none⟩ = some (.int .i64 xn) ∧ w5.cell? ⟨q, 2, none⟩ = some (.string xs) := HX5.out.cells
  obtain ⟨y0, y1, y2⟩ : w5.cell? ⟨q + 1, 0, none⟩ = some (.int .i64 xk) ∧ w5.cell? ⟨q + 1, 1, none⟩ = some (.int .i64 xn) ∧ w5.cell? ⟨q + 1, 2, none⟩ = some (.string ys) := HY5.out.cells
  go_wp2_with fail
  all_goals go_ret
  all_goals exact ⟨rfl, HB5.out⟩
set_option maxRecDepth 100000 in
set_option maxHeartbeats 1600000 in
theorem rorder_c6 (a b : Vl) (xk xn : Int) (xs : ByteArray) (hs : Op.bytesLess xs.toList xs.toList = false)
    (h1 : ∀ w : World, Calls Tryd.prog 49 #[.agg #[.int .i64 a.k, .int .i64 a.n, .string a.s], .agg #[.int .i64 b.k, .int .i64 b.n, .string b.s]] w fun e w' => e = .returned (.agg #[.int .i64 xk, .int .i64 xn, .string xs]) ∧ Below w.heap.size w w')
    (h2 : ∀ w : World, Calls Tryd.prog 49 #[.agg #[.int .i64 b.k, .int .i64 b.n, .string b.s], .agg #[.int .i64 xk, .int .i64 xn, .string xs]] w fun e w' => e = .returned (.agg #[.int .i64 xk, .int .i64 xn, .string xs]) ∧ Below w.heap.size w w') (w : World) :
    Calls Tryd.prog 32 #[.agg #[.int .i64 a.k, .int .i64 a.n, .string a.s], .agg #[.int .i64 b.k, .int .i64 b.n, .string b.s]] w fun e w' => e = .returned (.int .i64 (0)) ∧ Below w.heap.size w w' := by
  have H1 := Lib.hid h1; have H2 := Lib.hid h2
  obtain ⟨k1, k2, k3⟩ := vl_pair w a b
  have HA := Lib.hid k1; have HO := Lib.hid k2; have HB := Lib.hid k3
  clear k1 k2 k3 h1 h2 
  go_enter Tryd.func32, Tryd.ntmps32
  go_upto_region 1 with (fail)
  obtain ⟨q, hq⟩ : ∃ q, w.heap.size = q := ⟨_, rfl⟩
  obtain ⟨w1, hw1⟩ : ∃ w1, ((w.alloc (.cells #[.int .i64 a.k, .int .i64 a.n, .string a.s] 23)).alloc (.cells #[.int .i64 b.k, .int .i64 b.n, .string b.s] 23)) = w1 := ⟨_, rfl⟩
  rw [hw1] at HA HO HB ⊢
  rw [hq] at HA HO ⊢
  have HLE := Lib.hid (Nat.le_of_eq hq)
  clear hq hw1
  obtain ⟨a0, a1, a2⟩ := HA.out.cells
  obtain ⟨o0, o1, o2⟩ := HO.out.cells
  have n1 : q ≠ q + 1 := by omega
  have n2 : q + 1 ≠ q := by omega
  go_upto_region 2 with (go_at_call 49; ((with_reducible refine (H1.out _).mono ?_); rintro e w2 ⟨rfl, hb⟩; have HA2 := Lib.hid (HA.out.over hb); have HO2 := Lib.hid (HO.out.over hb); have HB2 := Lib.hid (HB.out.trans (hb.mono HB.out.size)); obtain ⟨b0, b1, b2⟩ := HA2.out.cells; obtain ⟨f0, f1, f2⟩ := HA2.out.melts; clear hb))
  have HX := Lib.hid (show VlAt (((w2.setCell ⟨q, 0, none⟩ (.int .i64 xk)).setCell ⟨q, 1, none⟩ (.int .i64 xn)).setCell ⟨q, 2, none⟩ (.string xs)) q (⟨xk, xn, xs⟩ : Vl) from HA2.out.put3 (⟨xk, xn, xs⟩ : Vl))
  have HO3 := Lib.hid (show VlAt (((w2.setCell ⟨q, 0, none⟩ (.int .i64 xk)).setCell ⟨q, 1, none⟩ (.int .i64 xn)).setCell ⟨q, 2, none⟩ (.string xs)) (q + 1) b from HO2.out.far n1 (⟨xk, xn, xs⟩ : Vl))
  have HB3 := Lib.hid (show Below w.heap.size w (((w2.setCell ⟨q, 0, none⟩ (.int .i64 xk)).setCell ⟨q, 1, none⟩ (.int .i64 xn)).setCell ⟨q, 2, none⟩ (.string xs)) from belowV3 HB2.out HLE.out (⟨xk, xn, xs⟩ : Vl))
  obtain ⟨w3, hw3⟩ : ∃ w3, (((w2.setCell ⟨q, 0, none⟩ (.int .i64 xk)).setCell ⟨q, 1, none⟩ (.int .i64 xn)).setCell ⟨q, 2, none⟩ (.string xs)) = w3 := ⟨_, rfl⟩
  rw [hw3] at HX HO3 HB3 ⊢
  clear hw3 a0 a1 a2 o0 o1 o2 b0 b1 b2 f0 f1 f2 HA HO HA2 HO2 HB HB2
  obtain ⟨x0, x1, x2⟩ : w3.cell? ⟨q, 0, none⟩ = some (.int .i64 xk) ∧ w3.cell? ⟨q, 1, none⟩ = some (.int .i64 xn) ∧ w3.cell? ⟨q, 2, none⟩ = some (.string xs) := HX.out.cells
  obtain ⟨o0, o1, o2⟩ := HO3.out.cells
  go_upto_region 3 with (go_at_call 49; ((with_reducible refine (H2.out _).mono ?_); rintro e w4 ⟨rfl, hb⟩; have HX4 := Lib.hid (HX.out.over hb); have HO4 := Lib.hid (HO3.out.over hb); have HB4 := Lib.hid (HB3.out.trans (hb.mono HB3.out.size)); obtain ⟨b0, b1, b2⟩ := HO4.out.cells; obtain ⟨f0, f1, f2⟩ := HO4.out.melts; clear hb))
  have HX5 := Lib.hid (show VlAt (((w4.setCell ⟨(q + 1), 0, none⟩ (.int .i64 xk)).setCell ⟨(q + 1), 1, none⟩ (.int .i64 xn)).setCell ⟨(q + 1), 2, none⟩ (.string xs)) q (⟨xk, xn, xs⟩ : Vl) from HX4.out.far n2 (⟨xk, xn, xs⟩ : Vl))
  have HY5 := Lib.hid (show VlAt (((w4.setCell ⟨(q + 1), 0, none⟩ (.int .i64 xk)).setCell ⟨(q + 1), 1, none⟩ (.int .i64 xn)).setCell ⟨(q + 1), 2, none⟩ (.string xs)) (q + 1) (⟨xk, xn, xs⟩ : Vl) from HO4.out.put3 (⟨xk, xn, xs⟩ : Vl))
  have HB5 := Lib.hid (show Below w.heap.size w (((w4.setCell ⟨(q + 1), 0, none⟩ (.int .i64 xk)).setCell ⟨(q + 1), 1, none⟩ (.int .i64 xn)).setCell ⟨(q + 1), 2, none⟩ (.string xs)) from belowV3 HB4.out (Nat.le_succ_of_le HLE.out) (⟨xk, xn, xs⟩ : Vl))
  obtain ⟨w5, hw5⟩ : ∃ w5, (((w4.setCell ⟨(q + 1), 0, none⟩ (.int .i64 xk)).setCell ⟨(q + 1), 1, none⟩ (.int .i64 xn)).setCell ⟨(q + 1), 2, none⟩ (.string xs)) = w5 := ⟨_, rfl⟩
  rw [hw5] at HX5 HY5 HB5 ⊢
  clear hw5 x0 x1 x2 o0 o1 o2 b0 b1 b2 f0 f1 f2 HX HO3 HB3 HX4 HO4 HB4 H1 H2
  obtain ⟨x0, x1, x2⟩ : w5.cell? ⟨q, 0, none⟩ = some (.int .i64 xk) ∧ w5.cell? ⟨q, 1, none⟩ = some (.int .i64 xn) ∧ w5.cell? ⟨q, 2, none⟩ = some (.string xs) := HX5.out.cells
  obtain ⟨y0, y1, y2⟩ : w5.cell? ⟨q + 1, 0, none⟩ = some (.int .i64 xk) ∧ w5.cell? ⟨q + 1, 1, none⟩ = some (.int .i64 xn) ∧ w5.cell? ⟨q + 1, 2, none⟩ = some (.string xs) := HY5.out.cells
  go_wp2_with fail
  all_goals go_ret
  all_goals exact ⟨rfl, HB5.out⟩
set_option maxRecDepth 100000 in
set_option maxHeartbeats 1600000 in
theorem rorder_c7 (a b : Vl) (xk xn : Int) (xs : ByteArray) (ys : ByteArray) (hs : Op.bytesLess xs.toList ys.toList = false) (hne : ¬ xs.toList = ys.toList)
    (h1 : ∀ w : World, Calls Tryd.prog 49 #[.agg #[.int .i64 a.k, .int .i64 a.n, .string a.s], .agg #[.int .i64 b.k, .int .i64 b.n, .string b.s]] w fun e w' => e = .returned (.agg #[.int .i64 xk, .int .i64 xn, .string xs]) ∧ Below w.heap.size w w')
    (h2 : ∀ w : World, Calls Tryd.prog 49 #[.agg #[.int .i64 b.k, .int .i64 b.n, .string b.s], .agg #[.int .i64 xk, .int .i64 xn, .string xs]] w fun e w' => e = .returned (.agg #[.int .i64 xk, .int .i64 xn, .string ys]) ∧ Below w.heap.size w w') (w : World) :
    Calls Tryd.prog 32 #[.agg #[.int .i64 a.k, .int .i64 a.n, .string a.s], .agg #[.int .i64 b.k, .int .i64 b.n, .string b.s]] w fun e w' => e = .returned (.int .i64 (1)) ∧ Below w.heap.size w w' := by
  have g3 : (xs.toList == ys.toList) = false := beq_eq_false_iff_ne.2 hne
  have H1 := Lib.hid h1; have H2 := Lib.hid h2
  obtain ⟨k1, k2, k3⟩ := vl_pair w a b
  have HA := Lib.hid k1; have HO := Lib.hid k2; have HB := Lib.hid k3
  clear k1 k2 k3 h1 h2 
  go_enter Tryd.func32, Tryd.ntmps32
  go_upto_region 1 with (fail)
  obtain ⟨q, hq⟩ : ∃ q, w.heap.size = q := ⟨_, rfl⟩
  obtain ⟨w1, hw1⟩ : ∃ w1, ((w.alloc (.cells #[.int .i64 a.k, .int .i64 a.n, .string a.s] 23)).alloc (.cells #[.int .i64 b.k, .int .i64 b.n, .string b.s] 23)) = w1 := ⟨_, rfl⟩
  rw [hw1] at HA HO HB ⊢
  rw [hq] at HA HO ⊢
  have HLE := Lib.hid (Nat.le_of_eq hq)
  clear hq hw1
  obtain ⟨a0, a1, a2⟩ := HA.out.cells
  obtain ⟨o0, o1, o2⟩ := HO.out.cells
  have n1 : q ≠ q + 1 := by omega
  have n2 : q + 1 ≠ q := by omega
  go_upto_region 2 with (go_at_call 49; ((with_reducible refine (H1.out _).mono ?_); rintro e w2 ⟨rfl, hb⟩; have HA2 := Lib.hid (HA.out.over hb); have HO2 := Lib.hid (HO.out.over hb); have HB2 := Lib.hid (HB.out.trans (hb.mono HB.out.size)); obtain ⟨b0, b1, b2⟩ := HA2.out.cells; obtain ⟨f0, f1, f2⟩ := HA2.out.melts; clear hb))
  have HX := Lib.hid (show VlAt (((w2.setCell ⟨q, 0, none⟩ (.int .i64 xk)).setCell ⟨q, 1, none⟩ (.int .i64 xn)).setCell ⟨q, 2, none⟩ (.string xs)) q (⟨xk, xn, xs⟩ : Vl) from HA2.out.put3 (⟨xk, xn, xs⟩ : Vl))
  have HO3 := Lib.hid (show VlAt (((w2.setCell ⟨q, 0, none⟩ (.int .i64 xk)).setCell ⟨q, 1, none⟩ (.int .i64 xn)).setCell ⟨q, 2, none⟩ (.string xs)) (q + 1) b from HO2.out.far n1 (⟨xk, xn, xs⟩ : Vl))
  have HB3 := Lib.hid (show Below w.heap.size w (((w2.setCell ⟨q, 0, none⟩ (.int .i64 xk)).setCell ⟨q, 1, none⟩ (.int .i64 xn)).setCell ⟨q, 2, none⟩ (.string xs)) from belowV3 HB2.out HLE.out (⟨xk, xn, xs⟩ : Vl))
  obtain ⟨w3, hw3⟩ : ∃ w3, (((w2.setCell ⟨q, 0, none⟩ (.int .i64 xk)).setCell ⟨q, 1, none⟩ (.int .i64 xn)).setCell ⟨q, 2, none⟩ (.string xs)) = w3 := ⟨_, rfl⟩
  rw [hw3] at HX HO3 HB3 ⊢
  clear hw3 a0 a1 a2 o0 o1 o2 b0 b1 b2 f0 f1 f2 HA HO HA2 HO2 HB HB2
  obtain ⟨x0, x1, x2⟩ : w3.cell? ⟨q, 0, none⟩ = some (.int .i64 xk) ∧ w3.cell? ⟨q, 1, none⟩ = some (.int .i64 xn) ∧ w3.cell? ⟨q, 2, none⟩ = some (.string xs) := HX.out.cells
  obtain ⟨o0, o1, o2⟩ := HO3.out.cells
  go_upto_region 3 with (go_at_call 49; ((with_reducible refine (H2.out _).mono ?_); rintro e w4 ⟨rfl, hb⟩; have HX4 := Lib.hid (HX.out.over hb); have HO4 := Lib.hid (HO3.out.over hb); have HB4 := Lib.hid (HB3.out.trans (hb.mono HB3.out.size)); obtain ⟨b0, b1, b2⟩ := HO4.out.cells; obtain ⟨f0, f1, f2⟩ := HO4.out.melts; clear hb))
  have HX5 := Lib.hid (show VlAt (((w4.setCell ⟨(q + 1), 0, none⟩ (.int .i64 xk)).setCell ⟨(q + 1), 1, none⟩ (.int .i64 xn)).setCell ⟨(q + 1), 2, none⟩ (.string ys)) q (⟨xk, xn, xs⟩ : Vl) from HX4.out.far n2 (⟨xk, xn, ys⟩ : Vl))
  have HY5 := Lib.hid (show VlAt (((w4.setCell ⟨(q + 1), 0, none⟩ (.int .i64 xk)).setCell ⟨(q + 1), 1, none⟩ (.int .i64 xn)).setCell ⟨(q + 1), 2, none⟩ (.string ys)) (q + 1) (⟨xk, xn, ys⟩ : Vl) from HO4.out.put3 (⟨xk, xn, ys⟩ : Vl))
  have HB5 := Lib.hid (show Below w.heap.size w (((w4.setCell ⟨(q + 1), 0, none⟩ (.int .i64 xk)).setCell ⟨(q + 1), 1, none⟩ (.int .i64 xn)).setCell ⟨(q + 1), 2, none⟩ (.string ys)) from belowV3 HB4.out (Nat.le_succ_of_le HLE.out) (⟨xk, xn, ys⟩ : Vl))
  obtain ⟨w5, hw5⟩ : ∃ w5, (((w4.setCell ⟨(q + 1), 0, none⟩ (.int .i64 xk)).setCell ⟨(q + 1), 1, none⟩ (.int .i64 xn)).setCell ⟨(q + 1), 2, none⟩ (.string ys)) = w5 := ⟨_, rfl⟩
  rw [hw5] at HX5 HY5 HB5 ⊢
  clear hw5 x0 x1 x2 o0 o1 o2 b0 b1 b2 f0 f1 f2 HX HO3 HB3 HX4 HO4 HB4 H1 H2
  obtain ⟨x0, x1, x2⟩ : w5.cell? ⟨q, 0, none⟩ = some (.int .i64 xk) ∧ w5.cell? ⟨q, 1, none⟩ = some (.int .i64 xn) ∧ w5.cell? ⟨q, 2, none⟩ = some (.string xs) := HX5.out.cells
  obtain ⟨y0, y1, y2⟩ : w5.cell? ⟨q + 1, 0, none⟩ = some (.int .i64 xk) ∧ w5.cell? ⟨q + 1, 1, none⟩ = some (.int .i64 xn) ∧ w5.cell? ⟨q + 1, 2, none⟩ = some (.string ys) := HY5.out.cells
  go_wp2_with fail
  all_goals go_ret
  all_goals exact ⟨rfl, HB5.out⟩
/-- What a value that counts as another one's kind holds. -/
def Neat (x : Vl) : Prop := (x.k = 2 → x.n = 0) ∧ (¬ x.k = 2 → x.s = ⟨#[]⟩)
theorem neat_as (a b : Vl) (ha : mayV a = true) : Neat (asV a b) := by
  unfold asV Neat
  by_cases h0 : a.k = 0
  · rw [if_pos h0]; exact ⟨fun _ => rfl, fun _ => rfl⟩
  · rw [if_neg h0]
    refine ⟨fun h2 => (may_text ha h2).1, fun h2 => ?_⟩
    rcases may_kind ha with h | h | h | h | h
    · exact absurd h h0
    · exact may_int ha h
    · exact absurd h h2
    · exact (may_truth ha h).1
    · exact (may_err ha h).1
theorem as_as (a b : Vl) : asV b (asV a b) = asV b a := by
  unfold asV
  by_cases hb : b.k = 0
  · rw [if_pos hb, if_pos hb]
    by_cases ha : a.k = 0
    · rw [if_pos ha]; exact Vl.ext (hb.trans ha.symm) rfl rfl
    · rw [if_neg ha]
  · rw [if_neg hb, if_neg hb]
theorem rorder_any (a b : Vl) (ha : mayV a = true) (hb : mayV b = true) (w : World) : Calls Tryd.prog 32 #[.agg #[.int .i64 a.k, .int .i64 a.n, .string a.s], .agg #[.int .i64 b.k, .int .i64 b.n, .string b.s]] w fun e w' => e = .returned (.int .i64 (cmpV a b)) ∧ Below w.heap.size w w' := by
  have h1 := ras_any a b ha
  have h2 := ras_any b (asV a b) hb
  rw [as_as] at h2
  have nx := neat_as a b ha
  have ny := neat_as b a hb
  have hc : cmpV a b = (if ¬ (asV a b).k = (asV b a).k then Lib.compareInt (asV a b).k (asV b a).k else if (asV a b).k = 2 then Lib.compareBytes (asV a b).s.data.toList (asV b a).s.data.toList else Lib.compareInt (asV a b).n (asV b a).n) := rfl
  rw [hc]
  clear hc
  generalize asV a b = x at h1 h2 nx ⊢
  generalize asV b a = y at h2 ny ⊢
  obtain ⟨xk, xn, xs⟩ := x
  obtain ⟨yk, yn, ys⟩ := y
  unfold Neat at nx ny
  dsimp only at h1 h2 nx ny ⊢
  have i1 := cmpI_three xk yk
  by_cases hk : xk = yk
  · subst hk
    rw [if_neg (fun h => h rfl)]
    by_cases h2k : xk = 2
    · rw [if_pos h2k]
      have e1 := nx.1 h2k; have e2 := ny.1 h2k
      subst e1; subst e2
      have hl := less_cmpB xs.toList ys.toList
      rw [list_bytes, list_bytes] at hl
      rcases cmpB_three xs.data.toList ys.data.toList with h | h | h
      · rw [h]; rw [h] at hl
        exact rorder_c5 a b xk 0 xs ys (by rw [list_bytes, list_bytes, hl]; decide) h1 h2 w
      · rw [h]; rw [h] at hl
        have e := cmpB_eq _ _ h
        have es : xs = ys := by cases xs; cases ys; exact congrArg ByteArray.mk (Array.toList_inj.1 e)
        subst es
        exact rorder_c6 a b xk 0 xs (by rw [list_bytes, hl]; decide) h1 h2 w
      · rw [h]; rw [h] at hl
        exact rorder_c7 a b xk 0 xs ys (by rw [list_bytes, list_bytes, hl]; decide) (fun e => by rw [list_bytes, list_bytes] at e; rw [e, cmpB_self] at h; cases h) h1 h2 w
    · rw [if_neg h2k]
      have e1 := nx.2 h2k; have e2 := ny.2 h2k
      subst e1; subst e2
      rcases cmpI_three xn yn with ⟨h, hh⟩ | ⟨h, hh⟩ | ⟨h, hh⟩
      · rw [h]; exact rorder_c3 a b xk xn _ yn _ hh h1 h2 w
      · rw [h]; subst hh
        exact rorder_c6 a b xk xn _ (by rw [less_cmpB, cmpB_self]; decide) h1 h2 w
      · rw [h]; exact rorder_c4 a b xk xn _ yn _ hh h1 h2 w
  · rw [if_pos hk]
    rcases i1 with ⟨h, hh⟩ | ⟨h, hh⟩ | ⟨h, hh⟩
    · rw [h]; exact rorder_c1 a b xk xn xs yk yn ys hh h1 h2 w
    · exact absurd hh hk
    · rw [h]; exact rorder_c2 a b xk xn xs yk yn ys hh h1 h2 w
end Go.Proofs.YtgnandbokgfeiaaDoor
