/-
  Layer 7, the law: all of any values.
-/
import Derived.Test.YtgnandbokgfeiaaDoorVaQ
import Derived.Deep.DeepCutAuto
namespace Go.Proofs.YtgnandbokgfeiaaDoor
open Go.RowKit

set_option maxRecDepth 100000 in
set_option maxHeartbeats 1600000 in
theorem tru_0 (v : Vl) (h0 : v.k = 0) (w : World) : Calls Tryd.prog 11 #[.agg #[.int .i64 v.k, .int .i64 v.n, .string v.s]] w fun e w' => e = .returned (.tuple #[.bool false, .bool true]) ∧ Below w.heap.size w w' := by
  have e0 : (v.k == 0) = true := beq_iff_eq.2 h0
  have HB := Lib.hid (below_vl w v)
  clear h0
  go_enter Tryd.func11, Tryd.ntmps11
  go_wp2_with fail
  all_goals go_ret2
  all_goals exact ⟨by rfl, HB.out⟩
set_option maxRecDepth 100000 in
set_option maxHeartbeats 1600000 in
theorem tru_1 (v : Vl) (h0 : ¬ v.k = 0) (h1 : v.k = 1) (w : World) : Calls Tryd.prog 11 #[.agg #[.int .i64 v.k, .int .i64 v.n, .string v.s]] w fun e w' => e = .returned (.tuple #[.bool (v.n != 0), .bool true]) ∧ Below w.heap.size w w' := by
  have e0 : (v.k == 0) = false := beq_eq_false_iff_ne.2 h0
  have e1 : (v.k == 1) = true := beq_iff_eq.2 h1
  have HB := Lib.hid (below_vl w v)
  clear h0 h1
  go_enter Tryd.func11, Tryd.ntmps11
  go_wp2_with fail
  all_goals go_ret2
  all_goals exact ⟨by rfl, HB.out⟩
set_option maxRecDepth 100000 in
set_option maxHeartbeats 1600000 in
theorem tru_3 (v : Vl) (h0 : ¬ v.k = 0) (h1 : ¬ v.k = 1) (h3 : v.k = 3) (w : World) : Calls Tryd.prog 11 #[.agg #[.int .i64 v.k, .int .i64 v.n, .string v.s]] w fun e w' => e = .returned (.tuple #[.bool (v.n == 1), .bool true]) ∧ Below w.heap.size w w' := by
  have e0 : (v.k == 0) = false := beq_eq_false_iff_ne.2 h0
  have e1 : (v.k == 1) = false := beq_eq_false_iff_ne.2 h1
  have e3 : (v.k == 3) = true := beq_iff_eq.2 h3
  have HB := Lib.hid (below_vl w v)
  clear h0 h1 h3
  go_enter Tryd.func11, Tryd.ntmps11
  go_wp2_with fail
  all_goals go_ret2
  all_goals exact ⟨by rfl, HB.out⟩
set_option maxRecDepth 100000 in
set_option maxHeartbeats 1600000 in
theorem tru_x (v : Vl) (h0 : ¬ v.k = 0) (h1 : ¬ v.k = 1) (h3 : ¬ v.k = 3) (w : World) : Calls Tryd.prog 11 #[.agg #[.int .i64 v.k, .int .i64 v.n, .string v.s]] w fun e w' => e = .returned (.tuple #[.bool false, .bool false]) ∧ Below w.heap.size w w' := by
  have e0 : (v.k == 0) = false := beq_eq_false_iff_ne.2 h0
  have e1 : (v.k == 1) = false := beq_eq_false_iff_ne.2 h1
  have e3 : (v.k == 3) = false := beq_eq_false_iff_ne.2 h3
  have HB := Lib.hid (below_vl w v)
  clear h0 h1 h3
  go_enter Tryd.func11, Tryd.ntmps11
  go_wp2_with fail
  all_goals go_ret2
  all_goals exact ⟨by rfl, HB.out⟩
theorem tru_any (v : Vl) (w : World) : Calls Tryd.prog 11 #[.agg #[.int .i64 v.k, .int .i64 v.n, .string v.s]] w fun e w' => e = .returned (.tuple #[.bool (truthV v), .bool (isTruth v)]) ∧ Below w.heap.size w w' := by
  by_cases h0 : v.k = 0
  · rw [show truthV v = false from by unfold truthV; rw [if_neg (by omega), if_neg (by omega)], show isTruth v = true from decide_eq_true (.inl h0)]; exact tru_0 v h0 w
  by_cases h1 : v.k = 1
  · rw [show truthV v = (v.n != 0) from by unfold truthV; rw [if_pos h1, dec_bne], show isTruth v = true from decide_eq_true (.inr (.inl h1))]; exact tru_1 v h0 h1 w
  by_cases h3 : v.k = 3
  · rw [show truthV v = (v.n == 1) from by unfold truthV; rw [if_neg h1, if_pos h3, dec_beq], show isTruth v = true from decide_eq_true (.inr (.inr h3))]; exact tru_3 v h0 h1 h3 w
  · rw [show truthV v = false from by unfold truthV; rw [if_neg h1, if_neg h3], show isTruth v = false from decide_eq_false (by rintro (h | h | h); exact h0 h; exact h1 h; exact h3 h)]; exact tru_x v h0 h1 h3 w
set_option maxRecDepth 100000 in
set_option maxHeartbeats 1600000 in
theorem valAll_far1 (kind : Int) (x y : Vl) (h1 : 300 < x.s.size) (w : World) (ht : Tab w) (he : EtV w) :
    Calls Tryd.prog 3 #[.int .i64 kind, .agg #[.int .i64 x.k, .int .i64 x.n, .string x.s], .agg #[.int .i64 y.k, .int .i64 y.n, .string y.s]] w fun e w' => e = .returned (.bool true) ∧ Below w.heap.size w w' := by
  have HT := Lib.hid ht; have HE := Lib.hid he
  have g1 : (300 : Int) < (x.s.size : Int) := by omega
  clear h1
  clear ht he
  obtain ⟨k1, k2, k3⟩ := vl_pair w x y
  have HVX := Lib.hid k1; have HVY := Lib.hid k2; have HB := Lib.hid k3
  clear k1 k2 k3
  go_enter Tryd.func3, Tryd.ntmps3
  go_upto_region 1 with fail
  obtain ⟨q, hq⟩ : ∃ q, w.heap.size = q := ⟨_, rfl⟩
  obtain ⟨w1, hw1⟩ : ∃ w1, ((w.alloc (.cells #[.int .i64 x.k, .int .i64 x.n, .string x.s] 23)).alloc (.cells #[.int .i64 y.k, .int .i64 y.n, .string y.s] 23)) = w1 := ⟨_, rfl⟩
  rw [hw1] at HVX HVY HB ⊢
  rw [hq] at HVX HVY ⊢
  clear hq hw1
  obtain ⟨x0, x1, x2⟩ := HVX.out.cells
  obtain ⟨y0, y1, y2⟩ := HVY.out.cells
  have TT := Lib.hid (fun (wr : World) (hr : Below w1.heap.size w1 wr) => HT.out.below (HB.out.trans (hr.mono HB.out.size)))
  have TE := Lib.hid (fun (wr : World) (hr : Below w1.heap.size w1 wr) => HE.out.below (HB.out.trans (hr.mono HB.out.size)))
  have HAW := Lib.hid (fun (wr : World) (hr : Below w1.heap.size w1 wr) => awake7_any wr (TT.out wr hr) (TE.out wr hr))
  have HR := Lib.hid (Below.refl w1.heap.size w1)
  clear HT HE
  go_wp2_with (first
    | fail
    | (go_at_call 10; ((with_reducible refine (HAW.out _ HR.out).mono ?_); rintro e w20 ⟨rfl, hb⟩; have HR20 := Lib.hid (HR.out.trans (hb.mono HR.out.size)); obtain ⟨x200, x201, x202⟩ := (HVX.out.over HR20.out).cells; obtain ⟨y200, y201, y202⟩ := (HVY.out.over HR20.out).cells; clear hb)))
  all_goals go_ret
  all_goals exact ⟨rfl, HB.out.trans (HR20.out.mono HB.out.size)⟩
set_option maxRecDepth 100000 in
set_option maxHeartbeats 1600000 in
theorem valAll_far2 (kind : Int) (x y : Vl) (h1 : ¬ 300 < x.s.size) (h2 : 300 < y.s.size) (w : World) (ht : Tab w) (he : EtV w) :
    Calls Tryd.prog 3 #[.int .i64 kind, .agg #[.int .i64 x.k, .int .i64 x.n, .string x.s], .agg #[.int .i64 y.k, .int .i64 y.n, .string y.s]] w fun e w' => e = .returned (.bool true) ∧ Below w.heap.size w w' := by
  have HT := Lib.hid ht; have HE := Lib.hid he
  have g1 : ¬ (300 : Int) < (x.s.size : Int) := by omega
  have g2 : (300 : Int) < (y.s.size : Int) := by omega
  clear h1 h2
  clear ht he
  obtain ⟨k1, k2, k3⟩ := vl_pair w x y
  have HVX := Lib.hid k1; have HVY := Lib.hid k2; have HB := Lib.hid k3
  clear k1 k2 k3
  go_enter Tryd.func3, Tryd.ntmps3
  go_upto_region 1 with fail
  obtain ⟨q, hq⟩ : ∃ q, w.heap.size = q := ⟨_, rfl⟩
  obtain ⟨w1, hw1⟩ : ∃ w1, ((w.alloc (.cells #[.int .i64 x.k, .int .i64 x.n, .string x.s] 23)).alloc (.cells #[.int .i64 y.k, .int .i64 y.n, .string y.s] 23)) = w1 := ⟨_, rfl⟩
  rw [hw1] at HVX HVY HB ⊢
  rw [hq] at HVX HVY ⊢
  clear hq hw1
  obtain ⟨x0, x1, x2⟩ := HVX.out.cells
  obtain ⟨y0, y1, y2⟩ := HVY.out.cells
  have TT := Lib.hid (fun (wr : World) (hr : Below w1.heap.size w1 wr) => HT.out.below (HB.out.trans (hr.mono HB.out.size)))
  have TE := Lib.hid (fun (wr : World) (hr : Below w1.heap.size w1 wr) => HE.out.below (HB.out.trans (hr.mono HB.out.size)))
  have HAW := Lib.hid (fun (wr : World) (hr : Below w1.heap.size w1 wr) => awake7_any wr (TT.out wr hr) (TE.out wr hr))
  have HR := Lib.hid (Below.refl w1.heap.size w1)
  clear HT HE
  go_wp2_with (first
    | fail
    | (go_at_call 10; ((with_reducible refine (HAW.out _ HR.out).mono ?_); rintro e w20 ⟨rfl, hb⟩; have HR20 := Lib.hid (HR.out.trans (hb.mono HR.out.size)); obtain ⟨x200, x201, x202⟩ := (HVX.out.over HR20.out).cells; obtain ⟨y200, y201, y202⟩ := (HVY.out.over HR20.out).cells; clear hb)))
  all_goals go_ret
  all_goals exact ⟨rfl, HB.out.trans (HR20.out.mono HB.out.size)⟩
set_option maxRecDepth 100000 in
set_option maxHeartbeats 1600000 in
theorem valAll_far3 (kind : Int) (x y : Vl) (h1 : ¬ 300 < x.s.size) (h2 : ¬ 300 < y.s.size) (mx : mayV x = false) (w : World) (ht : Tab w) (he : EtV w) :
    Calls Tryd.prog 3 #[.int .i64 kind, .agg #[.int .i64 x.k, .int .i64 x.n, .string x.s], .agg #[.int .i64 y.k, .int .i64 y.n, .string y.s]] w fun e w' => e = .returned (.bool true) ∧ Below w.heap.size w w' := by
  have HT := Lib.hid ht; have HE := Lib.hid he
  have g1 : ¬ (300 : Int) < (x.s.size : Int) := by omega
  have g2 : ¬ (300 : Int) < (y.s.size : Int) := by omega
  clear h1 h2
  have hm := rmay_any x
  rw [mx] at hm
  have HM := Lib.hid hm
  clear hm mx
  clear ht he
  obtain ⟨k1, k2, k3⟩ := vl_pair w x y
  have HVX := Lib.hid k1; have HVY := Lib.hid k2; have HB := Lib.hid k3
  clear k1 k2 k3
  go_enter Tryd.func3, Tryd.ntmps3
  go_upto_region 1 with fail
  obtain ⟨q, hq⟩ : ∃ q, w.heap.size = q := ⟨_, rfl⟩
  obtain ⟨w1, hw1⟩ : ∃ w1, ((w.alloc (.cells #[.int .i64 x.k, .int .i64 x.n, .string x.s] 23)).alloc (.cells #[.int .i64 y.k, .int .i64 y.n, .string y.s] 23)) = w1 := ⟨_, rfl⟩
  rw [hw1] at HVX HVY HB ⊢
  rw [hq] at HVX HVY ⊢
  clear hq hw1
  obtain ⟨x0, x1, x2⟩ := HVX.out.cells
  obtain ⟨y0, y1, y2⟩ := HVY.out.cells
  have TT := Lib.hid (fun (wr : World) (hr : Below w1.heap.size w1 wr) => HT.out.below (HB.out.trans (hr.mono HB.out.size)))
  have TE := Lib.hid (fun (wr : World) (hr : Below w1.heap.size w1 wr) => HE.out.below (HB.out.trans (hr.mono HB.out.size)))
  have HAW := Lib.hid (fun (wr : World) (hr : Below w1.heap.size w1 wr) => awake7_any wr (TT.out wr hr) (TE.out wr hr))
  have HR := Lib.hid (Below.refl w1.heap.size w1)
  clear HT HE
  go_wp2_with (first
    | (go_at_call 9; ((with_reducible refine (HM.out _).mono ?_); rintro e w2 ⟨rfl, hb⟩; have HR2 := Lib.hid (HR.out.trans (hb.mono HR.out.size)); obtain ⟨x20, x21, x22⟩ := (HVX.out.over HR2.out).cells; obtain ⟨y20, y21, y22⟩ := (HVY.out.over HR2.out).cells; clear hb))
    | (go_at_call 10; ((with_reducible refine (HAW.out _ HR2.out).mono ?_); rintro e w20 ⟨rfl, hb⟩; have HR20 := Lib.hid (HR2.out.trans (hb.mono HR2.out.size)); obtain ⟨x200, x201, x202⟩ := (HVX.out.over HR20.out).cells; obtain ⟨y200, y201, y202⟩ := (HVY.out.over HR20.out).cells; clear hb)))
  all_goals go_ret
  all_goals exact ⟨rfl, HB.out.trans (HR20.out.mono HB.out.size)⟩
set_option maxRecDepth 100000 in
set_option maxHeartbeats 1600000 in
theorem valAll_far4 (kind : Int) (x y : Vl) (h1 : ¬ 300 < x.s.size) (h2 : ¬ 300 < y.s.size) (mx : mayV x = true) (my : mayV y = false) (w : World) (ht : Tab w) (he : EtV w) :
    Calls Tryd.prog 3 #[.int .i64 kind, .agg #[.int .i64 x.k, .int .i64 x.n, .string x.s], .agg #[.int .i64 y.k, .int .i64 y.n, .string y.s]] w fun e w' => e = .returned (.bool true) ∧ Below w.heap.size w w' := by
  have HT := Lib.hid ht; have HE := Lib.hid he
  have g1 : ¬ (300 : Int) < (x.s.size : Int) := by omega
  have g2 : ¬ (300 : Int) < (y.s.size : Int) := by omega
  clear h1 h2
  have hm := rmay_any x
  rw [mx] at hm
  have HM := Lib.hid hm
  clear hm mx
  have hn := rmay_any y
  rw [my] at hn
  have HN := Lib.hid hn
  clear hn my
  clear ht he
  obtain ⟨k1, k2, k3⟩ := vl_pair w x y
  have HVX := Lib.hid k1; have HVY := Lib.hid k2; have HB := Lib.hid k3
  clear k1 k2 k3
  go_enter Tryd.func3, Tryd.ntmps3
  go_upto_region 1 with fail
  obtain ⟨q, hq⟩ : ∃ q, w.heap.size = q := ⟨_, rfl⟩
  obtain ⟨w1, hw1⟩ : ∃ w1, ((w.alloc (.cells #[.int .i64 x.k, .int .i64 x.n, .string x.s] 23)).alloc (.cells #[.int .i64 y.k, .int .i64 y.n, .string y.s] 23)) = w1 := ⟨_, rfl⟩
  rw [hw1] at HVX HVY HB ⊢
  rw [hq] at HVX HVY ⊢
  clear hq hw1
  obtain ⟨x0, x1, x2⟩ := HVX.out.cells
  obtain ⟨y0, y1, y2⟩ := HVY.out.cells
  have TT := Lib.hid (fun (wr : World) (hr : Below w1.heap.size w1 wr) => HT.out.below (HB.out.trans (hr.mono HB.out.size)))
  have TE := Lib.hid (fun (wr : World) (hr : Below w1.heap.size w1 wr) => HE.out.below (HB.out.trans (hr.mono HB.out.size)))
  have HAW := Lib.hid (fun (wr : World) (hr : Below w1.heap.size w1 wr) => awake7_any wr (TT.out wr hr) (TE.out wr hr))
  have HR := Lib.hid (Below.refl w1.heap.size w1)
  clear HT HE
  go_wp2_with (first
    | (go_at_call 9; ((with_reducible refine (HM.out _).mono ?_); rintro e w2 ⟨rfl, hb⟩; have HR2 := Lib.hid (HR.out.trans (hb.mono HR.out.size)); obtain ⟨x20, x21, x22⟩ := (HVX.out.over HR2.out).cells; obtain ⟨y20, y21, y22⟩ := (HVY.out.over HR2.out).cells; clear hb))
    | (go_at_call 9; ((with_reducible refine (HN.out _).mono ?_); rintro e w3 ⟨rfl, hb⟩; have HR3 := Lib.hid (HR2.out.trans (hb.mono HR2.out.size)); obtain ⟨x30, x31, x32⟩ := (HVX.out.over HR3.out).cells; obtain ⟨y30, y31, y32⟩ := (HVY.out.over HR3.out).cells; clear hb))
    | (go_at_call 10; ((with_reducible refine (HAW.out _ HR3.out).mono ?_); rintro e w20 ⟨rfl, hb⟩; have HR20 := Lib.hid (HR3.out.trans (hb.mono HR3.out.size)); obtain ⟨x200, x201, x202⟩ := (HVX.out.over HR20.out).cells; obtain ⟨y200, y201, y202⟩ := (HVY.out.over HR20.out).cells; clear hb)))
  all_goals go_ret
  all_goals exact ⟨rfl, HB.out.trans (HR20.out.mono HB.out.size)⟩
set_option maxRecDepth 100000 in
set_option maxHeartbeats 1600000 in
theorem valAll_main (kind : Int) (x y : Vl) (h1 : ¬ 300 < x.s.size) (h2 : ¬ 300 < y.s.size) (mx : mayV x = true) (my : mayV y = true) (ox : VOk x) (oy : VOk y) (w : World) (ht : Tab w) (he : EtV w) :
    Calls Tryd.prog 3 #[.int .i64 kind, .agg #[.int .i64 x.k, .int .i64 x.n, .string x.s], .agg #[.int .i64 y.k, .int .i64 y.n, .string y.s]] w fun e w' => e = .returned (.bool true) ∧ Below w.heap.size w w' := by
  have HT := Lib.hid ht; have HE := Lib.hid he
  have p1 := tru_any x
  have p2 := rtru_any x mx
  generalize truthV x = b1 at p1 p2
  generalize isTruth x = b2 at p1 p2
  have p3 := int_any x
  have p4 := rint_any x mx
  generalize intV x = n1 at p3 p4
  generalize isInt x = b3 at p3 p4
  have p5 := textV_any x ox
  have p6 := rtext_any x ox mx
  generalize textV x = t1 at p5 p6
  have p7 := neg_any x ox
  have p8 := rneg_any x mx ox
  generalize negV x = u at p7 p8
  have p9 := two_any kind x y ox oy
  have p10 := rtwo_any kind x y mx my ox oy
  generalize twoV kind x y = v at p9 p10
  have g1 : ¬ (300 : Int) < (x.s.size : Int) := by omega
  have g2 : ¬ (300 : Int) < (y.s.size : Int) := by omega
  clear h1 h2
  have hm := rmay_any x
  rw [mx] at hm
  have HM := Lib.hid hm
  clear hm mx
  have hn := rmay_any y
  rw [my] at hn
  have HN := Lib.hid hn
  clear hn my
  have P1 := Lib.hid p1; have P2 := Lib.hid p2; have P3 := Lib.hid p3; have P4 := Lib.hid p4; have P5 := Lib.hid p5; have P6 := Lib.hid p6; have P7 := Lib.hid p7; have P8 := Lib.hid p8; have P9 := Lib.hid p9; have P10 := Lib.hid p10
  clear p1 p2 p3 p4 p5 p6 p7 p8 p9 p10 ox oy ht he
  obtain ⟨k1, k2, k3⟩ := vl_pair w x y
  have HVX := Lib.hid k1; have HVY := Lib.hid k2; have HB := Lib.hid k3
  clear k1 k2 k3
  go_enter Tryd.func3, Tryd.ntmps3
  go_upto_region 1 with fail
  obtain ⟨q, hq⟩ : ∃ q, w.heap.size = q := ⟨_, rfl⟩
  obtain ⟨w1, hw1⟩ : ∃ w1, ((w.alloc (.cells #[.int .i64 x.k, .int .i64 x.n, .string x.s] 23)).alloc (.cells #[.int .i64 y.k, .int .i64 y.n, .string y.s] 23)) = w1 := ⟨_, rfl⟩
  rw [hw1] at HVX HVY HB ⊢
  rw [hq] at HVX HVY ⊢
  clear hq hw1
  obtain ⟨x0, x1, x2⟩ := HVX.out.cells
  obtain ⟨y0, y1, y2⟩ := HVY.out.cells
  have TT := Lib.hid (fun (wr : World) (hr : Below w1.heap.size w1 wr) => HT.out.below (HB.out.trans (hr.mono HB.out.size)))
  have TE := Lib.hid (fun (wr : World) (hr : Below w1.heap.size w1 wr) => HE.out.below (HB.out.trans (hr.mono HB.out.size)))
  have HAW := Lib.hid (fun (wr : World) (hr : Below w1.heap.size w1 wr) => awake7_any wr (TT.out wr hr) (TE.out wr hr))
  have HR := Lib.hid (Below.refl w1.heap.size w1)
  clear HT HE
  go_upto_region 7 with (first
    | (go_at_call 9; ((with_reducible refine (HM.out _).mono ?_); rintro e w2 ⟨rfl, hb⟩; have HR2 := Lib.hid (HR.out.trans (hb.mono HR.out.size)); obtain ⟨x20, x21, x22⟩ := (HVX.out.over HR2.out).cells; obtain ⟨y20, y21, y22⟩ := (HVY.out.over HR2.out).cells; clear hb))
    | (go_at_call 9; ((with_reducible refine (HN.out _).mono ?_); rintro e w3 ⟨rfl, hb⟩; have HR3 := Lib.hid (HR2.out.trans (hb.mono HR2.out.size)); obtain ⟨x30, x31, x32⟩ := (HVX.out.over HR3.out).cells; obtain ⟨y30, y31, y32⟩ := (HVY.out.over HR3.out).cells; clear hb))
    | (go_at_call 11; ((with_reducible refine (P1.out _).mono ?_); rintro e w4 ⟨rfl, hb⟩; have HR4 := Lib.hid (HR3.out.trans (hb.mono HR3.out.size)); obtain ⟨x40, x41, x42⟩ := (HVX.out.over HR4.out).cells; obtain ⟨y40, y41, y42⟩ := (HVY.out.over HR4.out).cells; clear hb))
    | (go_at_call 12; ((with_reducible refine (P2.out _).mono ?_); rintro e w5 ⟨rfl, hb⟩; have HR5 := Lib.hid (HR4.out.trans (hb.mono HR4.out.size)); obtain ⟨x50, x51, x52⟩ := (HVX.out.over HR5.out).cells; obtain ⟨y50, y51, y52⟩ := (HVY.out.over HR5.out).cells; clear hb))
    | (go_at_call 13; ((with_reducible refine (P3.out _).mono ?_); rintro e w6 ⟨rfl, hb⟩; have HR6 := Lib.hid (HR5.out.trans (hb.mono HR5.out.size)); obtain ⟨x60, x61, x62⟩ := (HVX.out.over HR6.out).cells; obtain ⟨y60, y61, y62⟩ := (HVY.out.over HR6.out).cells; clear hb))
    | (go_at_call 14; ((with_reducible refine (P4.out _).mono ?_); rintro e w7 ⟨rfl, hb⟩; have HR7 := Lib.hid (HR6.out.trans (hb.mono HR6.out.size)); obtain ⟨x70, x71, x72⟩ := (HVX.out.over HR7.out).cells; obtain ⟨y70, y71, y72⟩ := (HVY.out.over HR7.out).cells; clear hb)))
  obtain ⟨x0, x1, x2⟩ := (HVX.out.over HR7.out).cells
  obtain ⟨y0, y1, y2⟩ := (HVY.out.over HR7.out).cells
  have HR8 := Lib.hid (HR7.out.trans ((Below.refl w7.heap.size w7).drew.mono HR7.out.size))
  go_region_held3 (fun w' => w'.cell? ⟨q, 0, none⟩ = some (.int .i64 x.k) ∧ w'.cell? ⟨q, 1, none⟩ = some (.int .i64 x.n) ∧ w'.cell? ⟨q, 2, none⟩ = some (.string x.s) ∧ w'.cell? ⟨q + 1, 0, none⟩ = some (.int .i64 y.k) ∧ w'.cell? ⟨q + 1, 1, none⟩ = some (.int .i64 y.n) ∧ w'.cell? ⟨q + 1, 2, none⟩ = some (.string y.s)) (go_keep) (first | (go_at_call 15; ((with_reducible refine (P5.out _ (TT.out _ HR8.out) (TE.out _ HR8.out)).mono ?_); rintro e w11 ⟨rfl, hb⟩; have HR11 := Lib.hid (HR8.out.trans (hb.mono HR8.out.size)); obtain ⟨x110, x111, x112⟩ := (HVX.out.over HR11.out).cells; obtain ⟨y110, y111, y112⟩ := (HVY.out.over HR11.out).cells; clear hb)) | (go_at_call 16; ((with_reducible refine (P6.out _).mono ?_); rintro e w12 ⟨rfl, hb⟩; have HR12 := Lib.hid (HR11.out.trans (hb.mono HR11.out.size)); obtain ⟨x120, x121, x122⟩ := (HVX.out.over HR12.out).cells; obtain ⟨y120, y121, y122⟩ := (HVY.out.over HR12.out).cells; clear hb)) | (go_at_call 17; ((with_reducible refine (P7.out _).mono ?_); rintro e w13 ⟨rfl, hb⟩; have HR13 := Lib.hid (HR12.out.trans (hb.mono HR12.out.size)); obtain ⟨x130, x131, x132⟩ := (HVX.out.over HR13.out).cells; obtain ⟨y130, y131, y132⟩ := (HVY.out.over HR13.out).cells; clear hb)) | (go_at_call 18; ((with_reducible refine (P8.out _).mono ?_); rintro e w14 ⟨rfl, hb⟩; have HR14 := Lib.hid (HR13.out.trans (hb.mono HR13.out.size)); obtain ⟨x140, x141, x142⟩ := (HVX.out.over HR14.out).cells; obtain ⟨y140, y141, y142⟩ := (HVY.out.over HR14.out).cells; clear hb)) | (go_at_call 19; ((with_reducible refine (P9.out _ (TT.out _ HR14.out) (TE.out _ HR14.out)).mono ?_); rintro e w15 ⟨rfl, hb⟩; have HR15 := Lib.hid (HR14.out.trans (hb.mono HR14.out.size)); obtain ⟨x150, x151, x152⟩ := (HVX.out.over HR15.out).cells; obtain ⟨y150, y151, y152⟩ := (HVY.out.over HR15.out).cells; clear hb)) | (go_at_call 20; ((with_reducible refine (P10.out _).mono ?_); rintro e w16 ⟨rfl, hb⟩; have HR16 := Lib.hid (HR15.out.trans (hb.mono HR15.out.size)); obtain ⟨x160, x161, x162⟩ := (HVX.out.over HR16.out).cells; obtain ⟨y160, y161, y162⟩ := (HVY.out.over HR16.out).cells; clear hb)) | (go_at_call 10; ((with_reducible refine (HAW.out _ HR16.out).mono ?_); rintro e w20 ⟨rfl, hb⟩; have HR20 := Lib.hid (HR16.out.trans (hb.mono HR16.out.size)); obtain ⟨x200, x201, x202⟩ := (HVX.out.over HR20.out).cells; obtain ⟨y200, y201, y202⟩ := (HVY.out.over HR20.out).cells; clear hb)))
  all_goals go_wp2_with fail
  all_goals go_ret
  all_goals exact ⟨rfl, HB.out.trans (HR20.out.mono HB.out.size)⟩
theorem valAll_any (kind : Int) (x y : Vl) (x0 : -9223372036854775808 ≤ x.n) (x1 : x.n ≤ 9223372036854775807) (y0 : -9223372036854775808 ≤ y.n) (y1 : y.n ≤ 9223372036854775807) (w : World) (ht : Tab w) (he : EtV w) :
    Calls Tryd.prog 3 #[.int .i64 kind, .agg #[.int .i64 x.k, .int .i64 x.n, .string x.s], .agg #[.int .i64 y.k, .int .i64 y.n, .string y.s]] w fun e w' => e = .returned (.bool true) ∧ Below w.heap.size w w' := by
  by_cases h1 : 300 < x.s.size
  · exact valAll_far1 kind x y h1 w ht he
  by_cases h2 : 300 < y.s.size
  · exact valAll_far2 kind x y h1 h2 w ht he
  by_cases mx : mayV x = true
  · by_cases my : mayV y = true
    · exact valAll_main kind x y h1 h2 mx my ⟨x0, x1, by omega⟩ ⟨y0, y1, by omega⟩ w ht he
    · exact valAll_far4 kind x y h1 h2 mx (by simpa using my) w ht he
  · exact valAll_far3 kind x y h1 h2 (by simpa using mx) w ht he
end Go.Proofs.YtgnandbokgfeiaaDoor
