/-
  Layer 7, the law: all operations on values by numbers.
-/
import Derived.Test.YtgnandbokgfeiaaDoorVrF
import Derived.Test.YtgnandbokgfeiaaDoorVaM
import Derived.Deep.DeepCutAuto
namespace Go.Proofs.YtgnandbokgfeiaaDoor
open Go.RowKit

set_option maxRecDepth 100000 in
set_option maxHeartbeats 1600000 in
theorem valOps_far (op k l a b : Int) (s t : ByteArray) (h : 300 < s.size ∨ 300 < t.size) (w : World) (ht : Tab w) (he : EtV w) :
    Calls Tryd.prog 4 #[.int .u8 op, .int .u8 k, .int .u8 l, .int .i64 a, .int .i64 b, .string s, .string t] w fun e w' => e = .returned (.bool true) ∧ Below w.heap.size w w' := by
  have HA := Lib.hid (awake7_any w ht he)
  clear ht he
  by_cases h1 : 300 < s.size
  · have h2 : (300 : Int) < (s.size : Int) := by omega
    clear h h1
    go_enter Tryd.func4, Tryd.ntmps4
    go_wp2_with (go_at_call 10; ((with_reducible refine HA.out.mono ?_); rintro e w2 ⟨rfl, hb⟩; have HB := Lib.hid hb; clear hb))
    go_ret
    exact ⟨rfl, HB.out⟩
  · have h2 : ¬ (300 : Int) < (s.size : Int) := by omega
    have h3 : (300 : Int) < (t.size : Int) := by omega
    clear h h1
    go_enter Tryd.func4, Tryd.ntmps4
    go_wp2_with (go_at_call 10; ((with_reducible refine HA.out.mono ?_); rintro e w2 ⟨rfl, hb⟩; have HB := Lib.hid hb; clear hb))
    go_ret
    exact ⟨rfl, HB.out⟩
set_option maxRecDepth 100000 in
set_option maxHeartbeats 1600000 in
theorem valOps_main (op k l a b : Int) (s t : ByteArray) (o0 : 0 ≤ op) (o1 : op ≤ 255) (k0 : 0 ≤ k) (k1 : k ≤ 255) (l0 : 0 ≤ l) (l1 : l ≤ 255) (a0 : -9223372036854775808 ≤ a) (a1 : a ≤ 9223372036854775807) (b0 : -9223372036854775808 ≤ b) (b1 : b ≤ 9223372036854775807) (hs : s.size ≤ 300) (htz : t.size ≤ 300) (w : World) (ht : Tab w) (he : EtV w) :
    Calls Tryd.prog 4 #[.int .u8 op, .int .u8 k, .int .u8 l, .int .i64 a, .int .i64 b, .string s, .string t] w fun e w' => e = .returned (.bool true) ∧ Below w.heap.size w w' := by
  have hx := make_any k a s k0 k1
  have hy := make_any l b t l0 l1
  have mx := may_make (k % 5) a s
  have mY := may_make (l % 5) b t
  have ox := ok_make (k % 5) a s a0 a1
  have oy := ok_make (l % 5) b t b0 b1
  generalize makeV (k % 5) a s = x at hx mx ox
  generalize makeV (l % 5) b t = y at hy mY oy
  have h1 := two_any (9 + op % 11) x y ox oy
  have h2 := rtwo_any (9 + op % 11) x y mx mY ox oy
  have mv := may_two (9 + op % 11) x y mx mY
  generalize twoV (9 + op % 11) x y = v at h1 h2 mv
  have h3 := rmay_any v
  rw [mv] at h3
  have h4 := neg_any x ox
  have mn := may_neg x mx
  generalize negV x = u at h4 mn
  have h5 := rmay_any u
  rw [mn] at h5
  have r2 : IntKind.i64.wrap (Int.tmod op 11) = op % 11 := by rw [Int.tmod_eq_emod_of_nonneg o0, IntKind.wrap_i64]; omega
  have r4 : Int.tmod op 11 = op % 11 := Int.tmod_eq_emod_of_nonneg o0
  have s1 : wrap64 op = op := by unfold wrap64; omega
  have s2 : wrap64 (9 + op % 11) = 9 + op % 11 := by unfold wrap64; omega
  have s3 : wrap64 (op % 11) = op % 11 := by unfold wrap64; omega
  have s4 : IntKind.i64.wrap op = op := by rw [IntKind.wrap_i64]; omega
  have s5 : IntKind.i64.wrap (9 + op % 11) = 9 + op % 11 := by rw [IntKind.wrap_i64]; omega
  have z1 : ¬ (300 : Int) < (s.size : Int) := by omega
  have z2 : ¬ (300 : Int) < (t.size : Int) := by omega
  obtain ⟨kd, hkd⟩ : ∃ kd, 9 + op % 11 = kd := ⟨_, rfl⟩
  rw [hkd] at h1 h2
  have HKD := Lib.hid hkd
  have HX := Lib.hid hx; have HY := Lib.hid hy
  have H1 := Lib.hid h1; have H2 := Lib.hid h2; have H3 := Lib.hid h3; have H4 := Lib.hid h4; have H5 := Lib.hid h5
  have HT := Lib.hid ht; have HE := Lib.hid he
  clear hx hy mx mY ox oy h1 h2 h3 h4 h5 mv mn ht he o0 o1 k0 k1 l0 l1 a0 a1 b0 b1 hs htz hkd
  go_enter Tryd.func4, Tryd.ntmps4
  go_upto_region 4 with (first
    | (go_at_call 21; ((with_reducible refine (HX.out _).mono ?_); rintro e w2 ⟨rfl, hb⟩; have HB2 := Lib.hid (hb); clear hb))
    | (go_at_call 21; ((with_reducible refine (HY.out _).mono ?_); rintro e w3 ⟨rfl, hb⟩; have HB3 := Lib.hid (HB2.out.trans (hb.mono HB2.out.size)); clear hb)))
  obtain ⟨q1, q2, q4⟩ := vl_pair w3 x y
  have HVX := Lib.hid q1; have HVY := Lib.hid q2
  have HB4 := Lib.hid (HB3.out.trans (q4.mono HB3.out.size))
  clear q1 q2 q4
  obtain ⟨q, hq⟩ : ∃ q, w3.heap.size = q := ⟨_, rfl⟩
  obtain ⟨w4, hw4⟩ : ∃ w4, ((w3.alloc (.cells #[.int .i64 x.k, .int .i64 x.n, .string x.s] 23)).alloc (.cells #[.int .i64 y.k, .int .i64 y.n, .string y.s] 23)) = w4 := ⟨_, rfl⟩
  rw [hw4] at HVX HVY HB4 ⊢
  rw [hq] at HVX HVY ⊢
  clear hq hw4 HX HY HB2 HB3
  obtain ⟨x0, x1, x2⟩ := HVX.out.cells
  obtain ⟨y0, y1, y2⟩ := HVY.out.cells
  go_upto_region 5 with fail
  rw [HKD.out]
  go_upto_region 6 with (go_at_call 19; ((with_reducible refine (H1.out _ (HT.out.below HB4.out) (HE.out.below HB4.out)).mono ?_); rintro e w6 ⟨rfl, hb⟩; have HB6 := Lib.hid (HB4.out.trans (hb.mono HB4.out.size)); have HVX6 := Lib.hid (HVX.out.over hb); have HVY6 := Lib.hid (HVY.out.over hb); clear hb))
  have HVV := Lib.hid (VlAt.new w6 v)
  have hbv := below_vl w6 v
  have HVX := Lib.hid (HVX6.out.over hbv); have HVY := Lib.hid (HVY6.out.over hbv)
  have HB7 := Lib.hid (HB6.out.trans (hbv.mono HB6.out.size))
  clear hbv
  obtain ⟨r, hr⟩ : ∃ r, w6.heap.size = r := ⟨_, rfl⟩
  obtain ⟨w5, hw5⟩ : ∃ w5, w6.alloc (.cells #[.int .i64 v.k, .int .i64 v.n, .string v.s] 23) = w5 := ⟨_, rfl⟩
  rw [hw5] at HVV HVX HVY HB7 ⊢
  rw [hr] at HVV ⊢
  clear hr hw5 HB6 HB4 HVX6 HVY6 x0 x1 x2 y0 y1 y2 H1
  obtain ⟨x0, x1, x2⟩ := HVX.out.cells
  obtain ⟨y0, y1, y2⟩ := HVY.out.cells
  obtain ⟨v0, v1, v2⟩ := HVV.out.cells
  have TT := Lib.hid (fun (wr : World) (hr : Below w5.heap.size w5 wr) => HT.out.below (HB7.out.trans (hr.mono HB7.out.size)))
  have TE := Lib.hid (fun (wr : World) (hr : Below w5.heap.size w5 wr) => HE.out.below (HB7.out.trans (hr.mono HB7.out.size)))
  have HAW := Lib.hid (fun (wr : World) (hr : Below w5.heap.size w5 wr) => awake7_any wr (TT.out wr hr) (TE.out wr hr))
  have HR := Lib.hid ((Below.refl w5.heap.size w5).drew)
  clear HT HE r2 r4 s1 s2 s3 s4 s5 z1 z2
  go_region_held3 (fun w' => w'.cell? ⟨q, 0, none⟩ = some (.int .i64 x.k) ∧ w'.cell? ⟨q, 1, none⟩ = some (.int .i64 x.n) ∧ w'.cell? ⟨q, 2, none⟩ = some (.string x.s) ∧ w'.cell? ⟨q + 1, 0, none⟩ = some (.int .i64 y.k) ∧ w'.cell? ⟨q + 1, 1, none⟩ = some (.int .i64 y.n) ∧ w'.cell? ⟨q + 1, 2, none⟩ = some (.string y.s) ∧ w'.cell? ⟨r, 0, none⟩ = some (.int .i64 v.k) ∧ w'.cell? ⟨r, 1, none⟩ = some (.int .i64 v.n) ∧ w'.cell? ⟨r, 2, none⟩ = some (.string v.s)) (go_keep) (first | (go_at_call 20; ((with_reducible refine (H2.out _).mono ?_); rintro e w11 ⟨rfl, hb⟩; have HR11 := Lib.hid (HR.out.trans (hb.mono HR.out.size)); obtain ⟨x110, x111, x112⟩ := (HVX.out.over HR11.out).cells; obtain ⟨y110, y111, y112⟩ := (HVY.out.over HR11.out).cells; obtain ⟨v110, v111, v112⟩ := (HVV.out.over HR11.out).cells; clear hb)) | (go_at_call 9; ((with_reducible refine (H3.out _).mono ?_); rintro e w12 ⟨rfl, hb⟩; have HR12 := Lib.hid (HR11.out.trans (hb.mono HR11.out.size)); obtain ⟨x120, x121, x122⟩ := (HVX.out.over HR12.out).cells; obtain ⟨y120, y121, y122⟩ := (HVY.out.over HR12.out).cells; obtain ⟨v120, v121, v122⟩ := (HVV.out.over HR12.out).cells; clear hb)) | (go_at_call 17; ((with_reducible refine (H4.out _).mono ?_); rintro e w13 ⟨rfl, hb⟩; have HR13 := Lib.hid (HR12.out.trans (hb.mono HR12.out.size)); obtain ⟨x130, x131, x132⟩ := (HVX.out.over HR13.out).cells; obtain ⟨y130, y131, y132⟩ := (HVY.out.over HR13.out).cells; obtain ⟨v130, v131, v132⟩ := (HVV.out.over HR13.out).cells; clear hb)) | (go_at_call 9; ((with_reducible refine (H5.out _).mono ?_); rintro e w14 ⟨rfl, hb⟩; have HR14 := Lib.hid (HR13.out.trans (hb.mono HR13.out.size)); obtain ⟨x140, x141, x142⟩ := (HVX.out.over HR14.out).cells; obtain ⟨y140, y141, y142⟩ := (HVY.out.over HR14.out).cells; obtain ⟨v140, v141, v142⟩ := (HVV.out.over HR14.out).cells; clear hb)) | (go_at_call 10; ((with_reducible refine (HAW.out _ HR14.out).mono ?_); rintro e w15 ⟨rfl, hb⟩; have HR15 := Lib.hid (HR14.out.trans (hb.mono HR14.out.size)); obtain ⟨x150, x151, x152⟩ := (HVX.out.over HR15.out).cells; obtain ⟨y150, y151, y152⟩ := (HVY.out.over HR15.out).cells; obtain ⟨v150, v151, v152⟩ := (HVV.out.over HR15.out).cells; clear hb)))
  all_goals go_wp2_with fail
  all_goals go_ret
  all_goals exact ⟨rfl, HB7.out.trans (HR15.out.mono HB7.out.size)⟩
theorem valOps_any (op k l a b : Int) (s t : ByteArray) (o0 : 0 ≤ op) (o1 : op ≤ 255) (k0 : 0 ≤ k) (k1 : k ≤ 255) (l0 : 0 ≤ l) (l1 : l ≤ 255) (a0 : -9223372036854775808 ≤ a) (a1 : a ≤ 9223372036854775807) (b0 : -9223372036854775808 ≤ b) (b1 : b ≤ 9223372036854775807) (w : World) (ht : Tab w) (he : EtV w) :
    Calls Tryd.prog 4 #[.int .u8 op, .int .u8 k, .int .u8 l, .int .i64 a, .int .i64 b, .string s, .string t] w fun e w' => e = .returned (.bool true) ∧ Below w.heap.size w w' := by
  by_cases h : 300 < s.size ∨ 300 < t.size
  · exact valOps_far op k l a b s t h w ht he
  · exact valOps_main op k l a b s t o0 o1 k0 k1 l0 l1 a0 a1 b0 b1 (by omega) (by omega) w ht he
end Go.Proofs.YtgnandbokgfeiaaDoor
