/-
  Layer 7, the law: errors come through.
-/
import Derived.Test.YtgnandbokgfeiaaDoorVaT
import Derived.Deep.DeepCutAuto
namespace Go.Proofs.YtgnandbokgfeiaaDoor
open Go.RowKit

theorem vl_open3 (w : World) (x y z : Vl) : VlAt (((w.alloc (.cells #[.int .i64 x.k, .int .i64 x.n, .string x.s] 23)).alloc (.cells #[.int .i64 y.k, .int .i64 y.n, .string y.s] 23)).alloc (.cells #[.int .i64 z.k, .int .i64 z.n, .string z.s] 23)) w.heap.size x ∧ VlAt (((w.alloc (.cells #[.int .i64 x.k, .int .i64 x.n, .string x.s] 23)).alloc (.cells #[.int .i64 y.k, .int .i64 y.n, .string y.s] 23)).alloc (.cells #[.int .i64 z.k, .int .i64 z.n, .string z.s] 23)) (w.heap.size + 1) y ∧ VlAt (((w.alloc (.cells #[.int .i64 x.k, .int .i64 x.n, .string x.s] 23)).alloc (.cells #[.int .i64 y.k, .int .i64 y.n, .string y.s] 23)).alloc (.cells #[.int .i64 z.k, .int .i64 z.n, .string z.s] 23)) (w.heap.size + 1 + 1) z ∧ Below w.heap.size w (((w.alloc (.cells #[.int .i64 x.k, .int .i64 x.n, .string x.s] 23)).alloc (.cells #[.int .i64 y.k, .int .i64 y.n, .string y.s] 23)).alloc (.cells #[.int .i64 z.k, .int .i64 z.n, .string z.s] 23)) := by
  have b1 := below_vl w x
  have b2 := below_vl (w.alloc (.cells #[.int .i64 x.k, .int .i64 x.n, .string x.s] 23)) y
  have b3 := below_vl ((w.alloc (.cells #[.int .i64 x.k, .int .i64 x.n, .string x.s] 23)).alloc (.cells #[.int .i64 y.k, .int .i64 y.n, .string y.s] 23)) z
  have h2 := (VlAt.new (w.alloc (.cells #[.int .i64 x.k, .int .i64 x.n, .string x.s] 23)) y).over b3
  have h3 := VlAt.new ((w.alloc (.cells #[.int .i64 x.k, .int .i64 x.n, .string x.s] 23)).alloc (.cells #[.int .i64 y.k, .int .i64 y.n, .string y.s] 23)) z
  rw [World.size_alloc] at h2
  rw [World.size_alloc, World.size_alloc] at h3
  exact ⟨((VlAt.new w x).over b2).over b3, h2, h3, (b1.trans (b2.mono b1.size)).trans (b3.mono (b1.trans (b2.mono b1.size)).size)⟩
set_option maxRecDepth 100000 in
set_option maxHeartbeats 1600000 in
theorem valErrors_any (op e f k n : Int) (o0 : 0 ≤ op) (o1 : op ≤ 255) (e0 : 0 ≤ e) (e1 : e ≤ 255) (f0 : 0 ≤ f) (f1 : f ≤ 255) (k0 : 0 ≤ k) (_k1 : k ≤ 255) (n0 : -9223372036854775808 ≤ n) (n1 : n ≤ 9223372036854775807) (w : World) (ht : Tab w) (he : EtV w) :
    Calls Tryd.prog 7 #[.int .u8 op, .int .u8 e, .int .u8 f, .int .u8 k, .int .i64 n] w fun e w' => e = .returned (.bool true) ∧ Below w.heap.size w w' := by
  have hx := make_any 4 e ⟨#[]⟩ (by decide) (by decide)
  have hy := make_any 4 f ⟨#[]⟩ (by decide) (by decide)
  have hz := make_any (k % 4) n ⟨#[116]⟩ (by omega) (by omega)
  have xk : (makeV (4 % 5) e ⟨#[]⟩).k = 4 := rfl
  have yk : (makeV (4 % 5) f ⟨#[]⟩).k = 4 := rfl
  have zk : ¬ (makeV (k % 4 % 5) n ⟨#[116]⟩).k = 4 := by
    exact makeV_k _ _ _ (by omega)
  have xo := ok_make (4 % 5) e ⟨#[]⟩ (by omega) (by omega)
  have yo := ok_make (4 % 5) f ⟨#[]⟩ (by omega) (by omega)
  have zo := ok_make (k % 4 % 5) n ⟨#[116]⟩ n0 n1
  generalize makeV (4 % 5) e ⟨#[]⟩ = x at hx xk xo
  generalize makeV (4 % 5) f ⟨#[]⟩ = y at hy yk yo
  generalize makeV (k % 4 % 5) n ⟨#[116]⟩ = z at hz zk zo
  have r1 : IntKind.u8.wrap (Int.tmod k 4) = k % 4 := by rw [Int.tmod_eq_emod_of_nonneg k0, IntKind.wrap_u8]; omega
  have r2 : IntKind.i64.wrap (Int.tmod op 11) = op % 11 := by rw [Int.tmod_eq_emod_of_nonneg o0, IntKind.wrap_i64]; omega
  have r3 : IntKind.i64.wrap (9 + op % 11) = 9 + op % 11 := by rw [IntKind.wrap_i64]; omega
  have r4 : Int.tmod op 11 = op % 11 := Int.tmod_eq_emod_of_nonneg o0
  have r5 : Int.tmod k 4 = k % 4 := Int.tmod_eq_emod_of_nonneg k0
  have r6 : IntKind.i64.wrap e = e := by rw [IntKind.wrap_i64]; omega
  have r7 : IntKind.i64.wrap f = f := by rw [IntKind.wrap_i64]; omega
  have s1 : wrap64 op = op := by unfold wrap64; omega
  have s2 : wrap64 (9 + op % 11) = 9 + op % 11 := by unfold wrap64; omega
  have s3 : wrap64 (op % 11) = op % 11 := by unfold wrap64; omega
  have s4 : IntKind.i64.wrap op = op := by rw [IntKind.wrap_i64]; omega
  have HX := Lib.hid hx; have HY := Lib.hid hy; have HZ := Lib.hid hz
  have h1 := two_any (9 + op % 11) x y xo yo
  have h2 := two_any (9 + op % 11) x z xo zo
  have h3 := two_any (9 + op % 11) z y zo yo
  have h4 := neg_any x xo
  rw [show twoV (9 + op % 11) x y = x from by unfold twoV; rw [if_pos xk]] at h1
  rw [show twoV (9 + op % 11) x z = x from by unfold twoV; rw [if_pos xk]] at h2
  rw [show twoV (9 + op % 11) z y = y from by unfold twoV; rw [if_neg zk, if_pos yk]] at h3
  rw [show negV x = x from by unfold negV; rw [if_pos xk]] at h4
  obtain ⟨X, hX⟩ := Cmp.mk x
  obtain ⟨Y, hY⟩ := Cmp.mk y
  have fx := hX.self
  have fy := hY.self
  have gx := fun a b w => hX.guard a b #[.int .i64 x.k, .int .i64 x.n, .string x.s] w
  have gy := fun a b w => hY.guard a b #[.int .i64 y.k, .int .i64 y.n, .string y.s] w
  have H1 := Lib.hid (fun w ht he => hX.calls (h1 w ht he)); have H2 := Lib.hid (fun w ht he => hX.calls (h2 w ht he)); have H3 := Lib.hid (fun w ht he => hY.calls (h3 w ht he)); have H4 := Lib.hid (fun w => hX.calls (h4 w))
  have HT := Lib.hid ht; have HE := Lib.hid he
  clear hx hy hz xk yk zk xo yo zo h1 h2 h3 h4 hX hY ht he o0 o1 e0 e1 f0 f1 k0 n0 n1
  go_enter Tryd.func7, Tryd.ntmps7
  go_upto_region 2 with (first
    | (go_at_call 21; ((with_reducible refine (HX.out _).mono ?_); rintro e w2 ⟨rfl, hb⟩; have HB2 := Lib.hid (hb); clear hb))
    | (go_at_call 21; ((with_reducible refine (HY.out _).mono ?_); rintro e w3 ⟨rfl, hb⟩; have HB3 := Lib.hid (HB2.out.trans (hb.mono HB2.out.size)); clear hb))
    | (go_at_call 21; ((with_reducible refine (HZ.out _).mono ?_); rintro e w4 ⟨rfl, hb⟩; have HB4 := Lib.hid (HB3.out.trans (hb.mono HB3.out.size)); clear hb)))
  obtain ⟨q1, q2, q3, q4⟩ := vl_open3 w4 x y z
  have HVX := Lib.hid q1; have HVY := Lib.hid q2; have HVZ := Lib.hid q3
  have HB5 := Lib.hid (HB4.out.trans (q4.mono HB4.out.size))
  clear q1 q2 q3 q4
  obtain ⟨q, hq⟩ : ∃ q, w4.heap.size = q := ⟨_, rfl⟩
  obtain ⟨w5, hw5⟩ : ∃ w5, (((w4.alloc (.cells #[.int .i64 x.k, .int .i64 x.n, .string x.s] 23)).alloc (.cells #[.int .i64 y.k, .int .i64 y.n, .string y.s] 23)).alloc (.cells #[.int .i64 z.k, .int .i64 z.n, .string z.s] 23)) = w5 := ⟨_, rfl⟩
  rw [hw5] at HVX HVY HVZ HB5 ⊢
  rw [hq] at HVX HVY HVZ ⊢
  clear hq hw5 HX HY HZ HB2 HB3 HB4
  go_upto_region 3 with fail
  obtain ⟨x0, x1, x2⟩ := HVX.out.cells
  obtain ⟨y0, y1, y2⟩ := HVY.out.cells
  obtain ⟨z0, z1, z2⟩ := HVZ.out.cells
  have HAW := Lib.hid (fun (wr : World) (hr : Below w5.heap.size w5 wr) => awake7_any wr (HT.out.below (HB5.out.trans (hr.mono HB5.out.size))) (HE.out.below (HB5.out.trans (hr.mono HB5.out.size))))
  have H1 := Lib.hid (fun (wr : World) (hr : Below w5.heap.size w5 wr) => H1.out wr (HT.out.below (HB5.out.trans (hr.mono HB5.out.size))) (HE.out.below (HB5.out.trans (hr.mono HB5.out.size))))
  have H2 := Lib.hid (fun (wr : World) (hr : Below w5.heap.size w5 wr) => H2.out wr (HT.out.below (HB5.out.trans (hr.mono HB5.out.size))) (HE.out.below (HB5.out.trans (hr.mono HB5.out.size))))
  have H3 := Lib.hid (fun (wr : World) (hr : Below w5.heap.size w5 wr) => H3.out wr (HT.out.below (HB5.out.trans (hr.mono HB5.out.size))) (HE.out.below (HB5.out.trans (hr.mono HB5.out.size))))
  have HR := Lib.hid ((Below.refl w5.heap.size w5).drew)
  clear HT HE r1 r2 r3 r4 r5 r6 r7 s1 s2 s3 s4
  go_region_held3 (fun w' => w'.cell? ⟨q, 0, none⟩ = some (.int .i64 x.k) ∧ w'.cell? ⟨q, 1, none⟩ = some (.int .i64 x.n) ∧ w'.cell? ⟨q, 2, none⟩ = some (.string x.s) ∧ w'.cell? ⟨q + 1, 0, none⟩ = some (.int .i64 y.k) ∧ w'.cell? ⟨q + 1, 1, none⟩ = some (.int .i64 y.n) ∧ w'.cell? ⟨q + 1, 2, none⟩ = some (.string y.s) ∧ w'.cell? ⟨q + 1 + 1, 0, none⟩ = some (.int .i64 z.k) ∧ w'.cell? ⟨q + 1 + 1, 1, none⟩ = some (.int .i64 z.n) ∧ w'.cell? ⟨q + 1 + 1, 2, none⟩ = some (.string z.s)) (go_keep) (first | (go_at_call 19; ((with_reducible refine (H1.out _ HR.out).mono ?_); rintro e w6 ⟨rfl, hb⟩; have HR6 := Lib.hid (HR.out.trans (hb.mono HR.out.size)); obtain ⟨x60, x61, x62⟩ := (HVX.out.over HR6.out).cells; obtain ⟨y60, y61, y62⟩ := (HVY.out.over HR6.out).cells; obtain ⟨z60, z61, z62⟩ := (HVZ.out.over HR6.out).cells; clear hb)) | (go_at_call 19; ((with_reducible refine (H2.out _ HR6.out).mono ?_); rintro e w7 ⟨rfl, hb⟩; have HR7 := Lib.hid (HR6.out.trans (hb.mono HR6.out.size)); obtain ⟨x70, x71, x72⟩ := (HVX.out.over HR7.out).cells; obtain ⟨y70, y71, y72⟩ := (HVY.out.over HR7.out).cells; obtain ⟨z70, z71, z72⟩ := (HVZ.out.over HR7.out).cells; clear hb)) | (go_at_call 19; ((with_reducible refine (H3.out _ HR7.out).mono ?_); rintro e w8 ⟨rfl, hb⟩; have HR8 := Lib.hid (HR7.out.trans (hb.mono HR7.out.size)); obtain ⟨x80, x81, x82⟩ := (HVX.out.over HR8.out).cells; obtain ⟨y80, y81, y82⟩ := (HVY.out.over HR8.out).cells; obtain ⟨z80, z81, z82⟩ := (HVZ.out.over HR8.out).cells; clear hb)) | (go_at_call 17; ((with_reducible refine (H4.out _).mono ?_); rintro e w9 ⟨rfl, hb⟩; have HR9 := Lib.hid (HR8.out.trans (hb.mono HR8.out.size)); obtain ⟨x90, x91, x92⟩ := (HVX.out.over HR9.out).cells; obtain ⟨y90, y91, y92⟩ := (HVY.out.over HR9.out).cells; obtain ⟨z90, z91, z92⟩ := (HVZ.out.over HR9.out).cells; clear hb)) | (go_at_call 10; ((with_reducible refine (HAW.out _ HR9.out).mono ?_); rintro e w10 ⟨rfl, hb⟩; have HR10 := Lib.hid (HR9.out.trans (hb.mono HR9.out.size)); obtain ⟨x100, x101, x102⟩ := (HVX.out.over HR10.out).cells; obtain ⟨y100, y101, y102⟩ := (HVY.out.over HR10.out).cells; obtain ⟨z100, z101, z102⟩ := (HVZ.out.over HR10.out).cells; clear hb)))
  all_goals go_wp2_with fail
  all_goals go_ret
  all_goals exact ⟨rfl, HB5.out.trans (HR10.out.mono HB5.out.size)⟩
end Go.Proofs.YtgnandbokgfeiaaDoor
