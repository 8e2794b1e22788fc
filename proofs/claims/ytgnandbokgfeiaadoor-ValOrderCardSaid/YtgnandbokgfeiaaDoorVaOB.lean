/-
  Layer 7, the law: comparisons are an order: above.
-/
import Derived.Test.YtgnandbokgfeiaaDoorVaO
namespace Go.Proofs.YtgnandbokgfeiaaDoor
open Go.RowKit

set_option maxRecDepth 100000 in
set_option maxHeartbeats 1600000 in
theorem valOrder_b1 (k l m a b c : Int) (s t u : ByteArray) (k0 : 0 ≤ k) (l0 : 0 ≤ l) (m0 : 0 ≤ m) (g0 : ¬ 300 < s.size) (g1 : ¬ 300 < t.size) (g2 : ¬ 300 < u.size) (g3 : ¬ k % 5 = 4) (g4 : ¬ l % 5 = 4) (g5 : ¬ m % 5 = 4) (g6 : ¬ k % 5 = 0) (g7 : ¬ l % 5 = 0) (g8 : ¬ m % 5 = 0) (x y z : Vl)
    (hx : ∀ w : World, Calls Tryd.prog 21 #[.int .u8 k, .int .i64 a, .string s] w fun e w' => e = .returned (.agg #[.int .i64 x.k, .int .i64 x.n, .string x.s]) ∧ Below w.heap.size w w') (hy : ∀ w : World, Calls Tryd.prog 21 #[.int .u8 l, .int .i64 b, .string t] w fun e w' => e = .returned (.agg #[.int .i64 y.k, .int .i64 y.n, .string y.s]) ∧ Below w.heap.size w w') (hz : ∀ w : World, Calls Tryd.prog 21 #[.int .u8 m, .int .i64 c, .string u] w fun e w' => e = .returned (.agg #[.int .i64 z.k, .int .i64 z.n, .string z.s]) ∧ Below w.heap.size w w')
    (hlt : ∀ w : World, Tab w → EtV w → Calls Tryd.prog 19 #[.int .i64 11, .agg #[.int .i64 x.k, .int .i64 x.n, .string x.s], .agg #[.int .i64 y.k, .int .i64 y.n, .string y.s]] w fun e w' => e = .returned (.agg #[.int .i64 3, .int .i64 0, .string ⟨#[]⟩]) ∧ Below w.heap.size w w') (hgt : ∀ w : World, Tab w → EtV w → Calls Tryd.prog 19 #[.int .i64 13, .agg #[.int .i64 x.k, .int .i64 x.n, .string x.s], .agg #[.int .i64 y.k, .int .i64 y.n, .string y.s]] w fun e w' => e = .returned (.agg #[.int .i64 3, .int .i64 1, .string ⟨#[]⟩]) ∧ Below w.heap.size w w') (heq : ∀ w : World, Tab w → EtV w → Calls Tryd.prog 19 #[.int .i64 9, .agg #[.int .i64 x.k, .int .i64 x.n, .string x.s], .agg #[.int .i64 y.k, .int .i64 y.n, .string y.s]] w fun e w' => e = .returned (.agg #[.int .i64 3, .int .i64 0, .string ⟨#[]⟩]) ∧ Below w.heap.size w w') (hle : ∀ w : World, Tab w → EtV w → Calls Tryd.prog 19 #[.int .i64 12, .agg #[.int .i64 x.k, .int .i64 x.n, .string x.s], .agg #[.int .i64 y.k, .int .i64 y.n, .string y.s]] w fun e w' => e = .returned (.agg #[.int .i64 3, .int .i64 0, .string ⟨#[]⟩]) ∧ Below w.heap.size w w') (hge : ∀ w : World, Tab w → EtV w → Calls Tryd.prog 19 #[.int .i64 14, .agg #[.int .i64 x.k, .int .i64 x.n, .string x.s], .agg #[.int .i64 y.k, .int .i64 y.n, .string y.s]] w fun e w' => e = .returned (.agg #[.int .i64 3, .int .i64 1, .string ⟨#[]⟩]) ∧ Below w.heap.size w w') (hne : ∀ w : World, Tab w → EtV w → Calls Tryd.prog 19 #[.int .i64 10, .agg #[.int .i64 x.k, .int .i64 x.n, .string x.s], .agg #[.int .i64 y.k, .int .i64 y.n, .string y.s]] w fun e w' => e = .returned (.agg #[.int .i64 3, .int .i64 1, .string ⟨#[]⟩]) ∧ Below w.heap.size w w') (hfl : ∀ w : World, Tab w → EtV w → Calls Tryd.prog 19 #[.int .i64 13, .agg #[.int .i64 y.k, .int .i64 y.n, .string y.s], .agg #[.int .i64 x.k, .int .i64 x.n, .string x.s]] w fun e w' => e = .returned (.agg #[.int .i64 3, .int .i64 0, .string ⟨#[]⟩]) ∧ Below w.heap.size w w') (hon : ∀ w : World, Tab w → EtV w → Calls Tryd.prog 19 #[.int .i64 12, .agg #[.int .i64 y.k, .int .i64 y.n, .string y.s], .agg #[.int .i64 z.k, .int .i64 z.n, .string z.s]] w fun e w' => e = .returned (.agg #[.int .i64 3, .int .i64 1, .string ⟨#[]⟩]) ∧ Below w.heap.size w w') (w : World) (ht : Tab w) (he : EtV w) :
    Calls Tryd.prog 6 #[.int .u8 k, .int .u8 l, .int .u8 m, .int .i64 a, .int .i64 b, .int .i64 c, .string s, .string t, .string u] w fun e w' => e = .returned (.bool true) ∧ Below w.heap.size w w' := by
  have rk : IntKind.u8.wrap (Int.tmod k 5) = k % 5 := by rw [Int.tmod_eq_emod_of_nonneg k0, IntKind.wrap_u8]; omega
  have qk : Int.tmod k 5 = k % 5 := Int.tmod_eq_emod_of_nonneg k0
  have rl : IntKind.u8.wrap (Int.tmod l 5) = l % 5 := by rw [Int.tmod_eq_emod_of_nonneg l0, IntKind.wrap_u8]; omega
  have ql : Int.tmod l 5 = l % 5 := Int.tmod_eq_emod_of_nonneg l0
  have rm : IntKind.u8.wrap (Int.tmod m 5) = m % 5 := by rw [Int.tmod_eq_emod_of_nonneg m0, IntKind.wrap_u8]; omega
  have qm : Int.tmod m 5 = m % 5 := Int.tmod_eq_emod_of_nonneg m0
  have z0 : ¬ (300 : Int) < (s.size : Int) := by omega
  have z1 : ¬ (300 : Int) < (t.size : Int) := by omega
  have z2 : ¬ (300 : Int) < (u.size : Int) := by omega
  have z3 : (k % 5 == 4) = false := beq_eq_false_iff_ne.2 g3
  have z4 : (l % 5 == 4) = false := beq_eq_false_iff_ne.2 g4
  have z5 : (m % 5 == 4) = false := beq_eq_false_iff_ne.2 g5
  have z6 : (k % 5 == 0) = false := beq_eq_false_iff_ne.2 g6
  have z7 : (l % 5 == 0) = false := beq_eq_false_iff_ne.2 g7
  have z8 : (m % 5 == 0) = false := beq_eq_false_iff_ne.2 g8
  have HX := Lib.hid hx; have HY := Lib.hid hy; have HZ := Lib.hid hz
  have HLT := Lib.hid hlt; have HGT := Lib.hid hgt; have HEQ := Lib.hid heq; have HLE := Lib.hid hle; have HGE := Lib.hid hge; have HNE := Lib.hid hne; have HFL := Lib.hid hfl; have HON := Lib.hid hon
  have HT := Lib.hid ht; have HE := Lib.hid he
  clear hx hy hz hlt hgt heq hle hge hne hfl hon ht he g0 g1 g2 g3 g4 g5 g6 g7 g8 k0 l0 m0
  go_enter Tryd.func6, Tryd.ntmps6
  go_upto_region 4 with (first
    | (go_at_call 21; ((with_reducible refine (HX.out _).mono ?_); rintro e w2 ⟨rfl, hb⟩; have HB2 := Lib.hid (hb); clear hb))
    | (go_at_call 21; ((with_reducible refine (HY.out _).mono ?_); rintro e w3 ⟨rfl, hb⟩; have HB3 := Lib.hid (HB2.out.trans (hb.mono HB2.out.size)); clear hb))
    | (go_at_call 21; ((with_reducible refine (HZ.out _).mono ?_); rintro e w4 ⟨rfl, hb⟩; have HB4 := Lib.hid (HB3.out.trans (hb.mono HB3.out.size)); clear hb)))
  obtain ⟨q1, q2, q3, q4⟩ := vl_open3 w4 x y z
  have HVX := Lib.hid q1; have HVY := Lib.hid q2; have HVZ := Lib.hid q3
  have HB5 := Lib.hid (HB4.out.trans (q4.mono HB4.out.size))
  clear q1 q2 q3 q4
  obtain ⟨q, hq⟩ : ∃ q, w4.heap.size = q := ⟨_, rfl⟩
  obtain ⟨w5, hw5⟩ : ∃ w5, (((w4.alloc (.cells #[.int .i64 x.k, .int .i64 x.n, .string x.s] 23)).alloc (.cells #[.int .i64 y.k, .int .i64 y.n, .string y.s] 23)).alloc (.cells #[.int .i64 z.k, .int .i64 z.n, .string z.s] 23)) = w5 := ⟨_, rfl⟩
  rw [hw5] at HVX HVY HVZ HB5 ⊢
  rw [hq] at HVX HVY HVZ ⊢
  clear hq hw5 HX HY HZ HB2 HB3 HB4
  obtain ⟨x0, x1, x2⟩ := HVX.out.cells
  obtain ⟨y0, y1, y2⟩ := HVY.out.cells
  obtain ⟨z0', z1', z2'⟩ := HVZ.out.cells
  have HR := Lib.hid ((Below.refl w5.heap.size w5).drew)
  have TT := Lib.hid (fun (wr : World) (hr : Below w5.heap.size w5 wr) => HT.out.below (HB5.out.trans (hr.mono HB5.out.size)))
  have TE := Lib.hid (fun (wr : World) (hr : Below w5.heap.size w5 wr) => HE.out.below (HB5.out.trans (hr.mono HB5.out.size)))
  have fn0 := run_val_n 3 0 ⟨#[]⟩
  have fn1 := run_val_n 3 1 ⟨#[]⟩
  clear HT HE rk qk rl ql rm qm z0 z1 z2 z3 z4 z5 z6 z7 z8
  go_region_held3 (fun w' => w'.cell? ⟨q, 0, none⟩ = some (.int .i64 x.k) ∧ w'.cell? ⟨q, 1, none⟩ = some (.int .i64 x.n) ∧ w'.cell? ⟨q, 2, none⟩ = some (.string x.s) ∧ w'.cell? ⟨q + 1, 0, none⟩ = some (.int .i64 y.k) ∧ w'.cell? ⟨q + 1, 1, none⟩ = some (.int .i64 y.n) ∧ w'.cell? ⟨q + 1, 2, none⟩ = some (.string y.s) ∧ w'.cell? ⟨q + 1 + 1, 0, none⟩ = some (.int .i64 z.k) ∧ w'.cell? ⟨q + 1 + 1, 1, none⟩ = some (.int .i64 z.n) ∧ w'.cell? ⟨q + 1 + 1, 2, none⟩ = some (.string z.s)) (go_keep) (first | (go_at_call 19; ((with_reducible refine (HLT.out _ (TT.out _ HR.out) (TE.out _ HR.out)).mono ?_); rintro e w6 ⟨rfl, hb⟩; have HR6 := Lib.hid (HR.out.trans (hb.mono HR.out.size)); obtain ⟨x60, x61, x62⟩ := (HVX.out.over HR6.out).cells; obtain ⟨y60, y61, y62⟩ := (HVY.out.over HR6.out).cells; obtain ⟨z60, z61, z62⟩ := (HVZ.out.over HR6.out).cells; clear hb)) | (go_at_call 19; ((with_reducible refine (HGT.out _ (TT.out _ HR6.out) (TE.out _ HR6.out)).mono ?_); rintro e w7 ⟨rfl, hb⟩; have HR7 := Lib.hid (HR6.out.trans (hb.mono HR6.out.size)); obtain ⟨x70, x71, x72⟩ := (HVX.out.over HR7.out).cells; obtain ⟨y70, y71, y72⟩ := (HVY.out.over HR7.out).cells; obtain ⟨z70, z71, z72⟩ := (HVZ.out.over HR7.out).cells; clear hb)) | (go_at_call 19; ((with_reducible refine (HEQ.out _ (TT.out _ HR7.out) (TE.out _ HR7.out)).mono ?_); rintro e w8 ⟨rfl, hb⟩; have HR8 := Lib.hid (HR7.out.trans (hb.mono HR7.out.size)); obtain ⟨x80, x81, x82⟩ := (HVX.out.over HR8.out).cells; obtain ⟨y80, y81, y82⟩ := (HVY.out.over HR8.out).cells; obtain ⟨z80, z81, z82⟩ := (HVZ.out.over HR8.out).cells; clear hb)))
  go_wp2_with (first
    | (go_at_call 19; ((with_reducible refine (HLE.out _ (TT.out _ HR8.out) (TE.out _ HR8.out)).mono ?_); rintro e w9 ⟨rfl, hb⟩; have HR9 := Lib.hid (HR8.out.trans (hb.mono HR8.out.size)); obtain ⟨x90, x91, x92⟩ := (HVX.out.over HR9.out).cells; obtain ⟨y90, y91, y92⟩ := (HVY.out.over HR9.out).cells; obtain ⟨z90, z91, z92⟩ := (HVZ.out.over HR9.out).cells; clear hb))
    | (go_at_call 19; ((with_reducible refine (HGE.out _ (TT.out _ HR9.out) (TE.out _ HR9.out)).mono ?_); rintro e w10 ⟨rfl, hb⟩; have HR10 := Lib.hid (HR9.out.trans (hb.mono HR9.out.size)); obtain ⟨x100, x101, x102⟩ := (HVX.out.over HR10.out).cells; obtain ⟨y100, y101, y102⟩ := (HVY.out.over HR10.out).cells; obtain ⟨z100, z101, z102⟩ := (HVZ.out.over HR10.out).cells; clear hb))
    | (go_at_call 19; ((with_reducible refine (HNE.out _ (TT.out _ HR10.out) (TE.out _ HR10.out)).mono ?_); rintro e w11 ⟨rfl, hb⟩; have HR11 := Lib.hid (HR10.out.trans (hb.mono HR10.out.size)); obtain ⟨x110, x111, x112⟩ := (HVX.out.over HR11.out).cells; obtain ⟨y110, y111, y112⟩ := (HVY.out.over HR11.out).cells; obtain ⟨z110, z111, z112⟩ := (HVZ.out.over HR11.out).cells; clear hb))
    | (go_at_call 19; ((with_reducible refine (HFL.out _ (TT.out _ HR11.out) (TE.out _ HR11.out)).mono ?_); rintro e w12 ⟨rfl, hb⟩; have HR12 := Lib.hid (HR11.out.trans (hb.mono HR11.out.size)); obtain ⟨x120, x121, x122⟩ := (HVX.out.over HR12.out).cells; obtain ⟨y120, y121, y122⟩ := (HVY.out.over HR12.out).cells; obtain ⟨z120, z121, z122⟩ := (HVZ.out.over HR12.out).cells; clear hb))
    | (go_at_call 19; ((with_reducible refine (HON.out _ (TT.out _ HR12.out) (TE.out _ HR12.out)).mono ?_); rintro e w13 ⟨rfl, hb⟩; have HR13 := Lib.hid (HR12.out.trans (hb.mono HR12.out.size)); obtain ⟨x130, x131, x132⟩ := (HVX.out.over HR13.out).cells; obtain ⟨y130, y131, y132⟩ := (HVY.out.over HR13.out).cells; obtain ⟨z130, z131, z132⟩ := (HVZ.out.over HR13.out).cells; clear hb))
    | (go_at_call 10; ((with_reducible refine (awake7_any _ (TT.out _ HR13.out) (TE.out _ HR13.out)).mono ?_); rintro e w20 ⟨rfl, hb⟩; have HB20 := Lib.hid ((HB5.out.trans (HR13.out.mono HB5.out.size)).trans (hb.mono (HB5.out.trans (HR13.out.mono HB5.out.size)).size)); clear hb)))
  all_goals go_ret
  all_goals exact ⟨rfl, HB20.out⟩
set_option maxRecDepth 100000 in
set_option maxHeartbeats 1600000 in
theorem valOrder_b0 (k l m a b c : Int) (s t u : ByteArray) (k0 : 0 ≤ k) (l0 : 0 ≤ l) (m0 : 0 ≤ m) (g0 : ¬ 300 < s.size) (g1 : ¬ 300 < t.size) (g2 : ¬ 300 < u.size) (g3 : ¬ k % 5 = 4) (g4 : ¬ l % 5 = 4) (g5 : ¬ m % 5 = 4) (g6 : ¬ k % 5 = 0) (g7 : ¬ l % 5 = 0) (g8 : ¬ m % 5 = 0) (x y z : Vl)
    (hx : ∀ w : World, Calls Tryd.prog 21 #[.int .u8 k, .int .i64 a, .string s] w fun e w' => e = .returned (.agg #[.int .i64 x.k, .int .i64 x.n, .string x.s]) ∧ Below w.heap.size w w') (hy : ∀ w : World, Calls Tryd.prog 21 #[.int .u8 l, .int .i64 b, .string t] w fun e w' => e = .returned (.agg #[.int .i64 y.k, .int .i64 y.n, .string y.s]) ∧ Below w.heap.size w w') (hz : ∀ w : World, Calls Tryd.prog 21 #[.int .u8 m, .int .i64 c, .string u] w fun e w' => e = .returned (.agg #[.int .i64 z.k, .int .i64 z.n, .string z.s]) ∧ Below w.heap.size w w')
    (hlt : ∀ w : World, Tab w → EtV w → Calls Tryd.prog 19 #[.int .i64 11, .agg #[.int .i64 x.k, .int .i64 x.n, .string x.s], .agg #[.int .i64 y.k, .int .i64 y.n, .string y.s]] w fun e w' => e = .returned (.agg #[.int .i64 3, .int .i64 0, .string ⟨#[]⟩]) ∧ Below w.heap.size w w') (hgt : ∀ w : World, Tab w → EtV w → Calls Tryd.prog 19 #[.int .i64 13, .agg #[.int .i64 x.k, .int .i64 x.n, .string x.s], .agg #[.int .i64 y.k, .int .i64 y.n, .string y.s]] w fun e w' => e = .returned (.agg #[.int .i64 3, .int .i64 1, .string ⟨#[]⟩]) ∧ Below w.heap.size w w') (heq : ∀ w : World, Tab w → EtV w → Calls Tryd.prog 19 #[.int .i64 9, .agg #[.int .i64 x.k, .int .i64 x.n, .string x.s], .agg #[.int .i64 y.k, .int .i64 y.n, .string y.s]] w fun e w' => e = .returned (.agg #[.int .i64 3, .int .i64 0, .string ⟨#[]⟩]) ∧ Below w.heap.size w w') (hle : ∀ w : World, Tab w → EtV w → Calls Tryd.prog 19 #[.int .i64 12, .agg #[.int .i64 x.k, .int .i64 x.n, .string x.s], .agg #[.int .i64 y.k, .int .i64 y.n, .string y.s]] w fun e w' => e = .returned (.agg #[.int .i64 3, .int .i64 0, .string ⟨#[]⟩]) ∧ Below w.heap.size w w') (hge : ∀ w : World, Tab w → EtV w → Calls Tryd.prog 19 #[.int .i64 14, .agg #[.int .i64 x.k, .int .i64 x.n, .string x.s], .agg #[.int .i64 y.k, .int .i64 y.n, .string y.s]] w fun e w' => e = .returned (.agg #[.int .i64 3, .int .i64 1, .string ⟨#[]⟩]) ∧ Below w.heap.size w w') (hne : ∀ w : World, Tab w → EtV w → Calls Tryd.prog 19 #[.int .i64 10, .agg #[.int .i64 x.k, .int .i64 x.n, .string x.s], .agg #[.int .i64 y.k, .int .i64 y.n, .string y.s]] w fun e w' => e = .returned (.agg #[.int .i64 3, .int .i64 1, .string ⟨#[]⟩]) ∧ Below w.heap.size w w') (hfl : ∀ w : World, Tab w → EtV w → Calls Tryd.prog 19 #[.int .i64 13, .agg #[.int .i64 y.k, .int .i64 y.n, .string y.s], .agg #[.int .i64 x.k, .int .i64 x.n, .string x.s]] w fun e w' => e = .returned (.agg #[.int .i64 3, .int .i64 0, .string ⟨#[]⟩]) ∧ Below w.heap.size w w') (hon : ∀ w : World, Tab w → EtV w → Calls Tryd.prog 19 #[.int .i64 12, .agg #[.int .i64 y.k, .int .i64 y.n, .string y.s], .agg #[.int .i64 z.k, .int .i64 z.n, .string z.s]] w fun e w' => e = .returned (.agg #[.int .i64 3, .int .i64 0, .string ⟨#[]⟩]) ∧ Below w.heap.size w w') (w : World) (ht : Tab w) (he : EtV w) :
    Calls Tryd.prog 6 #[.int .u8 k, .int .u8 l, .int .u8 m, .int .i64 a, .int .i64 b, .int .i64 c, .string s, .string t, .string u] w fun e w' => e = .returned (.bool true) ∧ Below w.heap.size w w' := by
  have rk : IntKind.u8.wrap (Int.tmod k 5) = k % 5 := by rw [Int.tmod_eq_emod_of_nonneg k0, IntKind.wrap_u8]; omega
  have qk : Int.tmod k 5 = k % 5 := Int.tmod_eq_emod_of_nonneg k0
  have rl : IntKind.u8.wrap (Int.tmod l 5) = l % 5 := by rw [Int.tmod_eq_emod_of_nonneg l0, IntKind.wrap_u8]; omega
  have ql : Int.tmod l 5 = l % 5 := Int.tmod_eq_emod_of_nonneg l0
  have rm : IntKind.u8.wrap (Int.tmod m 5) = m % 5 := by rw [Int.tmod_eq_emod_of_nonneg m0, IntKind.wrap_u8]; omega
  have qm : Int.tmod m 5 = m % 5 := Int.tmod_eq_emod_of_nonneg m0
  have z0 : ¬ (300 : Int) < (s.size : Int) := by omega
  have z1 : ¬ (300 : Int) < (t.size : Int) := by omega
  have z2 : ¬ (300 : Int) < (u.size : Int) := by omega
  have z3 : (k % 5 == 4) = false := beq_eq_false_iff_ne.2 g3
  have z4 : (l % 5 == 4) = false := beq_eq_false_iff_ne.2 g4
  have z5 : (m % 5 == 4) = false := beq_eq_false_iff_ne.2 g5
  have z6 : (k % 5 == 0) = false := beq_eq_false_iff_ne.2 g6
  have z7 : (l % 5 == 0) = false := beq_eq_false_iff_ne.2 g7
  have z8 : (m % 5 == 0) = false := beq_eq_false_iff_ne.2 g8
  have HX := Lib.hid hx; have HY := Lib.hid hy; have HZ := Lib.hid hz
  have HLT := Lib.hid hlt; have HGT := Lib.hid hgt; have HEQ := Lib.hid heq; have HLE := Lib.hid hle; have HGE := Lib.hid hge; have HNE := Lib.hid hne; have HFL := Lib.hid hfl; have HON := Lib.hid hon
  have HT := Lib.hid ht; have HE := Lib.hid he
  clear hx hy hz hlt hgt heq hle hge hne hfl hon ht he g0 g1 g2 g3 g4 g5 g6 g7 g8 k0 l0 m0
  go_enter Tryd.func6, Tryd.ntmps6
  go_upto_region 4 with (first
    | (go_at_call 21; ((with_reducible refine (HX.out _).mono ?_); rintro e w2 ⟨rfl, hb⟩; have HB2 := Lib.hid (hb); clear hb))
    | (go_at_call 21; ((with_reducible refine (HY.out _).mono ?_); rintro e w3 ⟨rfl, hb⟩; have HB3 := Lib.hid (HB2.out.trans (hb.mono HB2.out.size)); clear hb))
    | (go_at_call 21; ((with_reducible refine (HZ.out _).mono ?_); rintro e w4 ⟨rfl, hb⟩; have HB4 := Lib.hid (HB3.out.trans (hb.mono HB3.out.size)); clear hb)))
  obtain ⟨q1, q2, q3, q4⟩ := vl_open3 w4 x y z
  have HVX := Lib.hid q1; have HVY := Lib.hid q2; have HVZ := Lib.hid q3
  have HB5 := Lib.hid (HB4.out.trans (q4.mono HB4.out.size))
  clear q1 q2 q3 q4
  obtain ⟨q, hq⟩ : ∃ q, w4.heap.size = q := ⟨_, rfl⟩
  obtain ⟨w5, hw5⟩ : ∃ w5, (((w4.alloc (.cells #[.int .i64 x.k, .int .i64 x.n, .string x.s] 23)).alloc (.cells #[.int .i64 y.k, .int .i64 y.n, .string y.s] 23)).alloc (.cells #[.int .i64 z.k, .int .i64 z.n, .string z.s] 23)) = w5 := ⟨_, rfl⟩
  rw [hw5] at HVX HVY HVZ HB5 ⊢
  rw [hq] at HVX HVY HVZ ⊢
  clear hq hw5 HX HY HZ HB2 HB3 HB4
  obtain ⟨x0, x1, x2⟩ := HVX.out.cells
  obtain ⟨y0, y1, y2⟩ := HVY.out.cells
  obtain ⟨z0', z1', z2'⟩ := HVZ.out.cells
  have HR := Lib.hid ((Below.refl w5.heap.size w5).drew)
  have TT := Lib.hid (fun (wr : World) (hr : Below w5.heap.size w5 wr) => HT.out.below (HB5.out.trans (hr.mono HB5.out.size)))
  have TE := Lib.hid (fun (wr : World) (hr : Below w5.heap.size w5 wr) => HE.out.below (HB5.out.trans (hr.mono HB5.out.size)))
  have fn0 := run_val_n 3 0 ⟨#[]⟩
  have fn1 := run_val_n 3 1 ⟨#[]⟩
  clear HT HE rk qk rl ql rm qm z0 z1 z2 z3 z4 z5 z6 z7 z8
  go_region_held3 (fun w' => w'.cell? ⟨q, 0, none⟩ = some (.int .i64 x.k) ∧ w'.cell? ⟨q, 1, none⟩ = some (.int .i64 x.n) ∧ w'.cell? ⟨q, 2, none⟩ = some (.string x.s) ∧ w'.cell? ⟨q + 1, 0, none⟩ = some (.int .i64 y.k) ∧ w'.cell? ⟨q + 1, 1, none⟩ = some (.int .i64 y.n) ∧ w'.cell? ⟨q + 1, 2, none⟩ = some (.string y.s) ∧ w'.cell? ⟨q + 1 + 1, 0, none⟩ = some (.int .i64 z.k) ∧ w'.cell? ⟨q + 1 + 1, 1, none⟩ = some (.int .i64 z.n) ∧ w'.cell? ⟨q + 1 + 1, 2, none⟩ = some (.string z.s)) (go_keep) (first | (go_at_call 19; ((with_reducible refine (HLT.out _ (TT.out _ HR.out) (TE.out _ HR.out)).mono ?_); rintro e w6 ⟨rfl, hb⟩; have HR6 := Lib.hid (HR.out.trans (hb.mono HR.out.size)); obtain ⟨x60, x61, x62⟩ := (HVX.out.over HR6.out).cells; obtain ⟨y60, y61, y62⟩ := (HVY.out.over HR6.out).cells; obtain ⟨z60, z61, z62⟩ := (HVZ.out.over HR6.out).cells; clear hb)) | (go_at_call 19; ((with_reducible refine (HGT.out _ (TT.out _ HR6.out) (TE.out _ HR6.out)).mono ?_); rintro e w7 ⟨rfl, hb⟩; have HR7 := Lib.hid (HR6.out.trans (hb.mono HR6.out.size)); obtain ⟨x70, x71, x72⟩ := (HVX.out.over HR7.out).cells; obtain ⟨y70, y71, y72⟩ := (HVY.out.over HR7.out).cells; obtain ⟨z70, z71, z72⟩ := (HVZ.out.over HR7.out).cells; clear hb)) | (go_at_call 19; ((with_reducible refine (HEQ.out _ (TT.out _ HR7.out) (TE.out _ HR7.out)).mono ?_); rintro e w8 ⟨rfl, hb⟩; have HR8 := Lib.hid (HR7.out.trans (hb.mono HR7.out.size)); obtain ⟨x80, x81, x82⟩ := (HVX.out.over HR8.out).cells; obtain ⟨y80, y81, y82⟩ := (HVY.out.over HR8.out).cells; obtain ⟨z80, z81, z82⟩ := (HVZ.out.over HR8.out).cells; clear hb)))
  go_wp2_with (first
    | (go_at_call 19; ((with_reducible refine (HLE.out _ (TT.out _ HR8.out) (TE.out _ HR8.out)).mono ?_); rintro e w9 ⟨rfl, hb⟩; have HR9 := Lib.hid (HR8.out.trans (hb.mono HR8.out.size)); obtain ⟨x90, x91, x92⟩ := (HVX.out.over HR9.out).cells; obtain ⟨y90, y91, y92⟩ := (HVY.out.over HR9.out).cells; obtain ⟨z90, z91, z92⟩ := (HVZ.out.over HR9.out).cells; clear hb))
    | (go_at_call 19; ((with_reducible refine (HGE.out _ (TT.out _ HR9.out) (TE.out _ HR9.out)).mono ?_); rintro e w10 ⟨rfl, hb⟩; have HR10 := Lib.hid (HR9.out.trans (hb.mono HR9.out.size)); obtain ⟨x100, x101, x102⟩ := (HVX.out.over HR10.out).cells; obtain ⟨y100, y101, y102⟩ := (HVY.out.over HR10.out).cells; obtain ⟨z100, z101, z102⟩ := (HVZ.out.over HR10.out).cells; clear hb))
    | (go_at_call 19; ((with_reducible refine (HNE.out _ (TT.out _ HR10.out) (TE.out _ HR10.out)).mono ?_); rintro e w11 ⟨rfl, hb⟩; have HR11 := Lib.hid (HR10.out.trans (hb.mono HR10.out.size)); obtain ⟨x110, x111, x112⟩ := (HVX.out.over HR11.out).cells; obtain ⟨y110, y111, y112⟩ := (HVY.out.over HR11.out).cells; obtain ⟨z110, z111, z112⟩ := (HVZ.out.over HR11.out).cells; clear hb))
    | (go_at_call 19; ((with_reducible refine (HFL.out _ (TT.out _ HR11.out) (TE.out _ HR11.out)).mono ?_); rintro e w12 ⟨rfl, hb⟩; have HR12 := Lib.hid (HR11.out.trans (hb.mono HR11.out.size)); obtain ⟨x120, x121, x122⟩ := (HVX.out.over HR12.out).cells; obtain ⟨y120, y121, y122⟩ := (HVY.out.over HR12.out).cells; obtain ⟨z120, z121, z122⟩ := (HVZ.out.over HR12.out).cells; clear hb))
    | (go_at_call 19; ((with_reducible refine (HON.out _ (TT.out _ HR12.out) (TE.out _ HR12.out)).mono ?_); rintro e w13 ⟨rfl, hb⟩; have HR13 := Lib.hid (HR12.out.trans (hb.mono HR12.out.size)); obtain ⟨x130, x131, x132⟩ := (HVX.out.over HR13.out).cells; obtain ⟨y130, y131, y132⟩ := (HVY.out.over HR13.out).cells; obtain ⟨z130, z131, z132⟩ := (HVZ.out.over HR13.out).cells; clear hb))
    | (go_at_call 10; ((with_reducible refine (awake7_any _ (TT.out _ HR13.out) (TE.out _ HR13.out)).mono ?_); rintro e w20 ⟨rfl, hb⟩; have HB20 := Lib.hid ((HB5.out.trans (HR13.out.mono HB5.out.size)).trans (hb.mono (HB5.out.trans (HR13.out.mono HB5.out.size)).size)); clear hb)))
  all_goals go_ret
  all_goals exact ⟨rfl, HB20.out⟩
end Go.Proofs.YtgnandbokgfeiaaDoor
