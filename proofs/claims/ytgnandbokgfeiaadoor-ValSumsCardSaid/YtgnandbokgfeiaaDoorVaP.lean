/-
  Layer 7, the law: sums, differences, products, quotients.
-/
import Derived.Test.YtgnandbokgfeiaaDoorVaT
import Derived.Test.YtgnandbokgfeiaaDoorVaM
import Derived.Test.YtgnandbokgfeiaaDoorVaN
import Derived.Deep.DeepCutAuto
namespace Go.Proofs.YtgnandbokgfeiaaDoor
open Go.RowKit

/-- Four numbers in blocks of their own. -/
def N4 (w : World) (q : Nat) (a b : Int) : Prop := VlAt w q (Vl.num a) ∧ VlAt w (q + 1) (Vl.num b) ∧ VlAt w (q + 1 + 1) (Vl.num 9223372036854775807) ∧ VlAt w (q + 1 + 1 + 1) (Vl.num (-9223372036854775808))
theorem N4.over {w w' : World} {q : Nat} {a b : Int} (h : N4 w q a b) (hb : Below w.heap.size w w') : N4 w' q a b := ⟨h.1.over hb, h.2.1.over hb, h.2.2.1.over hb, h.2.2.2.over hb⟩
theorem N4.new (w : World) (a b : Int) : N4 ((((w.alloc (.cells #[.int .i64 1, .int .i64 a, .string ⟨#[]⟩] 23)).alloc (.cells #[.int .i64 1, .int .i64 b, .string ⟨#[]⟩] 23)).alloc (.cells #[.int .i64 1, .int .i64 9223372036854775807, .string ⟨#[]⟩] 23)).alloc (.cells #[.int .i64 1, .int .i64 (-9223372036854775808), .string ⟨#[]⟩] 23)) w.heap.size a b ∧ Below w.heap.size w ((((w.alloc (.cells #[.int .i64 1, .int .i64 a, .string ⟨#[]⟩] 23)).alloc (.cells #[.int .i64 1, .int .i64 b, .string ⟨#[]⟩] 23)).alloc (.cells #[.int .i64 1, .int .i64 9223372036854775807, .string ⟨#[]⟩] 23)).alloc (.cells #[.int .i64 1, .int .i64 (-9223372036854775808), .string ⟨#[]⟩] 23)) := by
  have b1 := below_vl w (Vl.num a)
  have b2 := below_vl (w.alloc (.cells #[.int .i64 1, .int .i64 a, .string ⟨#[]⟩] 23)) (Vl.num b)
  have b3 := below_vl ((w.alloc (.cells #[.int .i64 1, .int .i64 a, .string ⟨#[]⟩] 23)).alloc (.cells #[.int .i64 1, .int .i64 b, .string ⟨#[]⟩] 23)) (Vl.num 9223372036854775807)
  have b4 := below_vl (((w.alloc (.cells #[.int .i64 1, .int .i64 a, .string ⟨#[]⟩] 23)).alloc (.cells #[.int .i64 1, .int .i64 b, .string ⟨#[]⟩] 23)).alloc (.cells #[.int .i64 1, .int .i64 9223372036854775807, .string ⟨#[]⟩] 23)) (Vl.num (-9223372036854775808))
  have h2 := VlAt.new (w.alloc (.cells #[.int .i64 1, .int .i64 a, .string ⟨#[]⟩] 23)) (Vl.num b)
  have h3 := VlAt.new ((w.alloc (.cells #[.int .i64 1, .int .i64 a, .string ⟨#[]⟩] 23)).alloc (.cells #[.int .i64 1, .int .i64 b, .string ⟨#[]⟩] 23)) (Vl.num 9223372036854775807)
  have h4 := VlAt.new (((w.alloc (.cells #[.int .i64 1, .int .i64 a, .string ⟨#[]⟩] 23)).alloc (.cells #[.int .i64 1, .int .i64 b, .string ⟨#[]⟩] 23)).alloc (.cells #[.int .i64 1, .int .i64 9223372036854775807, .string ⟨#[]⟩] 23)) (Vl.num (-9223372036854775808))
  rw [World.size_alloc] at h2
  rw [World.size_alloc, World.size_alloc] at h3
  rw [World.size_alloc, World.size_alloc, World.size_alloc] at h4
  have c2 := b1.trans (b2.mono b1.size)
  have c3 := c2.trans (b3.mono c2.size)
  exact ⟨⟨(((VlAt.new w (Vl.num a)).over b2).over b3).over b4, (h2.over b3).over b4, h3.over b4, h4⟩, c3.trans (b4.mono c3.size)⟩
theorem two_num (kind : Int) (x y : Int) (v : Vl) (x0 : -9223372036854775808 ≤ x) (x1 : x ≤ 9223372036854775807) (y0 : -9223372036854775808 ≤ y) (y1 : y ≤ 9223372036854775807) (h : opV kind (Vl.num x) (Vl.num y) = v) (w : World) (ht : Tab w) (he : EtV w) :
    Calls Tryd.prog 19 #[.int .i64 kind, .agg #[.int .i64 1, .int .i64 x, .string ⟨#[]⟩], .agg #[.int .i64 1, .int .i64 y, .string ⟨#[]⟩]] w fun e w' => e = .returned (.agg #[.int .i64 v.k, .int .i64 v.n, .string v.s]) ∧ Below w.heap.size w w' := by
  have h2 := two_any kind (Vl.num x) (Vl.num y) (ok_num x x0 x1) (ok_num y y0 y1) w ht he
  rw [show twoV kind (Vl.num x) (Vl.num y) = v from by unfold twoV; rw [if_neg (show ¬ (Vl.num x).k = 4 by show ¬ (1 : Int) = 4; decide), if_neg (show ¬ (Vl.num y).k = 4 by show ¬ (1 : Int) = 4; decide), h]] at h2
  exact h2
theorem op_sum (x y : Int) : opV 16 (Vl.num x) (Vl.num y) = fitV (x + y) := rfl
theorem op_sub (x y : Int) : opV 17 (Vl.num x) (Vl.num y) = fitV (x - y) := rfl
theorem op_mul (x y : Int) : opV 18 (Vl.num x) (Vl.num y) = fitV (x * y) := rfl
theorem op_div (x y : Int) : opV 19 (Vl.num x) (Vl.num y) = divV x y := rfl
theorem run_num_n (k N : Int) (t : ByteArray) (w : World) : Sem.run Tryd.prog (Instr.field 23 (.agg #[.int .i64 k, .int .i64 N, .string t]) 1) w = .ok (.int .i64 N) w := run_val_n k N t w
/-- Seven errors, side by side. -/
def e7A : Array Value := #[.int .i64 4, .int .i64 2, .string ⟨#[]⟩, .int .i64 4, .int .i64 2, .string ⟨#[]⟩, .int .i64 4, .int .i64 2, .string ⟨#[]⟩, .int .i64 4, .int .i64 2, .string ⟨#[]⟩, .int .i64 4, .int .i64 2, .string ⟨#[]⟩, .int .i64 4, .int .i64 2, .string ⟨#[]⟩, .int .i64 4, .int .i64 2, .string ⟨#[]⟩]
theorem e7_at (j : Nat) (h : j < 7) : e7A[j * 3]? = some (.int .i64 4) ∧ e7A[j * 3 + 1]? = some (.int .i64 2) := by
  have hj : j = 0 ∨ j = 1 ∨ j = 2 ∨ j = 3 ∨ j = 4 ∨ j = 5 ∨ j = 6 := by omega
  rcases hj with rfl | rfl | rfl | rfl | rfl | rfl | rfl <;> exact ⟨rfl, rfl⟩
theorem e7_open (w : World) : (w.alloc (.cells e7A 23)).heap[w.heap.size]? = some (.cells e7A 23) ∧ Below w.heap.size w (w.alloc (.cells e7A 23)) := ⟨(Go.MapKept.heap_alloc w _).1, (Below.refl _ _).alloc (Nat.le_refl _) _⟩
set_option maxRecDepth 100000 in
set_option maxHeartbeats 1600000 in
theorem valSums_zero (a b far : Int) (a0 : -2147483648 ≤ a) (a1 : a ≤ 2147483647) (b0 : -2147483648 ≤ b) (b1 : b ≤ 2147483647) (f0 : 0 ≤ far) (f1 : far ≤ 255) (hb : b = 0) (w : World) (ht : Tab w) (he : EtV w) :
    Calls Tryd.prog 5 #[.int .i32 a, .int .i32 b, .int .u8 far] w fun e w' => e = .returned (.bool true) ∧ Below w.heap.size w w' := by
  have hab : -4611686018427387904 ≤ a * b ∧ a * b ≤ 4611686018427387904 := by
    have h1 : a.natAbs ≤ 2147483648 := by omega
    have h2 : b.natAbs ≤ 2147483648 := by omega
    have h3 := Nat.mul_le_mul h1 h2
    rw [← Int.natAbs_mul] at h3
    omega
  have p1 : ∀ w : World, Tab w → EtV w → Calls Tryd.prog 19 #[.int .i64 16, .agg #[.int .i64 1, .int .i64 a, .string ⟨#[]⟩], .agg #[.int .i64 1, .int .i64 b, .string ⟨#[]⟩]] w fun e w' => e = .returned (.agg #[.int .i64 1, .int .i64 (a + b), .string ⟨#[]⟩]) ∧ Below w.heap.size w w' := two_num 16 a b (Vl.num (a + b)) (by omega) (by omega) (by omega) (by omega) (by rw [op_sum, fit_in (by omega) (by omega)])
  have p2 : ∀ w : World, Tab w → EtV w → Calls Tryd.prog 19 #[.int .i64 17, .agg #[.int .i64 1, .int .i64 a, .string ⟨#[]⟩], .agg #[.int .i64 1, .int .i64 b, .string ⟨#[]⟩]] w fun e w' => e = .returned (.agg #[.int .i64 1, .int .i64 (a - b), .string ⟨#[]⟩]) ∧ Below w.heap.size w w' := two_num 17 a b (Vl.num (a - b)) (by omega) (by omega) (by omega) (by omega) (by rw [op_sub, fit_in (by omega) (by omega)])
  have p3 : ∀ w : World, Tab w → EtV w → Calls Tryd.prog 19 #[.int .i64 18, .agg #[.int .i64 1, .int .i64 a, .string ⟨#[]⟩], .agg #[.int .i64 1, .int .i64 b, .string ⟨#[]⟩]] w fun e w' => e = .returned (.agg #[.int .i64 1, .int .i64 (a * b), .string ⟨#[]⟩]) ∧ Below w.heap.size w w' := two_num 18 a b (Vl.num (a * b)) (by omega) (by omega) (by omega) (by omega) (by rw [op_mul, fit_in (by omega) (by omega)])
  have p4 : ∀ w : World, Tab w → EtV w → Calls Tryd.prog 19 #[.int .i64 19, .agg #[.int .i64 1, .int .i64 a, .string ⟨#[]⟩], .agg #[.int .i64 1, .int .i64 b, .string ⟨#[]⟩]] w fun e w' => e = .returned (.agg #[.int .i64 4, .int .i64 3, .string ⟨#[]⟩]) ∧ Below w.heap.size w w' := two_num 19 a b (Vl.err 3) (by omega) (by omega) (by omega) (by omega) (by rw [op_div]; unfold divV; rw [if_pos hb])
  have g1 : (b == 0) = true := beq_iff_eq.2 hb
  have g2 : (b != 0) = false := by rw [bne, g1]; rfl
  clear hb
  have e1 : wrap64 (a + b) = a + b := by unfold wrap64; omega
  have e2 : wrap64 (a - b) = a - b := by unfold wrap64; omega
  have e3 : wrap64 (a * b) = a * b := by unfold wrap64; omega
  have e4 : IntKind.i64.wrap a = a := by rw [IntKind.wrap_i64]; omega
  have e5 : IntKind.i64.wrap b = b := by rw [IntKind.wrap_i64]; omega
  have e6 : wrap64 a = a := by unfold wrap64; omega
  have e7 : wrap64 b = b := by unfold wrap64; omega
  have fn1 := run_num_n 1 (a + b) ⟨#[]⟩
  have fn2 := run_num_n 1 (a - b) ⟨#[]⟩
  have fn3 := run_num_n 1 (a * b) ⟨#[]⟩
  have P1 := Lib.hid p1; have P2 := Lib.hid p2; have P3 := Lib.hid p3; have P4 := Lib.hid p4
  have HT := Lib.hid ht; have HE := Lib.hid he
  have HAF := Lib.hid (And.intro f0 f1)
  have HN := Lib.hid (N4.new w a b).1; have HB := Lib.hid (N4.new w a b).2
  clear p1 p2 p3 p4 ht he hab f0 f1
  go_enter Tryd.func5, Tryd.ntmps5
  go_upto_region 3 with fail
  obtain ⟨q, hq⟩ : ∃ q, w.heap.size = q := ⟨_, rfl⟩
  obtain ⟨w1, hw1⟩ : ∃ w1, ((((w.alloc (.cells #[.int .i64 1, .int .i64 a, .string ⟨#[]⟩] 23)).alloc (.cells #[.int .i64 1, .int .i64 b, .string ⟨#[]⟩] 23)).alloc (.cells #[.int .i64 1, .int .i64 9223372036854775807, .string ⟨#[]⟩] 23)).alloc (.cells #[.int .i64 1, .int .i64 (-9223372036854775808), .string ⟨#[]⟩] 23)) = w1 := ⟨_, rfl⟩
  rw [hw1] at HN HB ⊢
  rw [hq] at HN ⊢
  clear hq hw1
  have HX := Lib.hid HN.out.1; have HY := Lib.hid HN.out.2.1
  obtain ⟨x0, x1, x2⟩ : w1.cell? ⟨q, 0, none⟩ = some (.int .i64 1) ∧ w1.cell? ⟨q, 1, none⟩ = some (.int .i64 a) ∧ w1.cell? ⟨q, 2, none⟩ = some (.string ⟨#[]⟩) := HX.out.cells
  obtain ⟨y0, y1, y2⟩ : w1.cell? ⟨q + 1, 0, none⟩ = some (.int .i64 1) ∧ w1.cell? ⟨q + 1, 1, none⟩ = some (.int .i64 b) ∧ w1.cell? ⟨q + 1, 2, none⟩ = some (.string ⟨#[]⟩) := HY.out.cells
  go_upto_region 6 with (first
    | (go_at_call 19; ((with_reducible refine (P1.out _ (HT.out.below HB.out) (HE.out.below HB.out)).mono ?_); rintro e w2 ⟨rfl, hb⟩; have HB2 := Lib.hid (HB.out.trans (hb.mono HB.out.size)); have HN2 := Lib.hid (HN.out.over hb); obtain ⟨x20, x21, x22⟩ : w2.cell? ⟨q, 0, none⟩ = some (.int .i64 1) ∧ w2.cell? ⟨q, 1, none⟩ = some (.int .i64 a) ∧ w2.cell? ⟨q, 2, none⟩ = some (.string ⟨#[]⟩) := HN2.out.1.cells; obtain ⟨y20, y21, y22⟩ : w2.cell? ⟨q + 1, 0, none⟩ = some (.int .i64 1) ∧ w2.cell? ⟨q + 1, 1, none⟩ = some (.int .i64 b) ∧ w2.cell? ⟨q + 1, 2, none⟩ = some (.string ⟨#[]⟩) := HN2.out.2.1.cells; clear hb))
    | (go_at_call 19; ((with_reducible refine (P2.out _ (HT.out.below HB2.out) (HE.out.below HB2.out)).mono ?_); rintro e w3 ⟨rfl, hb⟩; have HB3 := Lib.hid (HB2.out.trans (hb.mono HB2.out.size)); have HN3 := Lib.hid (HN2.out.over hb); obtain ⟨x30, x31, x32⟩ : w3.cell? ⟨q, 0, none⟩ = some (.int .i64 1) ∧ w3.cell? ⟨q, 1, none⟩ = some (.int .i64 a) ∧ w3.cell? ⟨q, 2, none⟩ = some (.string ⟨#[]⟩) := HN3.out.1.cells; obtain ⟨y30, y31, y32⟩ : w3.cell? ⟨q + 1, 0, none⟩ = some (.int .i64 1) ∧ w3.cell? ⟨q + 1, 1, none⟩ = some (.int .i64 b) ∧ w3.cell? ⟨q + 1, 2, none⟩ = some (.string ⟨#[]⟩) := HN3.out.2.1.cells; clear hb))
    | (go_at_call 19; ((with_reducible refine (P3.out _ (HT.out.below HB3.out) (HE.out.below HB3.out)).mono ?_); rintro e w4 ⟨rfl, hb⟩; have HB4 := Lib.hid (HB3.out.trans (hb.mono HB3.out.size)); have HN4 := Lib.hid (HN3.out.over hb); obtain ⟨x40, x41, x42⟩ : w4.cell? ⟨q, 0, none⟩ = some (.int .i64 1) ∧ w4.cell? ⟨q, 1, none⟩ = some (.int .i64 a) ∧ w4.cell? ⟨q, 2, none⟩ = some (.string ⟨#[]⟩) := HN4.out.1.cells; obtain ⟨y40, y41, y42⟩ : w4.cell? ⟨q + 1, 0, none⟩ = some (.int .i64 1) ∧ w4.cell? ⟨q + 1, 1, none⟩ = some (.int .i64 b) ∧ w4.cell? ⟨q + 1, 2, none⟩ = some (.string ⟨#[]⟩) := HN4.out.2.1.cells; clear hb))
    | (go_at_call 19; ((with_reducible refine (P4.out _ (HT.out.below HB4.out) (HE.out.below HB4.out)).mono ?_); rintro e w5 ⟨rfl, hb⟩; have HB5 := Lib.hid (HB4.out.trans (hb.mono HB4.out.size)); have HN5 := Lib.hid (HN4.out.over hb); obtain ⟨x50, x51, x52⟩ : w5.cell? ⟨q, 0, none⟩ = some (.int .i64 1) ∧ w5.cell? ⟨q, 1, none⟩ = some (.int .i64 a) ∧ w5.cell? ⟨q, 2, none⟩ = some (.string ⟨#[]⟩) := HN5.out.1.cells; obtain ⟨y50, y51, y52⟩ : w5.cell? ⟨q + 1, 0, none⟩ = some (.int .i64 1) ∧ w5.cell? ⟨q + 1, 1, none⟩ = some (.int .i64 b) ∧ w5.cell? ⟨q + 1, 2, none⟩ = some (.string ⟨#[]⟩) := HN5.out.2.1.cells; clear hb)))
  have HQ := Lib.hid (show VlAt (w5.alloc (.cells #[.int .i64 4, .int .i64 3, .string ⟨#[]⟩] 23)) w5.heap.size (Vl.err 3) from VlAt.new w5 (Vl.err 3))
  have hbq : Below w5.heap.size w5 (w5.alloc (.cells #[.int .i64 4, .int .i64 3, .string ⟨#[]⟩] 23)) := below_vl w5 (Vl.err 3)
  have HNA := Lib.hid (HN5.out.over hbq)
  have HBA := Lib.hid (HB5.out.trans (hbq.mono HB5.out.size))
  clear hbq
  obtain ⟨r, hr⟩ : ∃ r, w5.heap.size = r := ⟨_, rfl⟩
  obtain ⟨wa, hwa⟩ : ∃ wa, w5.alloc (.cells #[.int .i64 4, .int .i64 3, .string ⟨#[]⟩] 23) = wa := ⟨_, rfl⟩
  rw [hwa] at HQ HNA HBA ⊢
  rw [hr] at HQ ⊢
  clear hr hwa HN HB HX HY HN2 HB2 HN3 HB3 HN4 HB4 HN5 HB5 P1 P2 P3 P4 x0 x1 x2 y0 y1 y2 x20 y20 x21 y21 x22 y22 x30 y30 x31 y31 x32 y32 x40 y40 x41 y41 x42 y42 x50 y50 x51 y51 x52 y52 fn1 fn2 fn3 e1 e2 e3
  obtain ⟨z0, z1, z2⟩ : wa.cell? ⟨r, 0, none⟩ = some (.int .i64 4) ∧ wa.cell? ⟨r, 1, none⟩ = some (.int .i64 3) ∧ wa.cell? ⟨r, 2, none⟩ = some (.string ⟨#[]⟩) := HQ.out.cells
  go_quiet (fail)
  have HDB := Lib.hid (show Below wa.heap.size wa (wa.drewN nq) from ⟨rfl, rfl, rfl, Nat.le_refl _, fun _ _ => rfl⟩)
  have HNB := Lib.hid (HNA.out.over HDB.out)
  have HBB := Lib.hid (HBA.out.trans (HDB.out.mono HBA.out.size))
  obtain ⟨wb, hwb⟩ : ∃ wb, wa.drewN nq = wb := ⟨_, rfl⟩
  rw [hwb] at HNB HBB ⊢
  clear hwb HDB HNA HBA HQ z0 z1 z2
  obtain ⟨f0, f1⟩ := HAF.out
  have e8 : IntKind.i64.wrap far = far := by rw [IntKind.wrap_i64]; omega
  have e9 : wrap64 far = far := by unfold wrap64; omega
  have e10 : wrap64 (1 + far) = 1 + far := by unfold wrap64; omega
  have e11 : wrap64 (2 + far) = 2 + far := by unfold wrap64; omega
  have e12 : IntKind.i64.wrap (2 + far) = 2 + far := by rw [IntKind.wrap_i64]; omega
  have hE : ∀ (k x y : Int), -9223372036854775808 ≤ x → x ≤ 9223372036854775807 → -9223372036854775808 ≤ y → y ≤ 9223372036854775807 → opV k (Vl.num x) (Vl.num y) = Vl.err 2 → ∀ w : World, Tab w → EtV w → Calls Tryd.prog 19 #[.int .i64 k, .agg #[.int .i64 1, .int .i64 x, .string ⟨#[]⟩], .agg #[.int .i64 1, .int .i64 y, .string ⟨#[]⟩]] w fun e w' => e = .returned (.agg #[.int .i64 4, .int .i64 2, .string ⟨#[]⟩]) ∧ Below w.heap.size w w' := fun k x y h1 h2 h3 h4 h5 => two_num k x y (Vl.err 2) h1 h2 h3 h4 h5
  have c1 := hE 16 9223372036854775807 (1 + far) (by decide) (by decide) (by omega) (by omega) (by rw [op_sum, fit_out (by omega)])
  have c2 := hE 17 (-9223372036854775808) (1 + far) (by decide) (by decide) (by omega) (by omega) (by rw [op_sub, fit_out (by omega)])
  have c3 := hE 18 9223372036854775807 (2 + far) (by decide) (by decide) (by omega) (by omega) (by rw [op_mul, fit_out (by omega)])
  have c5 := hE 19 (-9223372036854775808) (-1) (by decide) (by decide) (by decide) (by decide) (by rw [op_div]; unfold divV; rw [if_neg (by decide), fit_out (by decide)])
  have c6 := hE 18 (-9223372036854775808) (-1) (by decide) (by decide) (by decide) (by decide) (by rw [op_mul, fit_out (by decide)])
  have c7 := hE 18 (-1) (-9223372036854775808) (by decide) (by decide) (by decide) (by decide) (by rw [op_mul, fit_out (by decide)])
  have c4 : ∀ w : World, Calls Tryd.prog 17 #[.agg #[.int .i64 1, .int .i64 (-9223372036854775808), .string ⟨#[]⟩]] w fun e w' => e = .returned (.agg #[.int .i64 4, .int .i64 2, .string ⟨#[]⟩]) ∧ Below w.heap.size w w' := by
    have h := neg_any (Vl.num (-9223372036854775808)) (ok_num _ (by decide) (by decide))
    rw [show negV (Vl.num (-9223372036854775808)) = Vl.err 2 from by
      rw [show negV (Vl.num (-9223372036854775808)) = fitV (- (-9223372036854775808)) from rfl, fit_out (by decide)]] at h
    exact h
  have C1 := Lib.hid c1; have C2 := Lib.hid c2; have C3 := Lib.hid c3; have C4 := Lib.hid c4; have C5 := Lib.hid c5; have C6 := Lib.hid c6; have C7 := Lib.hid c7
  clear hE c1 c2 c3 c4 c5 c6 c7 f0 f1 HAF
  go_upto_region 10 with fail
  obtain ⟨k1, k2, k3⟩ := vl_pair wb (Vl.num (1 + far)) (Vl.num (-1))
  have HU := Lib.hid (show VlAt ((wb.alloc (.cells #[.int .i64 1, .int .i64 (1 + far), .string ⟨#[]⟩] 23)).alloc (.cells #[.int .i64 1, .int .i64 (-1), .string ⟨#[]⟩] 23)) wb.heap.size (Vl.num (1 + far)) from k1)
  have HM := Lib.hid (show VlAt ((wb.alloc (.cells #[.int .i64 1, .int .i64 (1 + far), .string ⟨#[]⟩] 23)).alloc (.cells #[.int .i64 1, .int .i64 (-1), .string ⟨#[]⟩] 23)) (wb.heap.size + 1) (Vl.num (-1)) from k2)
  have k4 : Below wb.heap.size wb ((wb.alloc (.cells #[.int .i64 1, .int .i64 (1 + far), .string ⟨#[]⟩] 23)).alloc (.cells #[.int .i64 1, .int .i64 (-1), .string ⟨#[]⟩] 23)) := k3
  have HNC := Lib.hid (HNB.out.over k4)
  have HBC := Lib.hid (HBB.out.trans (k4.mono HBB.out.size))
  clear k1 k2 k3 k4
  obtain ⟨u, hu⟩ : ∃ u, wb.heap.size = u := ⟨_, rfl⟩
  obtain ⟨wc, hwc⟩ : ∃ wc, ((wb.alloc (.cells #[.int .i64 1, .int .i64 (1 + far), .string ⟨#[]⟩] 23)).alloc (.cells #[.int .i64 1, .int .i64 (-1), .string ⟨#[]⟩] 23)) = wc := ⟨_, rfl⟩
  rw [hwc] at HU HM HNC HBC ⊢
  rw [hu] at HU HM ⊢
  clear hu hwc HNB HBB
  have HBG := Lib.hid HNC.out.2.2.1; have HLW := Lib.hid HNC.out.2.2.2
  obtain ⟨x0, x1, x2⟩ : wc.cell? ⟨q + 1 + 1, 0, none⟩ = some (.int .i64 1) ∧ wc.cell? ⟨q + 1 + 1, 1, none⟩ = some (.int .i64 9223372036854775807) ∧ wc.cell? ⟨q + 1 + 1, 2, none⟩ = some (.string ⟨#[]⟩) := HBG.out.cells
  obtain ⟨y0, y1, y2⟩ : wc.cell? ⟨q + 1 + 1 + 1, 0, none⟩ = some (.int .i64 1) ∧ wc.cell? ⟨q + 1 + 1 + 1, 1, none⟩ = some (.int .i64 (-9223372036854775808)) ∧ wc.cell? ⟨q + 1 + 1 + 1, 2, none⟩ = some (.string ⟨#[]⟩) := HLW.out.cells
  obtain ⟨s0, s1, s2⟩ : wc.cell? ⟨u, 0, none⟩ = some (.int .i64 1) ∧ wc.cell? ⟨u, 1, none⟩ = some (.int .i64 (1 + far)) ∧ wc.cell? ⟨u, 2, none⟩ = some (.string ⟨#[]⟩) := HU.out.cells
  obtain ⟨t0, t1, t2⟩ : wc.cell? ⟨u + 1, 0, none⟩ = some (.int .i64 1) ∧ wc.cell? ⟨u + 1, 1, none⟩ = some (.int .i64 (-1)) ∧ wc.cell? ⟨u + 1, 2, none⟩ = some (.string ⟨#[]⟩) := HM.out.cells
  have HR := Lib.hid ((Below.refl wc.heap.size wc).drew)
  have TT := Lib.hid (fun (wr : World) (hr : Below wc.heap.size wc wr) => HT.out.below (HBC.out.trans (hr.mono HBC.out.size)))
  have TE := Lib.hid (fun (wr : World) (hr : Below wc.heap.size wc wr) => HE.out.below (HBC.out.trans (hr.mono HBC.out.size)))
  clear HT HE g1 g2
  go_region_held3 (fun w' => w'.cell? ⟨q + 1 + 1, 0, none⟩ = some (.int .i64 1) ∧ w'.cell? ⟨q + 1 + 1, 1, none⟩ = some (.int .i64 9223372036854775807) ∧ w'.cell? ⟨q + 1 + 1, 2, none⟩ = some (.string ⟨#[]⟩) ∧ w'.cell? ⟨q + 1 + 1 + 1, 0, none⟩ = some (.int .i64 1) ∧ w'.cell? ⟨q + 1 + 1 + 1, 1, none⟩ = some (.int .i64 (-9223372036854775808)) ∧ w'.cell? ⟨q + 1 + 1 + 1, 2, none⟩ = some (.string ⟨#[]⟩) ∧ w'.cell? ⟨u, 0, none⟩ = some (.int .i64 1) ∧ w'.cell? ⟨u, 1, none⟩ = some (.int .i64 (1 + far)) ∧ w'.cell? ⟨u, 2, none⟩ = some (.string ⟨#[]⟩) ∧ w'.cell? ⟨u + 1, 0, none⟩ = some (.int .i64 1) ∧ w'.cell? ⟨u + 1, 1, none⟩ = some (.int .i64 (-1)) ∧ w'.cell? ⟨u + 1, 2, none⟩ = some (.string ⟨#[]⟩)) (go_keep) (first | (go_at_call 19; ((with_reducible refine (C1.out _ (TT.out _ HR.out) (TE.out _ HR.out)).mono ?_); rintro e w11 ⟨rfl, hb⟩; have HR11 := Lib.hid (HR.out.trans (hb.mono HR.out.size)); obtain ⟨x110, x111, x112⟩ : w11.cell? ⟨q + 1 + 1, 0, none⟩ = some (.int .i64 1) ∧ w11.cell? ⟨q + 1 + 1, 1, none⟩ = some (.int .i64 9223372036854775807) ∧ w11.cell? ⟨q + 1 + 1, 2, none⟩ = some (.string ⟨#[]⟩) := (HBG.out.over HR11.out).cells; obtain ⟨y110, y111, y112⟩ : w11.cell? ⟨q + 1 + 1 + 1, 0, none⟩ = some (.int .i64 1) ∧ w11.cell? ⟨q + 1 + 1 + 1, 1, none⟩ = some (.int .i64 (-9223372036854775808)) ∧ w11.cell? ⟨q + 1 + 1 + 1, 2, none⟩ = some (.string ⟨#[]⟩) := (HLW.out.over HR11.out).cells; obtain ⟨s110, s111, s112⟩ : w11.cell? ⟨u, 0, none⟩ = some (.int .i64 1) ∧ w11.cell? ⟨u, 1, none⟩ = some (.int .i64 (1 + far)) ∧ w11.cell? ⟨u, 2, none⟩ = some (.string ⟨#[]⟩) := (HU.out.over HR11.out).cells; obtain ⟨t110, t111, t112⟩ : w11.cell? ⟨u + 1, 0, none⟩ = some (.int .i64 1) ∧ w11.cell? ⟨u + 1, 1, none⟩ = some (.int .i64 (-1)) ∧ w11.cell? ⟨u + 1, 2, none⟩ = some (.string ⟨#[]⟩) := (HM.out.over HR11.out).cells; clear hb)) | (go_at_call 19; ((with_reducible refine (C2.out _ (TT.out _ HR11.out) (TE.out _ HR11.out)).mono ?_); rintro e w12 ⟨rfl, hb⟩; have HR12 := Lib.hid (HR11.out.trans (hb.mono HR11.out.size)); obtain ⟨x120, x121, x122⟩ : w12.cell? ⟨q + 1 + 1, 0, none⟩ = some (.int .i64 1) ∧ w12.cell? ⟨q + 1 + 1, 1, none⟩ = some (.int .i64 9223372036854775807) ∧ w12.cell? ⟨q + 1 + 1, 2, none⟩ = some (.string ⟨#[]⟩) := (HBG.out.over HR12.out).cells; obtain ⟨y120, y121, y122⟩ : w12.cell? ⟨q + 1 + 1 + 1, 0, none⟩ = some (.int .i64 1) ∧ w12.cell? ⟨q + 1 + 1 + 1, 1, none⟩ = some (.int .i64 (-9223372036854775808)) ∧ w12.cell? ⟨q + 1 + 1 + 1, 2, none⟩ = some (.string ⟨#[]⟩) := (HLW.out.over HR12.out).cells; obtain ⟨s120, s121, s122⟩ : w12.cell? ⟨u, 0, none⟩ = some (.int .i64 1) ∧ w12.cell? ⟨u, 1, none⟩ = some (.int .i64 (1 + far)) ∧ w12.cell? ⟨u, 2, none⟩ = some (.string ⟨#[]⟩) := (HU.out.over HR12.out).cells; obtain ⟨t120, t121, t122⟩ : w12.cell? ⟨u + 1, 0, none⟩ = some (.int .i64 1) ∧ w12.cell? ⟨u + 1, 1, none⟩ = some (.int .i64 (-1)) ∧ w12.cell? ⟨u + 1, 2, none⟩ = some (.string ⟨#[]⟩) := (HM.out.over HR12.out).cells; clear hb)) | (go_at_call 19; ((with_reducible refine (C3.out _ (TT.out _ HR12.out) (TE.out _ HR12.out)).mono ?_); rintro e w13 ⟨rfl, hb⟩; have HR13 := Lib.hid (HR12.out.trans (hb.mono HR12.out.size)); obtain ⟨x130, x131, x132⟩ : w13.cell? ⟨q + 1 + 1, 0, none⟩ = some (.int .i64 1) ∧ w13.cell? ⟨q + 1 + 1, 1, none⟩ = some (.int .i64 9223372036854775807) ∧ w13.cell? ⟨q + 1 + 1, 2, none⟩ = some (.string ⟨#[]⟩) := (HBG.out.over HR13.out).cells; obtain ⟨y130, y131, y132⟩ : w13.cell? ⟨q + 1 + 1 + 1, 0, none⟩ = some (.int .i64 1) ∧ w13.cell? ⟨q + 1 + 1 + 1, 1, none⟩ = some (.int .i64 (-9223372036854775808)) ∧ w13.cell? ⟨q + 1 + 1 + 1, 2, none⟩ = some (.string ⟨#[]⟩) := (HLW.out.over HR13.out).cells; obtain ⟨s130, s131, s132⟩ : w13.cell? ⟨u, 0, none⟩ = some (.int .i64 1) ∧ w13.cell? ⟨u, 1, none⟩ = some (.int .i64 (1 + far)) ∧ w13.cell? ⟨u, 2, none⟩ = some (.string ⟨#[]⟩) := (HU.out.over HR13.out).cells; obtain ⟨t130, t131, t132⟩ : w13.cell? ⟨u + 1, 0, none⟩ = some (.int .i64 1) ∧ w13.cell? ⟨u + 1, 1, none⟩ = some (.int .i64 (-1)) ∧ w13.cell? ⟨u + 1, 2, none⟩ = some (.string ⟨#[]⟩) := (HM.out.over HR13.out).cells; clear hb)) | (go_at_call 17; ((with_reducible refine (C4.out _).mono ?_); rintro e w14 ⟨rfl, hb⟩; have HR14 := Lib.hid (HR13.out.trans (hb.mono HR13.out.size)); obtain ⟨x140, x141, x142⟩ : w14.cell? ⟨q + 1 + 1, 0, none⟩ = some (.int .i64 1) ∧ w14.cell? ⟨q + 1 + 1, 1, none⟩ = some (.int .i64 9223372036854775807) ∧ w14.cell? ⟨q + 1 + 1, 2, none⟩ = some (.string ⟨#[]⟩) := (HBG.out.over HR14.out).cells; obtain ⟨y140, y141, y142⟩ : w14.cell? ⟨q + 1 + 1 + 1, 0, none⟩ = some (.int .i64 1) ∧ w14.cell? ⟨q + 1 + 1 + 1, 1, none⟩ = some (.int .i64 (-9223372036854775808)) ∧ w14.cell? ⟨q + 1 + 1 + 1, 2, none⟩ = some (.string ⟨#[]⟩) := (HLW.out.over HR14.out).cells; obtain ⟨s140, s141, s142⟩ : w14.cell? ⟨u, 0, none⟩ = some (.int .i64 1) ∧ w14.cell? ⟨u, 1, none⟩ = some (.int .i64 (1 + far)) ∧ w14.cell? ⟨u, 2, none⟩ = some (.string ⟨#[]⟩) := (HU.out.over HR14.out).cells; obtain ⟨t140, t141, t142⟩ : w14.cell? ⟨u + 1, 0, none⟩ = some (.int .i64 1) ∧ w14.cell? ⟨u + 1, 1, none⟩ = some (.int .i64 (-1)) ∧ w14.cell? ⟨u + 1, 2, none⟩ = some (.string ⟨#[]⟩) := (HM.out.over HR14.out).cells; clear hb)) | (go_at_call 19; ((with_reducible refine (C5.out _ (TT.out _ HR14.out) (TE.out _ HR14.out)).mono ?_); rintro e w15 ⟨rfl, hb⟩; have HR15 := Lib.hid (HR14.out.trans (hb.mono HR14.out.size)); obtain ⟨x150, x151, x152⟩ : w15.cell? ⟨q + 1 + 1, 0, none⟩ = some (.int .i64 1) ∧ w15.cell? ⟨q + 1 + 1, 1, none⟩ = some (.int .i64 9223372036854775807) ∧ w15.cell? ⟨q + 1 + 1, 2, none⟩ = some (.string ⟨#[]⟩) := (HBG.out.over HR15.out).cells; obtain ⟨y150, y151, y152⟩ : w15.cell? ⟨q + 1 + 1 + 1, 0, none⟩ = some (.int .i64 1) ∧ w15.cell? ⟨q + 1 + 1 + 1, 1, none⟩ = some (.int .i64 (-9223372036854775808)) ∧ w15.cell? ⟨q + 1 + 1 + 1, 2, none⟩ = some (.string ⟨#[]⟩) := (HLW.out.over HR15.out).cells; obtain ⟨s150, s151, s152⟩ : w15.cell? ⟨u, 0, none⟩ = some (.int .i64 1) ∧ w15.cell? ⟨u, 1, none⟩ = some (.int .i64 (1 + far)) ∧ w15.cell? ⟨u, 2, none⟩ = some (.string ⟨#[]⟩) := (HU.out.over HR15.out).cells; obtain ⟨t150, t151, t152⟩ : w15.cell? ⟨u + 1, 0, none⟩ = some (.int .i64 1) ∧ w15.cell? ⟨u + 1, 1, none⟩ = some (.int .i64 (-1)) ∧ w15.cell? ⟨u + 1, 2, none⟩ = some (.string ⟨#[]⟩) := (HM.out.over HR15.out).cells; clear hb)) | (go_at_call 19; ((with_reducible refine (C6.out _ (TT.out _ HR15.out) (TE.out _ HR15.out)).mono ?_); rintro e w16 ⟨rfl, hb⟩; have HR16 := Lib.hid (HR15.out.trans (hb.mono HR15.out.size)); obtain ⟨x160, x161, x162⟩ : w16.cell? ⟨q + 1 + 1, 0, none⟩ = some (.int .i64 1) ∧ w16.cell? ⟨q + 1 + 1, 1, none⟩ = some (.int .i64 9223372036854775807) ∧ w16.cell? ⟨q + 1 + 1, 2, none⟩ = some (.string ⟨#[]⟩) := (HBG.out.over HR16.out).cells; obtain ⟨y160, y161, y162⟩ : w16.cell? ⟨q + 1 + 1 + 1, 0, none⟩ = some (.int .i64 1) ∧ w16.cell? ⟨q + 1 + 1 + 1, 1, none⟩ = some (.int .i64 (-9223372036854775808)) ∧ w16.cell? ⟨q + 1 + 1 + 1, 2, none⟩ = some (.string ⟨#[]⟩) := (HLW.out.over HR16.out).cells; obtain ⟨s160, s161, s162⟩ : w16.cell? ⟨u, 0, none⟩ = some (.int .i64 1) ∧ w16.cell? ⟨u, 1, none⟩ = some (.int .i64 (1 + far)) ∧ w16.cell? ⟨u, 2, none⟩ = some (.string ⟨#[]⟩) := (HU.out.over HR16.out).cells; obtain ⟨t160, t161, t162⟩ : w16.cell? ⟨u + 1, 0, none⟩ = some (.int .i64 1) ∧ w16.cell? ⟨u + 1, 1, none⟩ = some (.int .i64 (-1)) ∧ w16.cell? ⟨u + 1, 2, none⟩ = some (.string ⟨#[]⟩) := (HM.out.over HR16.out).cells; clear hb)) | (go_at_call 19; ((with_reducible refine (C7.out _ (TT.out _ HR16.out) (TE.out _ HR16.out)).mono ?_); rintro e w17 ⟨rfl, hb⟩; have HR17 := Lib.hid (HR16.out.trans (hb.mono HR16.out.size)); obtain ⟨x170, x171, x172⟩ : w17.cell? ⟨q + 1 + 1, 0, none⟩ = some (.int .i64 1) ∧ w17.cell? ⟨q + 1 + 1, 1, none⟩ = some (.int .i64 9223372036854775807) ∧ w17.cell? ⟨q + 1 + 1, 2, none⟩ = some (.string ⟨#[]⟩) := (HBG.out.over HR17.out).cells; obtain ⟨y170, y171, y172⟩ : w17.cell? ⟨q + 1 + 1 + 1, 0, none⟩ = some (.int .i64 1) ∧ w17.cell? ⟨q + 1 + 1 + 1, 1, none⟩ = some (.int .i64 (-9223372036854775808)) ∧ w17.cell? ⟨q + 1 + 1 + 1, 2, none⟩ = some (.string ⟨#[]⟩) := (HLW.out.over HR17.out).cells; obtain ⟨s170, s171, s172⟩ : w17.cell? ⟨u, 0, none⟩ = some (.int .i64 1) ∧ w17.cell? ⟨u, 1, none⟩ = some (.int .i64 (1 + far)) ∧ w17.cell? ⟨u, 2, none⟩ = some (.string ⟨#[]⟩) := (HU.out.over HR17.out).cells; obtain ⟨t170, t171, t172⟩ : w17.cell? ⟨u + 1, 0, none⟩ = some (.int .i64 1) ∧ w17.cell? ⟨u + 1, 1, none⟩ = some (.int .i64 (-1)) ∧ w17.cell? ⟨u + 1, 2, none⟩ = some (.string ⟨#[]⟩) := (HM.out.over HR17.out).cells; clear hb)))
  obtain ⟨HRW, HBD⟩ := e7_open w17
  have HRW := Lib.hid HRW
  have HBD := Lib.hid ((HBC.out.trans (HR17.out.mono HBC.out.size)).trans (HBD.mono (HBC.out.trans (HR17.out.mono HBC.out.size)).size))
  have HTD := Lib.hid (TT.out _ (HR17.out.trans ((e7_open w17).2.mono HR17.out.size)))
  have HED := Lib.hid (TE.out _ (HR17.out.trans ((e7_open w17).2.mono HR17.out.size)))
  have hla : (w17.alloc (.cells #[.int .i64 4, .int .i64 2, .string ⟨#[]⟩, .int .i64 4, .int .i64 2, .string ⟨#[]⟩, .int .i64 4, .int .i64 2, .string ⟨#[]⟩, .int .i64 4, .int .i64 2, .string ⟨#[]⟩, .int .i64 4, .int .i64 2, .string ⟨#[]⟩, .int .i64 4, .int .i64 2, .string ⟨#[]⟩, .int .i64 4, .int .i64 2, .string ⟨#[]⟩] 23)) = (w17.alloc (.cells e7A 23)) := rfl
  rw [hla]
  obtain ⟨sb7, hs7⟩ : ∃ s, w17.heap.size = s := ⟨_, rfl⟩
  obtain ⟨wd, hwd⟩ : ∃ wd, (w17.alloc (.cells e7A 23)) = wd := ⟨_, rfl⟩
  rw [hwd] at HRW HBD HTD HED ⊢
  rw [hs7] at HRW ⊢
  clear hla hs7 hwd HU HM HNC HBC HBG HLW HR TT TE HR11 HR12 HR13 HR14 HR15 HR16 HR17 C1 C2 C3 C4 C5 C6 C7 x0 x1 x2 y0 y1 y2 s0 s1 s2 t0 t1 t2 x110 x111 x112 y110 y111 y112 s110 s111 s112 t110 t111 t112 x120 x121 x122 y120 y121 y122 s120 s121 s122 t120 t121 t122 x130 x131 x132 y130 y131 y132 s130 s131 s132 t130 t131 t132 x140 x141 x142 y140 y141 y142 s140 s141 s142 t140 t141 t142 x150 x151 x152 y150 y151 y152 s150 s151 s152 t150 t151 t152 x160 x161 x162 y160 y161 y162 s160 s161 s162 t160 t161 t162 x170 x171 x172 y170 y171 y172 s170 s171 s172 t170 t171 t172
  have HAW := Lib.hid (awake7_any wd HTD.out HED.out)
  go_wp2_with fail
  go_loopw [15] (fun i wr => ∃ j : Nat, j ≤ 7 ∧ i = .int .i64 (j : Int) ∧ wd = wr)
    (fun i _ => 7 - (intOf i).toNat)
  case atStart => exact ⟨0, by omega, rfl, rfl⟩
  case round =>
    obtain ⟨j, hj, rfl, rfl⟩ := hrel
    by_cases hlt : j < 7
    · have hji : (j : Int) < 7 := by omega
      have hj0 : (0 : Int) ≤ (j : Int) := by omega
      have k0 : wd.cell? ⟨sb7, j * 3, none⟩ = some (.int .i64 4) := by rw [cell_of_row wd sb7 (j * 3) _ _ _ HRW.out]; exact (e7_at j hlt).1
      have k1 : wd.cell? ⟨sb7, j * 3 + 1, none⟩ = some (.int .i64 2) := by rw [cell_of_row wd sb7 (j * 3 + 1) _ _ _ HRW.out]; exact (e7_at j hlt).2
      go_wp2_with fail
      go_roundw
      case rel => exact ⟨j + 1, by omega, by go_num, trivial⟩
      case measure => simp [intOf]; omega
    · have hji : ¬ (j : Int) < 7 := by omega
      go_wp2_with (go_at_call 10; ((with_reducible refine HAW.out.mono ?_); rintro e w20 ⟨rfl, hb⟩; have HB20 := Lib.hid (HBD.out.trans (hb.mono HBD.out.size)); clear hb))
      go_ret
      exact ⟨rfl, HB20.out⟩
set_option maxRecDepth 100000 in
set_option maxHeartbeats 1600000 in
theorem valSums_else (a b far : Int) (a0 : -2147483648 ≤ a) (a1 : a ≤ 2147483647) (b0 : -2147483648 ≤ b) (b1 : b ≤ 2147483647) (f0 : 0 ≤ far) (f1 : far ≤ 255) (hb : ¬ b = 0) (w : World) (ht : Tab w) (he : EtV w) :
    Calls Tryd.prog 5 #[.int .i32 a, .int .i32 b, .int .u8 far] w fun e w' => e = .returned (.bool true) ∧ Below w.heap.size w w' := by
  have hab : -4611686018427387904 ≤ a * b ∧ a * b ≤ 4611686018427387904 := by
    have h1 : a.natAbs ≤ 2147483648 := by omega
    have h2 : b.natAbs ≤ 2147483648 := by omega
    have h3 := Nat.mul_le_mul h1 h2
    rw [← Int.natAbs_mul] at h3
    omega
  have p1 : ∀ w : World, Tab w → EtV w → Calls Tryd.prog 19 #[.int .i64 16, .agg #[.int .i64 1, .int .i64 a, .string ⟨#[]⟩], .agg #[.int .i64 1, .int .i64 b, .string ⟨#[]⟩]] w fun e w' => e = .returned (.agg #[.int .i64 1, .int .i64 (a + b), .string ⟨#[]⟩]) ∧ Below w.heap.size w w' := two_num 16 a b (Vl.num (a + b)) (by omega) (by omega) (by omega) (by omega) (by rw [op_sum, fit_in (by omega) (by omega)])
  have p2 : ∀ w : World, Tab w → EtV w → Calls Tryd.prog 19 #[.int .i64 17, .agg #[.int .i64 1, .int .i64 a, .string ⟨#[]⟩], .agg #[.int .i64 1, .int .i64 b, .string ⟨#[]⟩]] w fun e w' => e = .returned (.agg #[.int .i64 1, .int .i64 (a - b), .string ⟨#[]⟩]) ∧ Below w.heap.size w w' := two_num 17 a b (Vl.num (a - b)) (by omega) (by omega) (by omega) (by omega) (by rw [op_sub, fit_in (by omega) (by omega)])
  have p3 : ∀ w : World, Tab w → EtV w → Calls Tryd.prog 19 #[.int .i64 18, .agg #[.int .i64 1, .int .i64 a, .string ⟨#[]⟩], .agg #[.int .i64 1, .int .i64 b, .string ⟨#[]⟩]] w fun e w' => e = .returned (.agg #[.int .i64 1, .int .i64 (a * b), .string ⟨#[]⟩]) ∧ Below w.heap.size w w' := two_num 18 a b (Vl.num (a * b)) (by omega) (by omega) (by omega) (by omega) (by rw [op_mul, fit_in (by omega) (by omega)])
  have htd : -2147483648 ≤ a.tdiv b ∧ a.tdiv b ≤ 2147483648 := by
    have h1 : (a.tdiv b).natAbs = a.natAbs / b.natAbs := Int.natAbs_tdiv a b
    have h2 : a.natAbs / b.natAbs ≤ a.natAbs := Nat.div_le_self _ _
    omega
  have p4 : ∀ w : World, Tab w → EtV w → Calls Tryd.prog 19 #[.int .i64 19, .agg #[.int .i64 1, .int .i64 a, .string ⟨#[]⟩], .agg #[.int .i64 1, .int .i64 b, .string ⟨#[]⟩]] w fun e w' => e = .returned (.agg #[.int .i64 1, .int .i64 (a.tdiv b), .string ⟨#[]⟩]) ∧ Below w.heap.size w w' := two_num 19 a b (Vl.num (a.tdiv b)) (by omega) (by omega) (by omega) (by omega) (by rw [op_div]; unfold divV; rw [if_neg hb, fit_in (by omega) (by omega)])
  have g1 : (b == 0) = false := beq_eq_false_iff_ne.2 hb
  have g2 : (b != 0) = true := by rw [bne, g1]; rfl
  have g3 : IntKind.i64.wrap (a.tdiv b) = a.tdiv b := by rw [IntKind.wrap_i64]; omega
  have g4 : wrap64 (a.tdiv b) = a.tdiv b := by unfold wrap64; omega
  clear htd
  have e1 : wrap64 (a + b) = a + b := by unfold wrap64; omega
  have e2 : wrap64 (a - b) = a - b := by unfold wrap64; omega
  have e3 : wrap64 (a * b) = a * b := by unfold wrap64; omega
  have e4 : IntKind.i64.wrap a = a := by rw [IntKind.wrap_i64]; omega
  have e5 : IntKind.i64.wrap b = b := by rw [IntKind.wrap_i64]; omega
  have e6 : wrap64 a = a := by unfold wrap64; omega
  have e7 : wrap64 b = b := by unfold wrap64; omega
  have fn1 := run_num_n 1 (a + b) ⟨#[]⟩
  have fn2 := run_num_n 1 (a - b) ⟨#[]⟩
  have fn3 := run_num_n 1 (a * b) ⟨#[]⟩
  have P1 := Lib.hid p1; have P2 := Lib.hid p2; have P3 := Lib.hid p3; have P4 := Lib.hid p4
  have HT := Lib.hid ht; have HE := Lib.hid he
  have HAF := Lib.hid (And.intro f0 f1)
  have HN := Lib.hid (N4.new w a b).1; have HB := Lib.hid (N4.new w a b).2
  clear p1 p2 p3 p4 ht he hab f0 f1
  go_enter Tryd.func5, Tryd.ntmps5
  go_upto_region 3 with fail
  obtain ⟨q, hq⟩ : ∃ q, w.heap.size = q := ⟨_, rfl⟩
  obtain ⟨w1, hw1⟩ : ∃ w1, ((((w.alloc (.cells #[.int .i64 1, .int .i64 a, .string ⟨#[]⟩] 23)).alloc (.cells #[.int .i64 1, .int .i64 b, .string ⟨#[]⟩] 23)).alloc (.cells #[.int .i64 1, .int .i64 9223372036854775807, .string ⟨#[]⟩] 23)).alloc (.cells #[.int .i64 1, .int .i64 (-9223372036854775808), .string ⟨#[]⟩] 23)) = w1 := ⟨_, rfl⟩
  rw [hw1] at HN HB ⊢
  rw [hq] at HN ⊢
  clear hq hw1
  have HX := Lib.hid HN.out.1; have HY := Lib.hid HN.out.2.1
  obtain ⟨x0, x1, x2⟩ : w1.cell? ⟨q, 0, none⟩ = some (.int .i64 1) ∧ w1.cell? ⟨q, 1, none⟩ = some (.int .i64 a) ∧ w1.cell? ⟨q, 2, none⟩ = some (.string ⟨#[]⟩) := HX.out.cells
  obtain ⟨y0, y1, y2⟩ : w1.cell? ⟨q + 1, 0, none⟩ = some (.int .i64 1) ∧ w1.cell? ⟨q + 1, 1, none⟩ = some (.int .i64 b) ∧ w1.cell? ⟨q + 1, 2, none⟩ = some (.string ⟨#[]⟩) := HY.out.cells
  go_upto_region 6 with (first
    | (go_at_call 19; ((with_reducible refine (P1.out _ (HT.out.below HB.out) (HE.out.below HB.out)).mono ?_); rintro e w2 ⟨rfl, hb⟩; have HB2 := Lib.hid (HB.out.trans (hb.mono HB.out.size)); have HN2 := Lib.hid (HN.out.over hb); obtain ⟨x20, x21, x22⟩ : w2.cell? ⟨q, 0, none⟩ = some (.int .i64 1) ∧ w2.cell? ⟨q, 1, none⟩ = some (.int .i64 a) ∧ w2.cell? ⟨q, 2, none⟩ = some (.string ⟨#[]⟩) := HN2.out.1.cells; obtain ⟨y20, y21, y22⟩ : w2.cell? ⟨q + 1, 0, none⟩ = some (.int .i64 1) ∧ w2.cell? ⟨q + 1, 1, none⟩ = some (.int .i64 b) ∧ w2.cell? ⟨q + 1, 2, none⟩ = some (.string ⟨#[]⟩) := HN2.out.2.1.cells; clear hb))
    | (go_at_call 19; ((with_reducible refine (P2.out _ (HT.out.below HB2.out) (HE.out.below HB2.out)).mono ?_); rintro e w3 ⟨rfl, hb⟩; have HB3 := Lib.hid (HB2.out.trans (hb.mono HB2.out.size)); have HN3 := Lib.hid (HN2.out.over hb); obtain ⟨x30, x31, x32⟩ : w3.cell? ⟨q, 0, none⟩ = some (.int .i64 1) ∧ w3.cell? ⟨q, 1, none⟩ = some (.int .i64 a) ∧ w3.cell? ⟨q, 2, none⟩ = some (.string ⟨#[]⟩) := HN3.out.1.cells; obtain ⟨y30, y31, y32⟩ : w3.cell? ⟨q + 1, 0, none⟩ = some (.int .i64 1) ∧ w3.cell? ⟨q + 1, 1, none⟩ = some (.int .i64 b) ∧ w3.cell? ⟨q + 1, 2, none⟩ = some (.string ⟨#[]⟩) := HN3.out.2.1.cells; clear hb))
    | (go_at_call 19; ((with_reducible refine (P3.out _ (HT.out.below HB3.out) (HE.out.below HB3.out)).mono ?_); rintro e w4 ⟨rfl, hb⟩; have HB4 := Lib.hid (HB3.out.trans (hb.mono HB3.out.size)); have HN4 := Lib.hid (HN3.out.over hb); obtain ⟨x40, x41, x42⟩ : w4.cell? ⟨q, 0, none⟩ = some (.int .i64 1) ∧ w4.cell? ⟨q, 1, none⟩ = some (.int .i64 a) ∧ w4.cell? ⟨q, 2, none⟩ = some (.string ⟨#[]⟩) := HN4.out.1.cells; obtain ⟨y40, y41, y42⟩ : w4.cell? ⟨q + 1, 0, none⟩ = some (.int .i64 1) ∧ w4.cell? ⟨q + 1, 1, none⟩ = some (.int .i64 b) ∧ w4.cell? ⟨q + 1, 2, none⟩ = some (.string ⟨#[]⟩) := HN4.out.2.1.cells; clear hb))
    | (go_at_call 19; ((with_reducible refine (P4.out _ (HT.out.below HB4.out) (HE.out.below HB4.out)).mono ?_); rintro e w5 ⟨rfl, hb⟩; have HB5 := Lib.hid (HB4.out.trans (hb.mono HB4.out.size)); have HN5 := Lib.hid (HN4.out.over hb); obtain ⟨x50, x51, x52⟩ : w5.cell? ⟨q, 0, none⟩ = some (.int .i64 1) ∧ w5.cell? ⟨q, 1, none⟩ = some (.int .i64 a) ∧ w5.cell? ⟨q, 2, none⟩ = some (.string ⟨#[]⟩) := HN5.out.1.cells; obtain ⟨y50, y51, y52⟩ : w5.cell? ⟨q + 1, 0, none⟩ = some (.int .i64 1) ∧ w5.cell? ⟨q + 1, 1, none⟩ = some (.int .i64 b) ∧ w5.cell? ⟨q + 1, 2, none⟩ = some (.string ⟨#[]⟩) := HN5.out.2.1.cells; clear hb)))
  have HQ := Lib.hid (show VlAt (w5.alloc (.cells #[.int .i64 1, .int .i64 (a.tdiv b), .string ⟨#[]⟩] 23)) w5.heap.size (Vl.num (a.tdiv b)) from VlAt.new w5 (Vl.num (a.tdiv b)))
  have hbq : Below w5.heap.size w5 (w5.alloc (.cells #[.int .i64 1, .int .i64 (a.tdiv b), .string ⟨#[]⟩] 23)) := below_vl w5 (Vl.num (a.tdiv b))
  have HNA := Lib.hid (HN5.out.over hbq)
  have HBA := Lib.hid (HB5.out.trans (hbq.mono HB5.out.size))
  clear hbq
  obtain ⟨r, hr⟩ : ∃ r, w5.heap.size = r := ⟨_, rfl⟩
  obtain ⟨wa, hwa⟩ : ∃ wa, w5.alloc (.cells #[.int .i64 1, .int .i64 (a.tdiv b), .string ⟨#[]⟩] 23) = wa := ⟨_, rfl⟩
  rw [hwa] at HQ HNA HBA ⊢
  rw [hr] at HQ ⊢
  clear hr hwa HN HB HX HY HN2 HB2 HN3 HB3 HN4 HB4 HN5 HB5 P1 P2 P3 P4 x0 x1 x2 y0 y1 y2 x20 y20 x21 y21 x22 y22 x30 y30 x31 y31 x32 y32 x40 y40 x41 y41 x42 y42 x50 y50 x51 y51 x52 y52 fn1 fn2 fn3 e1 e2 e3
  obtain ⟨z0, z1, z2⟩ : wa.cell? ⟨r, 0, none⟩ = some (.int .i64 1) ∧ wa.cell? ⟨r, 1, none⟩ = some (.int .i64 (a.tdiv b)) ∧ wa.cell? ⟨r, 2, none⟩ = some (.string ⟨#[]⟩) := HQ.out.cells
  go_quiet (fail)
  have HDB := Lib.hid (show Below wa.heap.size wa (wa.drewN nq) from ⟨rfl, rfl, rfl, Nat.le_refl _, fun _ _ => rfl⟩)
  have HNB := Lib.hid (HNA.out.over HDB.out)
  have HBB := Lib.hid (HBA.out.trans (HDB.out.mono HBA.out.size))
  obtain ⟨wb, hwb⟩ : ∃ wb, wa.drewN nq = wb := ⟨_, rfl⟩
  rw [hwb] at HNB HBB ⊢
  clear hwb HDB HNA HBA HQ z0 z1 z2
  obtain ⟨f0, f1⟩ := HAF.out
  have e8 : IntKind.i64.wrap far = far := by rw [IntKind.wrap_i64]; omega
  have e9 : wrap64 far = far := by unfold wrap64; omega
  have e10 : wrap64 (1 + far) = 1 + far := by unfold wrap64; omega
  have e11 : wrap64 (2 + far) = 2 + far := by unfold wrap64; omega
  have e12 : IntKind.i64.wrap (2 + far) = 2 + far := by rw [IntKind.wrap_i64]; omega
  have hE : ∀ (k x y : Int), -9223372036854775808 ≤ x → x ≤ 9223372036854775807 → -9223372036854775808 ≤ y → y ≤ 9223372036854775807 → opV k (Vl.num x) (Vl.num y) = Vl.err 2 → ∀ w : World, Tab w → EtV w → Calls Tryd.prog 19 #[.int .i64 k, .agg #[.int .i64 1, .int .i64 x, .string ⟨#[]⟩], .agg #[.int .i64 1, .int .i64 y, .string ⟨#[]⟩]] w fun e w' => e = .returned (.agg #[.int .i64 4, .int .i64 2, .string ⟨#[]⟩]) ∧ Below w.heap.size w w' := fun k x y h1 h2 h3 h4 h5 => two_num k x y (Vl.err 2) h1 h2 h3 h4 h5
  have c1 := hE 16 9223372036854775807 (1 + far) (by decide) (by decide) (by omega) (by omega) (by rw [op_sum, fit_out (by omega)])
  have c2 := hE 17 (-9223372036854775808) (1 + far) (by decide) (by decide) (by omega) (by omega) (by rw [op_sub, fit_out (by omega)])
  have c3 := hE 18 9223372036854775807 (2 + far) (by decide) (by decide) (by omega) (by omega) (by rw [op_mul, fit_out (by omega)])
  have c5 := hE 19 (-9223372036854775808) (-1) (by decide) (by decide) (by decide) (by decide) (by rw [op_div]; unfold divV; rw [if_neg (by decide), fit_out (by decide)])
  have c6 := hE 18 (-9223372036854775808) (-1) (by decide) (by decide) (by decide) (by decide) (by rw [op_mul, fit_out (by decide)])
  have c7 := hE 18 (-1) (-9223372036854775808) (by decide) (by decide) (by decide) (by decide) (by rw [op_mul, fit_out (by decide)])
  have c4 : ∀ w : World, Calls Tryd.prog 17 #[.agg #[.int .i64 1, .int .i64 (-9223372036854775808), .string ⟨#[]⟩]] w fun e w' => e = .returned (.agg #[.int .i64 4, .int .i64 2, .string ⟨#[]⟩]) ∧ Below w.heap.size w w' := by
    have h := neg_any (Vl.num (-9223372036854775808)) (ok_num _ (by decide) (by decide))
    rw [show negV (Vl.num (-9223372036854775808)) = Vl.err 2 from by
      rw [show negV (Vl.num (-9223372036854775808)) = fitV (- (-9223372036854775808)) from rfl, fit_out (by decide)]] at h
    exact h
  have C1 := Lib.hid c1; have C2 := Lib.hid c2; have C3 := Lib.hid c3; have C4 := Lib.hid c4; have C5 := Lib.hid c5; have C6 := Lib.hid c6; have C7 := Lib.hid c7
  clear hE c1 c2 c3 c4 c5 c6 c7 f0 f1 HAF
  go_upto_region 10 with fail
  obtain ⟨k1, k2, k3⟩ := vl_pair wb (Vl.num (1 + far)) (Vl.num (-1))
  have HU := Lib.hid (show VlAt ((wb.alloc (.cells #[.int .i64 1, .int .i64 (1 + far), .string ⟨#[]⟩] 23)).alloc (.cells #[.int .i64 1, .int .i64 (-1), .string ⟨#[]⟩] 23)) wb.heap.size (Vl.num (1 + far)) from k1)
  have HM := Lib.hid (show VlAt ((wb.alloc (.cells #[.int .i64 1, .int .i64 (1 + far), .string ⟨#[]⟩] 23)).alloc (.cells #[.int .i64 1, .int .i64 (-1), .string ⟨#[]⟩] 23)) (wb.heap.size + 1) (Vl.num (-1)) from k2)
  have k4 : Below wb.heap.size wb ((wb.alloc (.cells #[.int .i64 1, .int .i64 (1 + far), .string ⟨#[]⟩] 23)).alloc (.cells #[.int .i64 1, .int .i64 (-1), .string ⟨#[]⟩] 23)) := k3
  have HNC := Lib.hid (HNB.out.over k4)
  have HBC := Lib.hid (HBB.out.trans (k4.mono HBB.out.size))
  clear k1 k2 k3 k4
  obtain ⟨u, hu⟩ : ∃ u, wb.heap.size = u := ⟨_, rfl⟩
  obtain ⟨wc, hwc⟩ : ∃ wc, ((wb.alloc (.cells #[.int .i64 1, .int .i64 (1 + far), .string ⟨#[]⟩] 23)).alloc (.cells #[.int .i64 1, .int .i64 (-1), .string ⟨#[]⟩] 23)) = wc := ⟨_, rfl⟩
  rw [hwc] at HU HM HNC HBC ⊢
  rw [hu] at HU HM ⊢
  clear hu hwc HNB HBB
  have HBG := Lib.hid HNC.out.2.2.1; have HLW := Lib.hid HNC.out.2.2.2
  obtain ⟨x0, x1, x2⟩ : wc.cell? ⟨q + 1 + 1, 0, none⟩ = some (.int .i64 1) ∧ wc.cell? ⟨q + 1 + 1, 1, none⟩ = some (.int .i64 9223372036854775807) ∧ wc.cell? ⟨q + 1 + 1, 2, none⟩ = some (.string ⟨#[]⟩) := HBG.out.cells
  obtain ⟨y0, y1, y2⟩ : wc.cell? ⟨q + 1 + 1 + 1, 0, none⟩ = some (.int .i64 1) ∧ wc.cell? ⟨q + 1 + 1 + 1, 1, none⟩ = some (.int .i64 (-9223372036854775808)) ∧ wc.cell? ⟨q + 1 + 1 + 1, 2, none⟩ = some (.string ⟨#[]⟩) := HLW.out.cells
  obtain ⟨s0, s1, s2⟩ : wc.cell? ⟨u, 0, none⟩ = some (.int .i64 1) ∧ wc.cell? ⟨u, 1, none⟩ = some (.int .i64 (1 + far)) ∧ wc.cell? ⟨u, 2, none⟩ = some (.string ⟨#[]⟩) := HU.out.cells
  obtain ⟨t0, t1, t2⟩ : wc.cell? ⟨u + 1, 0, none⟩ = some (.int .i64 1) ∧ wc.cell? ⟨u + 1, 1, none⟩ = some (.int .i64 (-1)) ∧ wc.cell? ⟨u + 1, 2, none⟩ = some (.string ⟨#[]⟩) := HM.out.cells
  have HR := Lib.hid ((Below.refl wc.heap.size wc).drew)
  have TT := Lib.hid (fun (wr : World) (hr : Below wc.heap.size wc wr) => HT.out.below (HBC.out.trans (hr.mono HBC.out.size)))
  have TE := Lib.hid (fun (wr : World) (hr : Below wc.heap.size wc wr) => HE.out.below (HBC.out.trans (hr.mono HBC.out.size)))
  clear HT HE g1 g2
  go_region_held3 (fun w' => w'.cell? ⟨q + 1 + 1, 0, none⟩ = some (.int .i64 1) ∧ w'.cell? ⟨q + 1 + 1, 1, none⟩ = some (.int .i64 9223372036854775807) ∧ w'.cell? ⟨q + 1 + 1, 2, none⟩ = some (.string ⟨#[]⟩) ∧ w'.cell? ⟨q + 1 + 1 + 1, 0, none⟩ = some (.int .i64 1) ∧ w'.cell? ⟨q + 1 + 1 + 1, 1, none⟩ = some (.int .i64 (-9223372036854775808)) ∧ w'.cell? ⟨q + 1 + 1 + 1, 2, none⟩ = some (.string ⟨#[]⟩) ∧ w'.cell? ⟨u, 0, none⟩ = some (.int .i64 1) ∧ w'.cell? ⟨u, 1, none⟩ = some (.int .i64 (1 + far)) ∧ w'.cell? ⟨u, 2, none⟩ = some (.string ⟨#[]⟩) ∧ w'.cell? ⟨u + 1, 0, none⟩ = some (.int .i64 1) ∧ w'.cell? ⟨u + 1, 1, none⟩ = some (.int .i64 (-1)) ∧ w'.cell? ⟨u + 1, 2, none⟩ = some (.string ⟨#[]⟩)) (go_keep) (first | (go_at_call 19; ((with_reducible refine (C1.out _ (TT.out _ HR.out) (TE.out _ HR.out)).mono ?_); rintro e w11 ⟨rfl, hb⟩; have HR11 := Lib.hid (HR.out.trans (hb.mono HR.out.size)); obtain ⟨x110, x111, x112⟩ : w11.cell? ⟨q + 1 + 1, 0, none⟩ = some (.int .i64 1) ∧ w11.cell? ⟨q + 1 + 1, 1, none⟩ = some (.int .i64 9223372036854775807) ∧ w11.cell? ⟨q + 1 + 1, 2, none⟩ = some (.string ⟨#[]⟩) := (HBG.out.over HR11.out).cells; obtain ⟨y110, y111, y112⟩ : w11.cell? ⟨q + 1 + 1 + 1, 0, none⟩ = some (.int .i64 1) ∧ w11.cell? ⟨q + 1 + 1 + 1, 1, none⟩ = some (.int .i64 (-9223372036854775808)) ∧ w11.cell? ⟨q + 1 + 1 + 1, 2, none⟩ = some (.string ⟨#[]⟩) := (HLW.out.over HR11.out).cells; obtain ⟨s110, s111, s112⟩ : w11.cell? ⟨u, 0, none⟩ = some (.int .i64 1) ∧ w11.cell? ⟨u, 1, none⟩ = some (.int .i64 (1 + far)) ∧ w11.cell? ⟨u, 2, none⟩ = some (.string ⟨#[]⟩) := (HU.out.over HR11.out).cells; obtain ⟨t110, t111, t112⟩ : w11.cell? ⟨u + 1, 0, none⟩ = some (.int .i64 1) ∧ w11.cell? ⟨u + 1, 1, none⟩ = some (.int .i64 (-1)) ∧ w11.cell? ⟨u + 1, 2, none⟩ = some (.string ⟨#[]⟩) := (HM.out.over HR11.out).cells; clear hb)) | (go_at_call 19; ((with_reducible refine (C2.out _ (TT.out _ HR11.out) (TE.out _ HR11.out)).mono ?_); rintro e w12 ⟨rfl, hb⟩; have HR12 := Lib.hid (HR11.out.trans (hb.mono HR11.out.size)); obtain ⟨x120, x121, x122⟩ : w12.cell? ⟨q + 1 + 1, 0, none⟩ = some (.int .i64 1) ∧ w12.cell? ⟨q + 1 + 1, 1, none⟩ = some (.int .i64 9223372036854775807) ∧ w12.cell? ⟨q + 1 + 1, 2, none⟩ = some (.string ⟨#[]⟩) := (HBG.out.over HR12.out).cells; obtain ⟨y120, y121, y122⟩ : w12.cell? ⟨q + 1 + 1 + 1, 0, none⟩ = some (.int .i64 1) ∧ w12.cell? ⟨q + 1 + 1 + 1, 1, none⟩ = some (.int .i64 (-9223372036854775808)) ∧ w12.cell? ⟨q + 1 + 1 + 1, 2, none⟩ = some (.string ⟨#[]⟩) := (HLW.out.over HR12.out).cells; obtain ⟨s120, s121, s122⟩ : w12.cell? ⟨u, 0, none⟩ = some (.int .i64 1) ∧ w12.cell? ⟨u, 1, none⟩ = some (.int .i64 (1 + far)) ∧ w12.cell? ⟨u, 2, none⟩ = some (.string ⟨#[]⟩) := (HU.out.over HR12.out).cells; obtain ⟨t120, t121, t122⟩ : w12.cell? ⟨u + 1, 0, none⟩ = some (.int .i64 1) ∧ w12.cell? ⟨u + 1, 1, none⟩ = some (.int .i64 (-1)) ∧ w12.cell? ⟨u + 1, 2, none⟩ = some (.string ⟨#[]⟩) := (HM.out.over HR12.out).cells; clear hb)) | (go_at_call 19; ((with_reducible refine (C3.out _ (TT.out _ HR12.out) (TE.out _ HR12.out)).mono ?_); rintro e w13 ⟨rfl, hb⟩; have HR13 := Lib.hid (HR12.out.trans (hb.mono HR12.out.size)); obtain ⟨x130, x131, x132⟩ : w13.cell? ⟨q + 1 + 1, 0, none⟩ = some (.int .i64 1) ∧ w13.cell? ⟨q + 1 + 1, 1, none⟩ = some (.int .i64 9223372036854775807) ∧ w13.cell? ⟨q + 1 + 1, 2, none⟩ = some (.string ⟨#[]⟩) := (HBG.out.over HR13.out).cells; obtain ⟨y130, y131, y132⟩ : w13.cell? ⟨q + 1 + 1 + 1, 0, none⟩ = some (.int .i64 1) ∧ w13.cell? ⟨q + 1 + 1 + 1, 1, none⟩ = some (.int .i64 (-9223372036854775808)) ∧ w13.cell? ⟨q + 1 + 1 + 1, 2, none⟩ = some (.string ⟨#[]⟩) := (HLW.out.over HR13.out).cells; obtain ⟨s130, s131, s132⟩ : w13.cell? ⟨u, 0, none⟩ = some (.int .i64 1) ∧ w13.cell? ⟨u, 1, none⟩ = some (.int .i64 (1 + far)) ∧ w13.cell? ⟨u, 2, none⟩ = some (.string ⟨#[]⟩) := (HU.out.over HR13.out).cells; obtain ⟨t130, t131, t132⟩ : w13.cell? ⟨u + 1, 0, none⟩ = some (.int .i64 1) ∧ w13.cell? ⟨u + 1, 1, none⟩ = some (.int .i64 (-1)) ∧ w13.cell? ⟨u + 1, 2, none⟩ = some (.string ⟨#[]⟩) := (HM.out.over HR13.out).cells; clear hb)) | (go_at_call 17; ((with_reducible refine (C4.out _).mono ?_); rintro e w14 ⟨rfl, hb⟩; have HR14 := Lib.hid (HR13.out.trans (hb.mono HR13.out.size)); obtain ⟨x140, x141, x142⟩ : w14.cell? ⟨q + 1 + 1, 0, none⟩ = some (.int .i64 1) ∧ w14.cell? ⟨q + 1 + 1, 1, none⟩ = some (.int .i64 9223372036854775807) ∧ w14.cell? ⟨q + 1 + 1, 2, none⟩ = some (.string ⟨#[]⟩) := (HBG.out.over HR14.out).cells; obtain ⟨y140, y141, y142⟩ : w14.cell? ⟨q + 1 + 1 + 1, 0, none⟩ = some (.int .i64 1) ∧ w14.cell? ⟨q + 1 + 1 + 1, 1, none⟩ = some (.int .i64 (-9223372036854775808)) ∧ w14.cell? ⟨q + 1 + 1 + 1, 2, none⟩ = some (.string ⟨#[]⟩) := (HLW.out.over HR14.out).cells; obtain ⟨s140, s141, s142⟩ : w14.cell? ⟨u, 0, none⟩ = some (.int .i64 1) ∧ w14.cell? ⟨u, 1, none⟩ = some (.int .i64 (1 + far)) ∧ w14.cell? ⟨u, 2, none⟩ = some (.string ⟨#[]⟩) := (HU.out.over HR14.out).cells; obtain ⟨t140, t141, t142⟩ : w14.cell? ⟨u + 1, 0, none⟩ = some (.int .i64 1) ∧ w14.cell? ⟨u + 1, 1, none⟩ = some (.int .i64 (-1)) ∧ w14.cell? ⟨u + 1, 2, none⟩ = some (.string ⟨#[]⟩) := (HM.out.over HR14.out).cells; clear hb)) | (go_at_call 19; ((with_reducible refine (C5.out _ (TT.out _ HR14.out) (TE.out _ HR14.out)).mono ?_); rintro e w15 ⟨rfl, hb⟩; have HR15 := Lib.hid (HR14.out.trans (hb.mono HR14.out.size)); obtain ⟨x150, x151, x152⟩ : w15.cell? ⟨q + 1 + 1, 0, none⟩ = some (.int .i64 1) ∧ w15.cell? ⟨q + 1 + 1, 1, none⟩ = some (.int .i64 9223372036854775807) ∧ w15.cell? ⟨q + 1 + 1, 2, none⟩ = some (.string ⟨#[]⟩) := (HBG.out.over HR15.out).cells; obtain ⟨y150, y151, y152⟩ : w15.cell? ⟨q + 1 + 1 + 1, 0, none⟩ = some (.int .i64 1) ∧ w15.cell? ⟨q + 1 + 1 + 1, 1, none⟩ = some (.int .i64 (-9223372036854775808)) ∧ w15.cell? ⟨q + 1 + 1 + 1, 2, none⟩ = some (.string ⟨#[]⟩) := (HLW.out.over HR15.out).cells; obtain ⟨s150, s151, s152⟩ : w15.cell? ⟨u, 0, none⟩ = some (.int .i64 1) ∧ w15.cell? ⟨u, 1, none⟩ = some (.int .i64 (1 + far)) ∧ w15.cell? ⟨u, 2, none⟩ = some (.string ⟨#[]⟩) := (HU.out.over HR15.out).cells; obtain ⟨t150, t151, t152⟩ : w15.cell? ⟨u + 1, 0, none⟩ = some (.int .i64 1) ∧ w15.cell? ⟨u + 1, 1, none⟩ = some (.int .i64 (-1)) ∧ w15.cell? ⟨u + 1, 2, none⟩ = some (.string ⟨#[]⟩) := (HM.out.over HR15.out).cells; clear hb)) | (go_at_call 19; ((with_reducible refine (C6.out _ (TT.out _ HR15.out) (TE.out _ HR15.out)).mono ?_); rintro e w16 ⟨rfl, hb⟩; have HR16 := Lib.hid (HR15.out.trans (hb.mono HR15.out.size)); obtain ⟨x160, x161, x162⟩ : w16.cell? ⟨q + 1 + 1, 0, none⟩ = some (.int .i64 1) ∧ w16.cell? ⟨q + 1 + 1, 1, none⟩ = some (.int .i64 9223372036854775807) ∧ w16.cell? ⟨q + 1 + 1, 2, none⟩ = some (.string ⟨#[]⟩) := (HBG.out.over HR16.out).cells; obtain ⟨y160, y161, y162⟩ : w16.cell? ⟨q + 1 + 1 + 1, 0, none⟩ = some (.int .i64 1) ∧ w16.cell? ⟨q + 1 + 1 + 1, 1, none⟩ = some (.int .i64 (-9223372036854775808)) ∧ w16.cell? ⟨q + 1 + 1 + 1, 2, none⟩ = some (.string ⟨#[]⟩) := (HLW.out.over HR16.out).cells; obtain ⟨s160, s161, s162⟩ : w16.cell? ⟨u, 0, none⟩ = some (.int .i64 1) ∧ w16.cell? ⟨u, 1, none⟩ = some (.int .i64 (1 + far)) ∧ w16.cell? ⟨u, 2, none⟩ = some (.string ⟨#[]⟩) := (HU.out.over HR16.out).cells; obtain ⟨t160, t161, t162⟩ : w16.cell? ⟨u + 1, 0, none⟩ = some (.int .i64 1) ∧ w16.cell? ⟨u + 1, 1, none⟩ = some (.int .i64 (-1)) ∧ w16.cell? ⟨u + 1, 2, none⟩ = some (.string ⟨#[]⟩) := (HM.out.over HR16.out).cells; clear hb)) | (go_at_call 19; ((with_reducible refine (C7.out _ (TT.out _ HR16.out) (TE.out _ HR16.out)).mono ?_); rintro e w17 ⟨rfl, hb⟩; have HR17 := Lib.hid (HR16.out.trans (hb.mono HR16.out.size)); obtain ⟨x170, x171, x172⟩ : w17.cell? ⟨q + 1 + 1, 0, none⟩ = some (.int .i64 1) ∧ w17.cell? ⟨q + 1 + 1, 1, none⟩ = some (.int .i64 9223372036854775807) ∧ w17.cell? ⟨q + 1 + 1, 2, none⟩ = some (.string ⟨#[]⟩) := (HBG.out.over HR17.out).cells; obtain ⟨y170, y171, y172⟩ : w17.cell? ⟨q + 1 + 1 + 1, 0, none⟩ = some (.int .i64 1) ∧ w17.cell? ⟨q + 1 + 1 + 1, 1, none⟩ = some (.int .i64 (-9223372036854775808)) ∧ w17.cell? ⟨q + 1 + 1 + 1, 2, none⟩ = some (.string ⟨#[]⟩) := (HLW.out.over HR17.out).cells; obtain ⟨s170, s171, s172⟩ : w17.cell? ⟨u, 0, none⟩ = some (.int .i64 1) ∧ w17.cell? ⟨u, 1, none⟩ = some (.int .i64 (1 + far)) ∧ w17.cell? ⟨u, 2, none⟩ = some (.string ⟨#[]⟩) := (HU.out.over HR17.out).cells; obtain ⟨t170, t171, t172⟩ : w17.cell? ⟨u + 1, 0, none⟩ = some (.int .i64 1) ∧ w17.cell? ⟨u + 1, 1, none⟩ = some (.int .i64 (-1)) ∧ w17.cell? ⟨u + 1, 2, none⟩ = some (.string ⟨#[]⟩) := (HM.out.over HR17.out).cells; clear hb)))
  obtain ⟨HRW, HBD⟩ := e7_open w17
  have HRW := Lib.hid HRW
  have HBD := Lib.hid ((HBC.out.trans (HR17.out.mono HBC.out.size)).trans (HBD.mono (HBC.out.trans (HR17.out.mono HBC.out.size)).size))
  have HTD := Lib.hid (TT.out _ (HR17.out.trans ((e7_open w17).2.mono HR17.out.size)))
  have HED := Lib.hid (TE.out _ (HR17.out.trans ((e7_open w17).2.mono HR17.out.size)))
  have hla : (w17.alloc (.cells #[.int .i64 4, .int .i64 2, .string ⟨#[]⟩, .int .i64 4, .int .i64 2, .string ⟨#[]⟩, .int .i64 4, .int .i64 2, .string ⟨#[]⟩, .int .i64 4, .int .i64 2, .string ⟨#[]⟩, .int .i64 4, .int .i64 2, .string ⟨#[]⟩, .int .i64 4, .int .i64 2, .string ⟨#[]⟩, .int .i64 4, .int .i64 2, .string ⟨#[]⟩] 23)) = (w17.alloc (.cells e7A 23)) := rfl
  rw [hla]
  obtain ⟨sb7, hs7⟩ : ∃ s, w17.heap.size = s := ⟨_, rfl⟩
  obtain ⟨wd, hwd⟩ : ∃ wd, (w17.alloc (.cells e7A 23)) = wd := ⟨_, rfl⟩
  rw [hwd] at HRW HBD HTD HED ⊢
  rw [hs7] at HRW ⊢
  clear hla hs7 hwd HU HM HNC HBC HBG HLW HR TT TE HR11 HR12 HR13 HR14 HR15 HR16 HR17 C1 C2 C3 C4 C5 C6 C7 x0 x1 x2 y0 y1 y2 s0 s1 s2 t0 t1 t2 x110 x111 x112 y110 y111 y112 s110 s111 s112 t110 t111 t112 x120 x121 x122 y120 y121 y122 s120 s121 s122 t120 t121 t122 x130 x131 x132 y130 y131 y132 s130 s131 s132 t130 t131 t132 x140 x141 x142 y140 y141 y142 s140 s141 s142 t140 t141 t142 x150 x151 x152 y150 y151 y152 s150 s151 s152 t150 t151 t152 x160 x161 x162 y160 y161 y162 s160 s161 s162 t160 t161 t162 x170 x171 x172 y170 y171 y172 s170 s171 s172 t170 t171 t172
  have HAW := Lib.hid (awake7_any wd HTD.out HED.out)
  go_wp2_with fail
  go_loopw [15] (fun i wr => ∃ j : Nat, j ≤ 7 ∧ i = .int .i64 (j : Int) ∧ wd = wr)
    (fun i _ => 7 - (intOf i).toNat)
  case atStart => exact ⟨0, by omega, rfl, rfl⟩
  case round =>
    obtain ⟨j, hj, rfl, rfl⟩ := hrel
    by_cases hlt : j < 7
    · have hji : (j : Int) < 7 := by omega
      have hj0 : (0 : Int) ≤ (j : Int) := by omega
      have k0 : wd.cell? ⟨sb7, j * 3, none⟩ = some (.int .i64 4) := by rw [cell_of_row wd sb7 (j * 3) _ _ _ HRW.out]; exact (e7_at j hlt).1
      have k1 : wd.cell? ⟨sb7, j * 3 + 1, none⟩ = some (.int .i64 2) := by rw [cell_of_row wd sb7 (j * 3 + 1) _ _ _ HRW.out]; exact (e7_at j hlt).2
      go_wp2_with fail
      go_roundw
      case rel => exact ⟨j + 1, by omega, by go_num, trivial⟩
      case measure => simp [intOf]; omega
    · have hji : ¬ (j : Int) < 7 := by omega
      go_wp2_with (go_at_call 10; ((with_reducible refine HAW.out.mono ?_); rintro e w20 ⟨rfl, hb⟩; have HB20 := Lib.hid (HBD.out.trans (hb.mono HBD.out.size)); clear hb))
      go_ret
      exact ⟨rfl, HB20.out⟩
theorem valSums_any (a b far : Int) (a0 : -2147483648 ≤ a) (a1 : a ≤ 2147483647) (b0 : -2147483648 ≤ b) (b1 : b ≤ 2147483647) (f0 : 0 ≤ far) (f1 : far ≤ 255) (w : World) (ht : Tab w) (he : EtV w) :
    Calls Tryd.prog 5 #[.int .i32 a, .int .i32 b, .int .u8 far] w fun e w' => e = .returned (.bool true) ∧ Below w.heap.size w w' := by
  by_cases hb : b = 0
  · exact valSums_zero a b far a0 a1 b0 b1 f0 f1 hb w ht he
  · exact valSums_else a b far a0 a1 b0 b1 f0 f1 hb w ht he
end Go.Proofs.YtgnandbokgfeiaaDoor
