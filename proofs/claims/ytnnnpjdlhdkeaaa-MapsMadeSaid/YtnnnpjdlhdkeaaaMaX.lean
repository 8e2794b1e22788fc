/-
  Layer 11, the laws: maps by numbers are the document's.
-/
import Derived.Test.YtnnnpjdlhdkeaaaMaW
namespace Go.Proofs.Ytnnnpjdlhdkeaaa
open Go.RowKit

set_option maxRecDepth 100000 in
set_option maxHeartbeats 16000000 in
theorem mapsMade_any (w : World) (A : Option Addr) (n cap : Nat) (ns : List Int) (hs : S8 w w.heap.size A n cap ns) (B : Option Addr) (n2 cap2 : Nat) (ms : List Int) (hs2 : S8 w w.heap.size B n2 cap2 ms) (k lo hi : Nat) (hk : k < 256) (hlo : lo < 256) (hhi : hi < 256) :
    Calls Try.prog 4 #[.slice A n cap, .slice B n2 cap2, .int .u8 (k : Int), .int .u8 (lo : Int), .int .u8 (hi : Int)] w fun e w' => e = .returned (.bool true) ∧ Below w.heap.size w w' := by
  have HAW := Lib.hid (fun (wq : World) => awake11_any wq)
  by_cases h60 : 100 < n
  · have hi60 : (100 : Int) < (n : Int) := by omega
    clear hs hs2
    go_enter Try.func4, Try.ntmps4
    go_wp2_with (go_at_call 9; ((with_reducible refine (HAW.out _).mono ?_); rintro e w2 ⟨rfl, h1⟩; have HB2 := Lib.hid h1; clear h1))
    go_ret
    exact ⟨rfl, HB2.out⟩
  by_cases h602 : 100 < n2
  · have hi60 : ¬ (100 : Int) < (n : Int) := by omega
    have hi602 : (100 : Int) < (n2 : Int) := by omega
    clear hs hs2
    go_enter Try.func4, Try.ntmps4
    go_wp2_with (go_at_call 9; ((with_reducible refine (HAW.out _).mono ?_); rintro e w2 ⟨rfl, h1⟩; have HB2 := Lib.hid h1; clear h1))
    go_ret
    exact ⟨rfl, HB2.out⟩
  have hi60 : ¬ (100 : Int) < (n : Int) := by omega
  have hi602 : ¬ (100 : Int) < (n2 : Int) := by omega
  obtain ⟨a, ha⟩ : ∃ a, lo % 60 = a := ⟨_, rfl⟩
  have qa : (lo : Int) % 60 = (a : Int) := by omega
  have ta : (lo : Int).tmod 60 = (a : Int) := by rw [Int.tmod_eq_emod_of_nonneg (by omega)]; exact qa
  have wa : IntKind.i64.wrap (a : Int) = (a : Int) := by rw [IntKind.wrap_i64]; omega
  have ha70 : a < 60 := by omega
  obtain ⟨b, hb⟩ : ∃ b, hi % 60 = b := ⟨_, rfl⟩
  have qb : (hi : Int) % 60 = (b : Int) := by omega
  have tb : (hi : Int).tmod 60 = (b : Int) := by rw [Int.tmod_eq_emod_of_nonneg (by omega)]; exact qb
  have wb : IntKind.i64.wrap (b : Int) = (b : Int) := by rw [IntKind.wrap_i64]; omega
  have hb70 : b < 60 := by omega
  have hmk := make_map w A n cap ns hs (by omega)
  have hmk2 := fun (wq : World) (hq : Below w.heap.size w wq) => make_map wq B n2 cap2 ms ((hs2.below hq (Nat.le_refl _)).mono hq.size) (by omega)
  have hok := makeM_ok ns
  have hok2 := makeM_ok ms
  rw [hs.hlen] at hok
  rw [hs2.hlen] at hok2
  obtain ⟨xs, na, hm⟩ : ∃ xs nw, makeM ns = (xs, nw) := ⟨_, _, rfl⟩
  obtain ⟨ys, nb, hm2⟩ : ∃ xs nw, makeM ms = (xs, nw) := ⟨_, _, rfl⟩
  rw [hm] at hmk hok
  simp only [hm2] at hmk2
  rw [hm2] at hok2
  obtain ⟨k1, k2, k3, k4⟩ := hok
  obtain ⟨l1, l2, l3, l4⟩ := hok2
  obtain ⟨N, rfl⟩ : ∃ N : Nat, na = (N : Int) := ⟨na.toNat, by have : 0 ≤ na := k1; omega⟩
  have HMK := Lib.hid hmk; have HMK2 := Lib.hid hmk2
  have HF := Lib.hid (show Rises (-1) (N : Int) xs ∧ xs.length ≤ 300 ∧ ys.length ≤ 300 ∧ N ≤ 300 ∧ 0 ≤ nb ∧ nb ≤ 1048576 from ⟨k4, by have : xs.length ≤ n := k3; omega, by have : ys.length ≤ n2 := l3; omega, by have : (N : Int) ≤ 3 * (n : Int) := k2; omega, l1, by have : nb ≤ 3 * (n2 : Int) := l2; omega⟩)
  clear hmk hmk2 hm hm2 k1 k2 k3 k4 l1 l2 l3 l4 hs hs2 ha hb
  go_enter Try.func4, Try.ntmps4
  go_upto_region 4 with (first
    | (go_at_call 27; ((with_reducible refine HMK.out.mono ?_); rintro e w1 ⟨v, rfl, h1, h2⟩; obtain ⟨A1, c1, hv⟩ := own_sl h1; subst hv; have HO := Lib.hid h1.se; have HB1 := Lib.hid h2; clear h1 h2))
    | (go_at_call 27; ((with_reducible refine (HMK2.out _ HB1.out).mono ?_); rintro e w2 ⟨v2, rfl, h1, h2⟩; obtain ⟨A2, c2, hv2⟩ := own_sl h1; subst hv2; have HO2 := Lib.hid h1.se; have HO1 := Lib.hid (HO.out.lift h2); have HB2 := Lib.hid (HB1.out.trans (h2.mono HB1.out.size)); clear h1 h2)))
  obtain ⟨w4, hw4, hb4, hp4, hq4, hsz4⟩ := two_pr 24 w2 (.slice A1 xs.length c1) (.slice A2 ys.length c2) (N : Int) nb
  have hw4' := hw4
  rw [hw4']
  obtain ⟨m, hm⟩ : ∃ m, xs.length = m := ⟨_, rfl⟩
  obtain ⟨m2, hm2⟩ : ∃ m2, ys.length = m2 := ⟨_, rfl⟩
  obtain ⟨p, hp⟩ : ∃ p, w2.heap.size = p := ⟨_, rfl⟩
  have hf := HF.out
  have ho1 := HO1.out.lift hb4
  have ho2 := HO2.out.lift hb4
  rw [hm, hm2] at hf
  rw [hm] at hp4 ho1
  rw [hm2] at hq4 ho2
  rw [hp] at hp4 hq4
  rw [hm, hm2, hp]
  have HAB := Lib.hid (show AB w4 A1 m c1 xs N A2 m2 c2 ys nb from ⟨ho1, ho2, hf.1, hf.2.1, hf.2.2.1, hf.2.2.2.1, hf.2.2.2.2.1, hf.2.2.2.2.2⟩)
  have HPA := Lib.hid hp4; have HPB := Lib.hid hq4
  have HB4 := Lib.hid (HB2.out.trans (hb4.mono HB2.out.size))
  clear hw4 hw4' hb4 hp4 hq4 hsz4 hp hm hm2 hf ho1 ho2 HO HO1 HO2
  have hsp := fun (wq : World) (hq : Below w4.heap.size w4 wq) => (HAB.out.lift hq).cSpan ((a : Int) - 2) ((b : Int) - 2) (by omega)
  have hsr := fun (wq : World) (hq : Below w4.heap.size w4 wq) => (HAB.out.lift hq).rSpan ((a : Int) - 2) ((b : Int) - 2) (by omega)
  obtain ⟨X, Y, O, hXY⟩ : ∃ X Y O, spanM xs N ((a : Int) - 2) ((b : Int) - 2) = (X, Y, O) := ⟨_, _, _, rfl⟩
  simp only [hXY, s3] at hsp hsr
  have HSP := Lib.hid hsp; have HSR := Lib.hid hsr
  clear hsp hsr hXY
  have HKEEP := Lib.hid (fun (wq : World) (hq : Below w4.heap.size w4 wq) => (show wq.cell? ⟨p, 0, none⟩ = some (.slice A1 m c1) ∧ wq.cell? ⟨p, 1, none⟩ = some (.int .i64 (N : Int)) ∧ wq.cell? ⟨p + 1, 0, none⟩ = some (.slice A2 m2 c2) ∧ wq.cell? ⟨p + 1, 1, none⟩ = some (.int .i64 nb) from
    ⟨(HPA.out.over hq).cells.1, (HPA.out.over hq).cells.2, (HPB.out.over hq).cells.1, (HPB.out.over hq).cells.2⟩))
  obtain ⟨x0, x1, x2, x3⟩ := HKEEP.out _ (Below.refl _ _)
  go_upto_region 5 with (go_at_call 19; ((with_reducible refine (HSP.out _ (Below.refl _ _)).mono ?_); rintro e w5 ⟨rfl, h1⟩; have H5 := Lib.hid h1; clear h1))
  clear x0 x1 x2 x3
  obtain ⟨x0, x1, x2, x3⟩ := HKEEP.out _ H5.out
  go_upto_region 6 with (go_at_call 20; ((with_reducible refine (HSR.out _ H5.out).mono ?_); rintro e w6 ⟨rfl, h1⟩; have H6 := Lib.hid (H5.out.trans (h1.mono H5.out.size)); clear h1))
  clear x0 x1 x2 x3
  have HBD := Lib.hid (Below.drew H6.out)
  obtain ⟨x0, x1, x2, x3⟩ := HKEEP.out _ HBD.out
  have wk : IntKind.i64.wrap (k : Int) = (k : Int) := by rw [IntKind.wrap_i64]; omega
  have hk40 : (k : Int) ≤ 4398046511104 := by omega
  obtain ⟨z, hz⟩ : ∃ z, imgM xs N (k : Int) = z := ⟨_, rfl⟩
  have HI1 := Lib.hid (fun (wq : World) (hq : Below w4.heap.size w4 wq) => (show Calls Try.prog 21 #[.agg #[.slice A1 m c1, .int .i64 (N : Int)], .int .i64 (k : Int)] wq fun e w' => e = .returned (.int .i64 z) ∧ Below wq.heap.size wq w' from hz ▸ (HAB.out.lift hq).cImg (k : Int) hk40))
  have HI2 := Lib.hid (fun (wq : World) (hq : Below w4.heap.size w4 wq) => (show Calls Try.prog 22 #[.agg #[.slice A1 m c1, .int .i64 (N : Int)], .int .i64 (k : Int)] wq fun e w' => e = .returned (.int .i64 z) ∧ Below wq.heap.size wq w' from hz ▸ (HAB.out.lift hq).rImg (k : Int) hk40))
  have hzz : (z == z) = true := beq_self_eq_true z
  have hXX : (X == X) = true := beq_self_eq_true X
  have hYY : (Y == Y) = true := beq_self_eq_true Y
  have hOO : (O == O) = true := beq_self_eq_true O
  clear hz
  go_region_held3 (fun wq => wq.cell? ⟨p, 0, none⟩ = some (.slice A1 m c1) ∧ wq.cell? ⟨p, 1, none⟩ = some (.int .i64 (N : Int)) ∧ wq.cell? ⟨p + 1, 0, none⟩ = some (.slice A2 m2 c2) ∧ wq.cell? ⟨p + 1, 1, none⟩ = some (.int .i64 nb)) (first | exact ⟨x0, x1, x2, x3⟩ | exact HKEEP.out _ H16.out | exact HKEEP.out _ H15.out | exact HKEEP.out _ H14.out | exact HKEEP.out _ H13.out | exact HKEEP.out _ H12.out | exact HKEEP.out _ H11.out | exact HKEEP.out _ H10.out | exact HKEEP.out _ H9.out | exact HKEEP.out _ H8.out | exact HKEEP.out _ H7.out) (first
    | (go_at_call 10; ((with_reducible refine (HAB.out.lift HBD.out).cMay.mono ?_); rintro e w7 ⟨rfl, h1⟩; have H7 := Lib.hid (HBD.out.trans (h1.mono HBD.out.size)); clear h1))
    | (go_at_call 21; ((with_reducible refine (HI1.out _ H7.out).mono ?_); rintro e w8 ⟨rfl, h1⟩; have H8 := Lib.hid (H7.out.trans (h1.mono H7.out.size)); clear h1))
    | (go_at_call 22; ((with_reducible refine (HI2.out _ H8.out).mono ?_); rintro e w9 ⟨rfl, h1⟩; have H9 := Lib.hid (H8.out.trans (h1.mono H8.out.size)); clear h1))
    | (go_at_call 23; ((with_reducible refine (HAB.out.lift H9.out).cThen.mono ?_); rintro e w10 ⟨T, rfl, h1, h2⟩; have HX10 := Lib.hid h1; have H10 := Lib.hid (H9.out.trans (h2.mono H9.out.size)); clear h1 h2))
    | (go_at_call 24; ((with_reducible refine (HAB.out.lift H10.out).rThen.mono ?_); rintro e w11 ⟨D, d, rfl, h1, h2⟩; have HX11 := Lib.hid h1; have HX10b := Lib.hid (HX10.out.lift h2); have H11 := Lib.hid (H10.out.trans (h2.mono H10.out.size)); clear h1 h2))
    | (go_at_call 12; ((with_reducible refine (same_yes _ _ _ _ _ _ _ _ HX10b.out HX11.out).mono ?_); rintro e w12 ⟨rfl, h1⟩; have H12 := Lib.hid (H11.out.trans (h1.mono H11.out.size)); clear h1))
    | (go_at_call 25; ((with_reducible refine (HAB.out.lift H12.out).cBack.mono ?_); rintro e w13 ⟨T2, rfl, h1, h2⟩; have HX13 := Lib.hid h1; have H13 := Lib.hid (H12.out.trans (h2.mono H12.out.size)); clear h1 h2))
    | (go_at_call 26; ((with_reducible refine (HAB.out.lift H13.out).rBack.mono ?_); rintro e w14 ⟨D2, d2, rfl, h1, h2⟩; have HX14 := Lib.hid h1; have HX13b := Lib.hid (HX13.out.lift h2); have H14 := Lib.hid (H13.out.trans (h2.mono H13.out.size)); clear h1 h2))
    | (go_at_call 12; ((with_reducible refine (same_yes _ _ _ _ _ _ _ _ HX13b.out HX14.out).mono ?_); rintro e w15 ⟨rfl, h1⟩; have H15 := Lib.hid (H14.out.trans (h1.mono H14.out.size)); clear h1))
    | (go_at_call 9; ((with_reducible refine (HAW.out _).mono ?_); rintro e w16 ⟨rfl, h1⟩; have H16 := Lib.hid (H15.out.trans (h1.mono H15.out.size)); clear h1)))
  all_goals go_wp2_with fail
  all_goals go_ret
  all_goals exact ⟨rfl, HB4.out.trans (H16.out.mono HB4.out.size)⟩
end Go.Proofs.Ytnnnpjdlhdkeaaa
