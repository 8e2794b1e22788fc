/-
  Layer 11, the laws: the way back.
-/
import Derived.Test.YtnnnpjdlhdkeaaaMaO
import Derived.Test.YtnnnpjdlhdkeaaaMaP
namespace Go.Proofs.Ytnnnpjdlhdkeaaa
open Go.RowKit

set_option maxRecDepth 100000 in
set_option maxHeartbeats 16000000 in
theorem mapsBack_any (w : World) (A : Option Addr) (n cap : Nat) (ns : List Int) (hs : S8 w w.heap.size A n cap ns) (k : Nat) (hk : k < 256) :
    Calls Try.prog 6 #[.slice A n cap, .int .u8 (k : Int)] w fun e w' => e = .returned (.bool true) ∧ Below w.heap.size w w' := by
  have HAW := Lib.hid (fun (wq : World) => awake11_any wq)
  by_cases h60 : 100 < n
  · have hi60 : (100 : Int) < (n : Int) := by omega
    clear hs
    go_enter Try.func6, Try.ntmps6
    go_wp2_with (go_at_call 9; ((with_reducible refine (HAW.out _).mono ?_); rintro e w2 ⟨rfl, h1⟩; have HB2 := Lib.hid h1; clear h1))
    go_ret
    exact ⟨rfl, HB2.out⟩
  · have hi60 : ¬ (100 : Int) < (n : Int) := by omega
    have hn100 : n ≤ 100 := by omega
    have hmk := make_map w A n cap ns hs hn100
    have hok := makeM_ok ns
    have hln := hs.hlen
    obtain ⟨xs, nw, hm⟩ : ∃ xs nw, makeM ns = (xs, nw) := ⟨_, _, rfl⟩
    rw [hm] at hmk hok
    obtain ⟨k1, k2, k3, k4⟩ := hok
    rw [hln] at k2 k3
    obtain ⟨N, rfl⟩ : ∃ N : Nat, nw = (N : Int) := ⟨nw.toNat, by have : 0 ≤ nw := k1; omega⟩
    have HMK := Lib.hid hmk
    have HRS := Lib.hid k4
    have hN : N ≤ 300 := by have : (N : Int) ≤ 3 * (n : Int) := k2; omega
    have hk3 : xs.length ≤ n := k3
    clear hmk hm k1 k2 k3 k4 hln hs
    go_enter Try.func6, Try.ntmps6
    go_upto_region 4 with (go_at_call 27; ((with_reducible refine HMK.out.mono ?_); rintro e w1 ⟨v, rfl, h1, h2⟩; obtain ⟨A1, c1, hv⟩ := own_sl h1; subst hv; have HO := Lib.hid h1; have HB1 := Lib.hid h2; clear h1 h2))
    have HBA := Lib.hid (below_pr 24 w1 (.slice A1 xs.length c1) (N : Int))
    have HP := Lib.hid (PrAt.new 24 w1 (.slice A1 xs.length c1) (N : Int))
    obtain ⟨p, hp⟩ : ∃ p, w1.heap.size = p := ⟨_, rfl⟩
    obtain ⟨w2, hw2⟩ : ∃ w2, w1.alloc (.cells #[.slice A1 xs.length c1, .int .i64 (N : Int)] 24) = w2 := ⟨_, rfl⟩
    rw [hw2] at HBA HP ⊢
    have HIR := Lib.hid (HO.out.se.lift HBA.out)
    have HB2 := Lib.hid (HB1.out.trans (HBA.out.mono HB1.out.size))
    rw [hp] at HP ⊢
    clear hw2 hp
    obtain ⟨m, hm⟩ : ∃ m, xs.length = m := ⟨_, rfl⟩
    have HM := Lib.hid hm
    rw [hm] at HP HIR hk3 ⊢
    have hmay := mayM_of (xs := xs) (nw := (N : Int)) (by omega) (by omega) (by omega) HRS.out
    have hrb := back_rises HRS.out
    have hmayB := mayM_of (xs := backM xs N) (nw := (m : Int)) (by omega) (by omega) (by rw [length_backM]; omega) (by rw [← hm]; exact hrb)
    have hbb := back_back HRS.out
    rw [hm] at hbb
    have HBK := Lib.hid (back_map w2 A1 m c1 xs N HIR.out hmay)
    have HMB := Lib.hid hmayB; have HBB := Lib.hid hbb
    have HLB := Lib.hid (length_backM xs N)
    have HIMG := Lib.hid (fun (i : Nat) (hi : i < m) (h0 : 0 ≤ xs.getD i 0) => back_img HRS.out i (by rw [HM.out]; exact hi) h0)
    clear hmay hrb hmayB hbb hm
    obtain ⟨x0, x1⟩ := HP.out.cells
    go_upto_region 5 with (go_at_call 25; ((with_reducible refine HBK.out.mono ?_); rintro e w3 ⟨T, _, rfl, h1, h2⟩; have HXT := Lib.hid (mapOut_ir h1 HLB.out (by omega)); have H3 := Lib.hid h2; clear h1 h2))
    clear x0 x1
    have HBA4 := Lib.hid (below_pr 24 w3 (.slice (some ⟨T, 0, none⟩) N N) (m : Int))
    have HP4 := Lib.hid (PrAt.new 24 w3 (.slice (some ⟨T, 0, none⟩) N N) (m : Int))
    obtain ⟨q, hq⟩ : ∃ q, w3.heap.size = q := ⟨_, rfl⟩
    obtain ⟨w4, hw4⟩ : ∃ w4, w3.alloc (.cells #[.slice (some ⟨T, 0, none⟩) N N, .int .i64 (m : Int)] 24) = w4 := ⟨_, rfl⟩
    rw [hw4] at HBA4 HP4 ⊢
    have HXT4 := Lib.hid (HXT.out.lift HBA4.out)
    have HB34 := Lib.hid (H3.out.trans (HBA4.out.mono H3.out.size))
    have HIR4 := Lib.hid (HIR.out.lift HB34.out)
    have HB4 := Lib.hid (HB2.out.trans (HB34.out.mono HB2.out.size))
    have HP14 := Lib.hid (HP.out.over HB34.out)
    rw [hq] at HP4 ⊢
    clear hw4 hq
    have HBD := Lib.hid (Below.drew (Below.refl w4.heap.size w4))
    have HKEEP := Lib.hid (fun (wq : World) (hq : Below w4.heap.size w4 wq) => (show wq.cell? ⟨p, 0, none⟩ = some (.slice A1 m c1) ∧ wq.cell? ⟨p, 1, none⟩ = some (.int .i64 (N : Int)) ∧ wq.cell? ⟨q, 0, none⟩ = some (.slice (some ⟨T, 0, none⟩) N N) ∧ wq.cell? ⟨q, 1, none⟩ = some (.int .i64 (m : Int)) from
      ⟨(HP14.out.over hq).cells.1, (HP14.out.over hq).cells.2, (HP4.out.over hq).cells.1, (HP4.out.over hq).cells.2⟩))
    have HMY := Lib.hid (fun (wq : World) (hq : Below w4.heap.size w4 wq) => (show Calls Try.prog 10 #[.agg #[.slice (some ⟨T, 0, none⟩) N N, .int .i64 (m : Int)]] wq fun e w' => e = .returned (.bool true) ∧ Below wq.heap.size wq w' from by
      have := mayMap_any wq _ N N (backM xs N) (m : Int) (HXT4.out.lift hq)
      rwa [HMB.out] at this))
    have HBK2 := Lib.hid (fun (wq : World) (hq : Below w4.heap.size w4 wq) => (show Calls Try.prog 25 #[.agg #[.slice (some ⟨T, 0, none⟩) N N, .int .i64 (m : Int)]] wq fun e w' => MapOut wq w' xs m (N : Int) e from by
      have := back_map wq _ N N (backM xs N) m (HXT4.out.lift hq) HMB.out
      rwa [HBB.out] at this))
    have HSS := Lib.hid (fun (wq : World) (T2 : Nat) (h1 : IR wq wq.heap.size (some ⟨T2, 0, none⟩) m m xs) (h2 : IR wq wq.heap.size A1 m c1 xs) => (show Calls Try.prog 12 #[.agg #[.slice (some ⟨T2, 0, none⟩) m m, .int .i64 (N : Int)], .agg #[.slice A1 m c1, .int .i64 (N : Int)]] wq fun e w' => e = .returned (.bool true) ∧ Below wq.heap.size wq w' from by
      have := rsameMap_any wq _ m m xs (N : Int) _ m c1 xs (N : Int) h1 h2
      rwa [decide_eq_true (show xs = xs ∧ (N : Int) = (N : Int) from ⟨rfl, rfl⟩)] at this))
    have hNN : ((N : Int) != (N : Int)) = false := by simp
    obtain ⟨x0, x1, x2, x3⟩ := HKEEP.out _ HBD.out
    go_region_held3 (fun wq => wq.cell? ⟨p, 0, none⟩ = some (.slice A1 m c1) ∧ wq.cell? ⟨p, 1, none⟩ = some (.int .i64 (N : Int)) ∧ wq.cell? ⟨q, 0, none⟩ = some (.slice (some ⟨T, 0, none⟩) N N) ∧ wq.cell? ⟨q, 1, none⟩ = some (.int .i64 (m : Int))) (first | exact ⟨x0, x1, x2, x3⟩ | exact HKEEP.out _ H7.out | exact HKEEP.out _ H6.out | exact HKEEP.out _ H5.out) (first
      | (go_at_call 10; ((with_reducible refine (HMY.out _ HBD.out).mono ?_); rintro e w5 ⟨rfl, h1⟩; have H5 := Lib.hid (HBD.out.trans (h1.mono HBD.out.size)); clear h1))
      | (go_at_call 25; ((with_reducible refine (HBK2.out _ H5.out).mono ?_); rintro e w6 ⟨T2, _, rfl, h1, h2⟩; have H6 := Lib.hid (H5.out.trans (h2.mono H5.out.size)); have HX6 := Lib.hid (mapOut_ir h1 HM.out (by omega)); clear h1 h2))
      | (go_at_call 12; ((with_reducible refine (HSS.out _ _ HX6.out (HIR4.out.lift H6.out)).mono ?_); rintro e w7 ⟨rfl, h1⟩; have H7 := Lib.hid (H6.out.trans (h1.mono H6.out.size)); clear h1)))
    all_goals
      clear x0 x1 x2 x3
      have HB7 := Lib.hid (HB4.out.trans (H7.out.mono HB4.out.size))
      have HX7 := Lib.hid (HIR4.out.lift H7.out); have HXT7 := Lib.hid (HXT4.out.lift H7.out)
      obtain ⟨x0, x1, x2, x3⟩ := HKEEP.out _ H7.out
      have hk0 : (0 : Int) ≤ (k : Int) := by omega
      by_cases hkm : k < m
      · have hki : (k : Int) < (m : Int) := by omega
        obtain ⟨pb, po, rfl, hpb, e0⟩ := ir_at HX7.out hkm
        by_cases hx0 : 0 ≤ xs.getD k 0
        · have HIK := Lib.hid (HIMG.out k hkm hx0)
          have HRK := Lib.hid (rises_at HRS.out k (by rw [HM.out]; exact hkm))
          have HYK := Lib.hid (imgM_in xs (N : Int) k (by rw [HM.out]; exact hkm))
          obtain ⟨y, hy⟩ : ∃ y, xs.getD k 0 = y := ⟨_, rfl⟩
          rw [hy] at e0 hx0 HRK HYK
          rw [HYK.out] at HIK
          have HBD7 := Lib.hid (Below.drew (Below.refl w7.heap.size w7))
          have HI1 := Lib.hid (fun (wq : World) (hq : Below w7.heap.size w7 wq) => (show Calls Try.prog 21 #[.agg #[.slice (some ⟨pb, po, none⟩) m c1, .int .i64 (N : Int)], .int .i64 (k : Int)] wq fun e w' => e = .returned (.int .i64 y) ∧ Below wq.heap.size wq w' from HYK.out ▸ image_any wq _ m c1 xs (N : Int) (k : Int) (HX7.out.lift hq) (by omega) (by omega) (by omega) (by omega)))
          have HI2 := Lib.hid (fun (wq : World) (hq : Below w7.heap.size w7 wq) => (show Calls Try.prog 21 #[.agg #[.slice (some ⟨T, 0, none⟩) N N, .int .i64 (m : Int)], .int .i64 y] wq fun e w' => e = .returned (.int .i64 (k : Int)) ∧ Below wq.heap.size wq w' from by
            have := image_any wq _ N N (backM xs N) (m : Int) y (HXT7.out.lift hq) (by omega) (by omega) (by omega) (by have := HRK.out; omega)
            have hik := HIK.out
            rw [HM.out] at hik
            rwa [hik] at this))
          have HKEEP7 := Lib.hid (fun (wq : World) (hq : Below w7.heap.size w7 wq) => HKEEP.out wq (H7.out.trans (hq.mono H7.out.size)))
          have hkk : ((k : Int) == (k : Int)) = true := beq_self_eq_true _
          have wk : IntKind.i64.wrap (k : Int) = (k : Int) := by rw [IntKind.wrap_i64]; omega
          clear hy
          go_upto_region 8 with (fail)
          clear x0 x1 x2 x3 e0
          obtain ⟨x0, x1, x2, x3⟩ := HKEEP7.out _ HBD7.out
          go_region_held3 (fun wq => wq.cell? ⟨p, 0, none⟩ = some (.slice (some ⟨pb, po, none⟩) m c1) ∧ wq.cell? ⟨p, 1, none⟩ = some (.int .i64 (N : Int)) ∧ wq.cell? ⟨q, 0, none⟩ = some (.slice (some ⟨T, 0, none⟩) N N) ∧ wq.cell? ⟨q, 1, none⟩ = some (.int .i64 (m : Int))) (first | exact ⟨x0, x1, x2, x3⟩ | exact HKEEP7.out _ H10.out | exact HKEEP7.out _ H9.out | exact HKEEP7.out _ H8.out) (first
            | (go_at_call 21; ((with_reducible refine (HI1.out _ HBD7.out).mono ?_); rintro e w8 ⟨rfl, h1⟩; have H8 := Lib.hid (HBD7.out.trans (h1.mono HBD7.out.size)); clear h1))
            | (go_at_call 21; ((with_reducible refine (HI2.out _ H8.out).mono ?_); rintro e w9 ⟨rfl, h1⟩; have H9 := Lib.hid (H8.out.trans (h1.mono H8.out.size)); clear h1))
            | (go_at_call 9; ((with_reducible refine (HAW.out _).mono ?_); rintro e w10 ⟨rfl, h1⟩; have H10 := Lib.hid (H9.out.trans (h1.mono H9.out.size)); clear h1)))
          all_goals go_wp2_with fail
          all_goals go_ret
          all_goals exact ⟨rfl, HB7.out.trans (H10.out.mono HB7.out.size)⟩
        · obtain ⟨y, hy⟩ : ∃ y, xs.getD k 0 = y := ⟨_, rfl⟩
          rw [hy] at e0 hx0
          clear hy
          go_wp2_with (go_at_call 9; ((with_reducible refine (HAW.out _).mono ?_); rintro e w10 ⟨rfl, h1⟩; have H10 := Lib.hid (HB7.out.trans (h1.mono HB7.out.size)); clear h1))
          go_ret
          exact ⟨rfl, H10.out⟩
      · have hki : ¬ (k : Int) < (m : Int) := by omega
        go_wp2_with (go_at_call 9; ((with_reducible refine (HAW.out _).mono ?_); rintro e w10 ⟨rfl, h1⟩; have H10 := Lib.hid (HB7.out.trans (h1.mono HB7.out.size)); clear h1))
        go_ret
        exact ⟨rfl, H10.out⟩
end Go.Proofs.Ytnnnpjdlhdkeaaa
