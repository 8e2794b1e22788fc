/-
  Layer 15: lists of few letters: the law LcsMade.
-/
import Derived.Test.YtnimmpidplfnnaaLlW
namespace Go.Proofs.Ytnimmpidplfnnaa
open Go.RowKit

theorem pX_at {a b : List ByteArray} {i : Nat} {p q : Nat} (h : (wkAt a b 0 0)[i]? = some (p, q)) : (pX a b 0 0)[i]? = some (p : Int) ∧ (pY a b 0 0)[i]? = some (q : Int) := by
  unfold pX pY; rw [List.getElem?_map, List.getElem?_map, h]; exact ⟨rfl, rfl⟩
theorem wk_at {a b : List ByteArray} {i : Nat} {p q : Nat} (h : (wkAt a b 0 0)[i]? = some (p, q)) : ∃ t, a[p]? = some t ∧ b[q]? = some t := by
  obtain ⟨-, -, t, h1, h2⟩ := (wk_ok a b 0 0).1 (p, q) (List.mem_of_getElem? h)
  exact ⟨t, h1, h2⟩
theorem wk_rise {a b : List ByteArray} {i : Nat} {p q p' q' : Nat} (h1 : (wkAt a b 0 0)[i]? = some (p', q')) (h2 : (wkAt a b 0 0)[i + 1]? = some (p, q)) : p' < p ∧ q' < q := by
  obtain ⟨l1, e1⟩ := List.getElem?_eq_some_iff.1 h1
  obtain ⟨l2, e2⟩ := List.getElem?_eq_some_iff.1 h2
  have h := List.pairwise_iff_getElem.1 (wk_ok a b 0 0).2 i (i + 1) l1 l2 (by omega)
  have e1' : (wkL a b 0 0)[i] = (p', q') := e1
  have e2' : (wkL a b 0 0)[i + 1] = (p, q) := e2
  rw [e1', e2'] at h; exact h
set_option maxRecDepth 100000 in
set_option maxHeartbeats 8000000 in
theorem lcsMade_any (w : World) (A1 A2 : Option Addr) (n1 c1 n2 c2 : Nat) (xs ys : List Int) (h1 : S8 w w.heap.size A1 n1 c1 xs) (h2 : S8 w w.heap.size A2 n2 c2 ys) :
    Calls Try.prog 4 #[.slice A1 n1 c1, .slice A2 n2 c2] w fun e w' => e = .returned (.bool true) ∧ Below w.heap.size w w' := by
  have HAW := Lib.hid (fun (wq : World) => awake15_any wq)
  by_cases b1 : n1 ≤ 60
  · have i1 : ¬ (60 : Int) < (n1 : Int) := by omega
    by_cases b2 : n2 ≤ 60
    · have i2 : ¬ (60 : Int) < (n2 : Int) := by omega
      obtain ⟨a, ha⟩ : ∃ a, letL xs = a := ⟨_, rfl⟩
      obtain ⟨b, hb⟩ : ∃ b, letL ys = b := ⟨_, rfl⟩
      have hal : a.length = n1 := by rw [← ha, letL_len, h1.hlen]
      have hbl : b.length = n2 := by rw [← hb, letL_len, h2.hlen]
      have hza : ∀ t ∈ a, t.size ≤ maxLen := by rw [← ha]; exact one_max letL_one
      have hzb : ∀ t ∈ b, t.size ≤ maxLen := by rw [← hb]; exact one_max letL_one
      have HL1 := Lib.hid (letters_any w A1 n1 c1 xs h1 (by omega))
      have HL2 := Lib.hid (fun (wz : World) (hz : Below w.heap.size w wz) => letters_any wz A2 n2 c2 ys ((h2.below hz (Nat.le_refl _)).mono hz.size) (by omega))
      rw [ha] at HL1
      simp only [hb] at HL2
      obtain ⟨L, hL⟩ : ∃ L, wkAt a b 0 0 = L := ⟨_, rfl⟩
      obtain ⟨px, hpx⟩ : ∃ px, pX a b 0 0 = px := ⟨_, rfl⟩
      obtain ⟨py, hpy⟩ : ∃ py, pY a b 0 0 = py := ⟨_, rfl⟩
      obtain ⟨lg, hlg⟩ : ∃ lg, lcsN a b = lg := ⟨_, rfl⟩
      have hLl : L.length = lg := by rw [← hL, ← hlg]; unfold wkAt; rw [List.drop_zero, List.drop_zero, wk_len]
      have hxl : px.length = lg := by rw [← hpx, ← hLl, ← hL]; unfold pX; rw [List.length_map]
      have hyl : py.length = lg := by rw [← hpy, ← hLl, ← hL]; unfold pY; rw [List.length_map]
      have hlgb := lcs_le a b
      rw [hlg] at hlgb
      have HPA := Lib.hid (fun (wz : World) (A B : Option Addr) (c d : Nat) (hs : SE encStr wz wz.heap.size (.slice A n1 c) a) (ht : SE encStr wz wz.heap.size (.slice B n2 d) b) => (show Calls Try.prog 9 #[.slice A n1 c, .slice B n2 d] wz fun e w' => ∃ vx vy, e = .returned (.tuple #[vx, vy]) ∧ Own (encInt .i64) 3 w' wz.heap.size vx px ∧ Own (encInt .i64) 3 w' wz.heap.size vy py ∧ Below wz.heap.size wz w' from by
          have h := pairs_any wz A B n1 c n2 d a b hs ht hza hzb
          rw [cutL_few (by omega) (by omega)] at h
          simp only [hpx, hpy] at h; exact h))
      have HRA := Lib.hid (fun (wz : World) (A B : Option Addr) (c d : Nat) (hs : SE encStr wz wz.heap.size (.slice A n1 c) a) (ht : SE encStr wz wz.heap.size (.slice B n2 d) b) => (show Calls Try.prog 10 #[.slice A n1 c, .slice B n2 d] wz fun e w' => ∃ vx vy, e = .returned (.tuple #[vx, vy]) ∧ Own (encInt .i64) 3 w' wz.heap.size vx px ∧ Own (encInt .i64) 3 w' wz.heap.size vy py ∧ Below wz.heap.size wz w' from by
          have h := refPairs_any wz A B n1 c n2 d a b hs ht
          rw [cutL_few (by omega) (by omega)] at h
          simp only [hpx, hpy] at h; exact h))
      have HLA := Lib.hid (fun (wz : World) (A B : Option Addr) (c d : Nat) (hs : SE encStr wz wz.heap.size (.slice A n1 c) a) (ht : SE encStr wz wz.heap.size (.slice B n2 d) b) => (show Calls Try.prog 12 #[.slice A n1 c, .slice B n2 d] wz fun e w' => e = .returned (.int .i64 (lg : Int)) ∧ Below wz.heap.size wz w' from by
          have h := long_any wz A B n1 c n2 d a b hs ht hza hzb
          rw [cutL_few (by omega) (by omega)] at h
          rw [show lcsAt (a, b).1 (a, b).2 0 0 = lg from hlg] at h; exact h))
      have HI := Lib.hid (fun (wq : World) (v1 v2 : Value) (xs : List Int) (h1 : SE (encInt .i64) wq wq.heap.size v1 xs) (h2 : SE (encInt .i64) wq wq.heap.size v2 xs) => (show Calls Try.prog 11 #[v1, v2] wq fun e w' => e = .returned (.bool true) ∧ Below wq.heap.size wq w' from by
        have h := seInts_any wq v1 v2 xs xs h1 h2
        rwa [decide_eq_true (show xs = xs from rfl)] at h))
      have HAL := Lib.hid (show a.length = n1 ∧ b.length = n2 ∧ px.length = lg ∧ py.length = lg ∧ L.length = lg ∧ wkAt a b 0 0 = L ∧ pX a b 0 0 = px ∧ pY a b 0 0 = py from ⟨hal, hbl, hxl, hyl, hLl, hL, hpx, hpy⟩)
      have hlq : ((lg : Int) != (lg : Int)) = false := by simp
      clear h1 h2 ha hb hal hbl hza hzb hL hpx hpy hlg hLl hxl hyl
      go_enter Try.func4, Try.ntmps4
      go_upto_region 9 with (first
        | (go_at_call_of 14 (Value.slice A1 n1 c1); ((with_reducible refine HL1.out.mono ?_); rintro e w1 ⟨v1, rfl, g1, g2⟩; have HB1 := Lib.hid g2; have HS1 := Lib.hid g1.se; obtain ⟨B1, k1, hv1⟩ := own_slX g1; rw [HAL.out.1] at hv1; subst hv1; have HM1 := Lib.hid (HL2.out w1 g2); clear g1 g2))
        | (go_at_call 14; ((with_reducible refine HM1.out.mono ?_); rintro e w2 ⟨v2, rfl, g1, g2⟩; have HB2 := Lib.hid (HB1.out.trans (g2.mono HB1.out.size)); have HT2 := Lib.hid g1.se; have HS2 := Lib.hid (HS1.out.lift g2); obtain ⟨B2, k2, hv2⟩ := own_slX g1; rw [HAL.out.2.1] at hv2; subst hv2; have HP2 := Lib.hid (HPA.out w2 B1 B2 k1 k2 HS2.out HT2.out); clear g1 g2))
        | (go_at_call 9; ((with_reducible refine HP2.out.mono ?_); rintro e w3 ⟨vx, vy, rfl, g1, g2, g3⟩; have HX3 := Lib.hid g1.se; have HY3 := Lib.hid g2.se; have HB3 := Lib.hid (HB2.out.trans (g3.mono HB2.out.size)); have HS3 := Lib.hid (HS2.out.lift g3); have HT3 := Lib.hid (HT2.out.lift g3); obtain ⟨X3, x3, hvx⟩ := own_slX g1; rw [HAL.out.2.2.1] at hvx; subst hvx; obtain ⟨Y3, y3, hvy⟩ := own_slX g2; rw [HAL.out.2.2.2.1] at hvy; subst hvy; have HR3 := Lib.hid (HRA.out w3 B1 B2 k1 k2 HS3.out HT3.out); clear g1 g2 g3))
        | (go_at_call 10; ((with_reducible refine HR3.out.mono ?_); rintro e w4 ⟨ux, uy, rfl, g1, g2, g3⟩; have HX4 := Lib.hid (HX3.out.lift g3); have HY4 := Lib.hid (HY3.out.lift g3); have HV4 := Lib.hid g2.se; have HB4 := Lib.hid (HB3.out.trans (g3.mono HB3.out.size)); have HS4 := Lib.hid (HS3.out.lift g3); have HT4 := Lib.hid (HT3.out.lift g3); have HI4 := Lib.hid (HI.out w4 _ ux px HX4.out g1.se); clear g1 g2 g3))
        | (go_at_call_of 11 ux; ((with_reducible refine HI4.out.mono ?_); rintro e w5 ⟨rfl, g1⟩; have HB5 := Lib.hid (HB4.out.trans (g1.mono HB4.out.size)); have HX5 := Lib.hid (HX4.out.lift g1); have HY5 := Lib.hid (HY4.out.lift g1); have HS5 := Lib.hid (HS4.out.lift g1); have HT5 := Lib.hid (HT4.out.lift g1); have HI5 := Lib.hid (HI.out w5 _ uy py HY5.out (HV4.out.lift g1)); clear g1))
        | (go_at_call_of 11 uy; ((with_reducible refine HI5.out.mono ?_); rintro e w6 ⟨rfl, g1⟩; have HB6 := Lib.hid (HB5.out.trans (g1.mono HB5.out.size)); have HX6 := Lib.hid (HX5.out.lift g1); have HY6 := Lib.hid (HY5.out.lift g1); have HS6 := Lib.hid (HS5.out.lift g1); have HT6 := Lib.hid (HT5.out.lift g1); have HL6 := Lib.hid (HLA.out w6 B1 B2 k1 k2 HS6.out HT6.out); clear g1))
        | (go_at_call 12; ((with_reducible refine HL6.out.mono ?_); rintro e w7 ⟨rfl, g1⟩; have HB7 := Lib.hid (HB6.out.trans (g1.mono HB6.out.size)); have HX7 := Lib.hid (HX6.out.lift g1); have HY7 := Lib.hid (HY6.out.lift g1); have HS7 := Lib.hid (HS6.out.lift g1); have HT7 := Lib.hid (HT6.out.lift g1); clear g1)))
      go_loopw [11] (fun iv wz => ∃ j q : Nat, j ≤ lg ∧ iv = .int .i64 (j : Int) ∧ w7.drewN q = wz)
        (fun iv _ => lg - (intOf iv).toNat)
      case atStart => exact ⟨0, 0, Nat.zero_le _, rfl, rfl⟩
      case round =>
        obtain ⟨j, q0, hj, rfl, rfl⟩ := hrel
        by_cases hlj : j < lg
        · have hji : (j : Int) < (lg : Int) := by omega
          have hj0 : (0 : Int) ≤ (j : Int) := by omega
          obtain ⟨⟨p, q⟩, hpq⟩ : ∃ z, L[j]? = some z := ⟨_, List.getElem?_eq_getElem (by rw [HAL.out.2.2.2.2.1]; exact hlj)⟩
          have hpq2 := HAL.out.2.2.2.2.2.1 ▸ hpq
          obtain ⟨hpa, hqa⟩ := pX_at hpq2
          rw [HAL.out.2.2.2.2.2.2.1] at hpa
          rw [HAL.out.2.2.2.2.2.2.2] at hqa
          obtain ⟨s, hs1, hs2⟩ := wk_at hpq2
          have hpn : p < n1 := by have := (List.getElem?_eq_some_iff.1 hs1).1; rw [HAL.out.1] at this; exact this
          have hqn : q < n2 := by have := (List.getElem?_eq_some_iff.1 hs2).1; rw [HAL.out.2.1] at this; exact this
          obtain ⟨gx, ox, rfl, -, cx⟩ := HX7.out.at hpa
          obtain ⟨gy, oy, rfl, -, cy⟩ := HY7.out.at hqa
          obtain ⟨ga, oa, rfl, -, ca⟩ := HS7.out.at hs1
          obtain ⟨gb, ob, rfl, -, cb⟩ := HT7.out.at hs2
          have k0 := cx 0 _ rfl
          have k1 := cy 0 _ rfl
          have k2 := ca 0 _ rfl
          have k3 := cb 0 _ rfl
          rw [Nat.mul_one, Nat.add_zero] at k0 k1 k2 k3
          have f1 : decide ((n1 : Int) ≤ (p : Int)) = false := decide_eq_false (by omega)
          have f2 : decide ((n2 : Int) ≤ (q : Int)) = false := decide_eq_false (by omega)
          have f3 : (s.toList == s.toList) = true := beq_self_eq_true _
          have f4 : (s.toList != s.toList) = false := by simp
          have f5 : (p : Int) < (n1 : Int) := by omega
          have f6 : (q : Int) < (n2 : Int) := by omega
          have f7 : (0 : Int) ≤ (p : Int) := by omega
          have f8 : (0 : Int) ≤ (q : Int) := by omega
          have HPQ := Lib.hid hpq2
          clear hpq hpq2 hpa hqa hs1 hs2 cx cy ca cb
          have hlg60 : lg ≤ 60 := by have h := hlgb.1; rw [HAL.out.1] at h; omega
          cases j with
          | zero =>
            rw [Nat.add_zero] at k0 k1
            have z0 : decide ((0 : Int) < ((0 : Nat) : Int)) = false := rfl
            go_upto_region 11 with (fail)
            refine wp_region_held_drew (S := (fun X : World => X.cell? ⟨gx, ox, none⟩ = some (.int .i64 (p : Int)) ∧ X.cell? ⟨gy, oy, none⟩ = some (.int .i64 (q : Int)) ∧ X.cell? ⟨ga, oa + p, none⟩ = some (.string s) ∧ X.cell? ⟨gb, ob + q, none⟩ = some (.string s))) (by kernel_rfl) (by exact ⟨k0, k1, k2, k3⟩) (fun _ => ?_)
            show wpAnyH _ _ _ _ _ 61 #[false, false, false, false, false, false, false, false, false, false, false, false, false, false, false, false, false, false, false, false, false, false, false, false, false, false, false, false, false, false, false, false, false, false, false, false, false, false, false, false, false, false, false, false, false, false, false, false, false, false, false, false, false, false, false, false, false, false, false, false, false] _ _
            refine hV 0 (by exact ⟨k0, k1, k2, k3⟩) ?_
            refine hV 1 (by exact ⟨k0, k1, k2, k3⟩) ?_
            refine hV 2 (by exact ⟨k0, k1, k2, k3⟩) ?_
            refine hV 3 (by exact ⟨k0, k1, k2, k3⟩) ?_
            refine hV 4 (by exact ⟨k0, k1, k2, k3⟩) ?_
            refine hV 5 (by exact ⟨k0, k1, k2, k3⟩) ?_
            refine hV 6 (v := .bool false) (by exact ⟨k0, k1, k2, k3⟩) ?_
            refine hV 7 (by exact ⟨k0, k1, k2, k3⟩) ?_
            refine hV 8 (by exact ⟨k0, k1, k2, k3⟩) ?_
            refine hV 9 (by exact ⟨k0, k1, k2, k3⟩) ?_
            refine hV 10 (by exact ⟨k0, k1, k2, k3⟩) ?_
            refine hV 11 (by exact ⟨k0, k1, k2, k3⟩) ?_
            refine hV 12 (by exact ⟨k0, k1, k2, k3⟩) ?_
            refine hV 13 (by exact ⟨k0, k1, k2, k3⟩) ?_
            refine hV 14 (v := .bool false) (by exact ⟨k0, k1, k2, k3⟩) ?_
            refine hV 15 (by exact ⟨k0, k1, k2, k3⟩) ?_
            refine hV 16 (by exact ⟨k0, k1, k2, k3⟩) ?_
            refine hV 17 (by exact ⟨k0, k1, k2, k3⟩) ?_
            refine hV 18 (by exact ⟨k0, k1, k2, k3⟩) ?_
            refine hV 19 (by exact ⟨k0, k1, k2, k3⟩) ?_
            refine hV 20 (by exact ⟨k0, k1, k2, k3⟩) ?_
            refine hV 21 (by exact ⟨k0, k1, k2, k3⟩) ?_
            refine hV 22 (by exact ⟨k0, k1, k2, k3⟩) ?_
            refine hV 23 (by exact ⟨k0, k1, k2, k3⟩) ?_
            refine hV 24 (by exact ⟨k0, k1, k2, k3⟩) ?_
            refine hV 25 (by exact ⟨k0, k1, k2, k3⟩) ?_
            refine hV 26 (by exact ⟨k0, k1, k2, k3⟩) ?_
            refine hV 27 (by exact ⟨k0, k1, k2, k3⟩) ?_
            refine hV 28 (by exact ⟨k0, k1, k2, k3⟩) ?_
            refine hV 29 (by exact ⟨k0, k1, k2, k3⟩) ?_
            refine hV 30 (by exact ⟨k0, k1, k2, k3⟩) ?_
            refine hV 31 (v := .bool false) (by exact ⟨k0, k1, k2, k3⟩) ?_
            refine hV 32 (by exact ⟨k0, k1, k2, k3⟩) ?_
            refine hV 33 (by exact ⟨k0, k1, k2, k3⟩) ?_
            refine hV 34 (by exact ⟨k0, k1, k2, k3⟩) ?_
            refine hV 35 (v := .bool false) (by exact ⟨k0, k1, k2, k3⟩) ?_
            refine hV 36 (by exact ⟨k0, k1, k2, k3⟩) ?_
            refine hN 37 (by exact ⟨k0, k1, k2, k3⟩) ?_
            refine hN 38 (by exact ⟨k0, k1, k2, k3⟩) ?_
            refine hN 39 (by exact ⟨k0, k1, k2, k3⟩) ?_
            refine hN 40 (by exact ⟨k0, k1, k2, k3⟩) ?_
            refine hN 41 (by exact ⟨k0, k1, k2, k3⟩) ?_
            refine hN 42 (by exact ⟨k0, k1, k2, k3⟩) ?_
            refine hN 43 (by exact ⟨k0, k1, k2, k3⟩) ?_
            refine hN 44 (by exact ⟨k0, k1, k2, k3⟩) ?_
            refine hN 45 (by exact ⟨k0, k1, k2, k3⟩) ?_
            refine hN 46 (by exact ⟨k0, k1, k2, k3⟩) ?_
            refine hN 47 (by exact ⟨k0, k1, k2, k3⟩) ?_
            refine hN 48 (by exact ⟨k0, k1, k2, k3⟩) ?_
            refine hN 49 (by exact ⟨k0, k1, k2, k3⟩) ?_
            refine hN 50 (by exact ⟨k0, k1, k2, k3⟩) ?_
            refine hN 51 (by exact ⟨k0, k1, k2, k3⟩) ?_
            refine hN 52 (by exact ⟨k0, k1, k2, k3⟩) ?_
            refine hN 53 (by exact ⟨k0, k1, k2, k3⟩) ?_
            refine hN 54 (by exact ⟨k0, k1, k2, k3⟩) ?_
            refine hN 55 (by exact ⟨k0, k1, k2, k3⟩) ?_
            refine hN 56 (by exact ⟨k0, k1, k2, k3⟩) ?_
            refine hN 57 (by exact ⟨k0, k1, k2, k3⟩) ?_
            refine hN 58 (by exact ⟨k0, k1, k2, k3⟩) ?_
            refine hV 59 (by exact ⟨k0, k1, k2, k3⟩) ?_
            refine hV 60 (by exact ⟨k0, k1, k2, k3⟩) ?_
            refine wpAnyH_done (by kernel_rfl) ?_ _
            go_wp2_with fail
            go_roundw
            case rel => exact ⟨1, _, by omega, by first | rfl | go_num, by first | rfl | trivial⟩
            case measure => simp [intOf]; omega
          | succ i =>
            obtain ⟨⟨p', q'⟩, hpq'⟩ : ∃ z, L[i]? = some z := ⟨_, List.getElem?_eq_getElem (by rw [HAL.out.2.2.2.2.1]; omega)⟩
            have hpq3 := HAL.out.2.2.2.2.2.1 ▸ hpq'
            obtain ⟨hpa, hqa⟩ := pX_at hpq3
            rw [HAL.out.2.2.2.2.2.2.1] at hpa
            rw [HAL.out.2.2.2.2.2.2.2] at hqa
            obtain ⟨r1, r2⟩ := wk_rise hpq3 HPQ.out
            obtain ⟨_, _, e1, -, cx⟩ := HX7.out.at hpa
            obtain ⟨_, _, e2, -, cy⟩ := HY7.out.at hqa
            injection e1 with e1
            injection e1 with e11 e12
            injection e2 with e2
            injection e2 with e21 e22
            subst e11; subst e12; subst e21; subst e22
            have k4 := cx 0 _ rfl
            have k5 := cy 0 _ rfl
            rw [Nat.mul_one, Nat.add_zero] at k4 k5
            have z0 : (0 : Int) < (i : Int) + 1 := by omega
            have z1 : decide ((0 : Int) < (i : Int) + 1) = true := decide_eq_true z0
            have z2 : IntKind.i64.wrap ((i : Int) + 1 - 1) = (i : Int) := by rw [IntKind.wrap_i64]; omega
            have z6 : IntKind.i64.wrap (i : Int) = (i : Int) := by rw [IntKind.wrap_i64]; omega
            have z3 : decide ((p : Int) ≤ (p' : Int)) = false := decide_eq_false (by omega)
            have z4 : decide ((q : Int) ≤ (q' : Int)) = false := decide_eq_false (by omega)
            have z5 : (i : Int) < (lg : Int) := by omega
            have z9 : (0 : Int) ≤ (i : Int) + 1 := by omega
            have z10 : (0 : Int) ≤ (i : Int) := by omega
            have z7 : (i : Int) + 1 < (lg : Int) := by omega
            have z8 : ((i : Int) + 1).toNat = i + 1 := by omega
            clear hpq' hpq3 hpa hqa cx cy
            go_upto_region 11 with (fail)
            refine wp_region_held_drew (S := (fun X : World => X.cell? ⟨gx, ox + (i + 1), none⟩ = some (.int .i64 (p : Int)) ∧ X.cell? ⟨gy, oy + (i + 1), none⟩ = some (.int .i64 (q : Int)) ∧ X.cell? ⟨ga, oa + p, none⟩ = some (.string s) ∧ X.cell? ⟨gb, ob + q, none⟩ = some (.string s) ∧ X.cell? ⟨gx, ox + i, none⟩ = some (.int .i64 (p' : Int)) ∧ X.cell? ⟨gy, oy + i, none⟩ = some (.int .i64 (q' : Int)))) (by kernel_rfl) (by exact ⟨k0, k1, k2, k3, k4, k5⟩) (fun _ => ?_)
            show wpAnyH _ _ _ _ _ 61 #[false, false, false, false, false, false, false, false, false, false, false, false, false, false, false, false, false, false, false, false, false, false, false, false, false, false, false, false, false, false, false, false, false, false, false, false, false, false, false, false, false, false, false, false, false, false, false, false, false, false, false, false, false, false, false, false, false, false, false, false, false] _ _
            refine hV 0 (by exact ⟨k0, k1, k2, k3, k4, k5⟩) ?_
            refine hV 1 (by exact ⟨k0, k1, k2, k3, k4, k5⟩) ?_
            refine hV 2 (by exact ⟨k0, k1, k2, k3, k4, k5⟩) ?_
            refine hV 3 (by exact ⟨k0, k1, k2, k3, k4, k5⟩) ?_
            refine hV 4 (by exact ⟨k0, k1, k2, k3, k4, k5⟩) ?_
            refine hV 5 (by exact ⟨k0, k1, k2, k3, k4, k5⟩) ?_
            refine hV 6 (v := .bool false) (by exact ⟨k0, k1, k2, k3, k4, k5⟩) ?_
            refine hV 7 (by exact ⟨k0, k1, k2, k3, k4, k5⟩) ?_
            refine hV 8 (by exact ⟨k0, k1, k2, k3, k4, k5⟩) ?_
            refine hV 9 (by exact ⟨k0, k1, k2, k3, k4, k5⟩) ?_
            refine hV 10 (by exact ⟨k0, k1, k2, k3, k4, k5⟩) ?_
            refine hV 11 (by exact ⟨k0, k1, k2, k3, k4, k5⟩) ?_
            refine hV 12 (by exact ⟨k0, k1, k2, k3, k4, k5⟩) ?_
            refine hV 13 (by exact ⟨k0, k1, k2, k3, k4, k5⟩) ?_
            refine hV 14 (v := .bool false) (by exact ⟨k0, k1, k2, k3, k4, k5⟩) ?_
            refine hV 15 (by exact ⟨k0, k1, k2, k3, k4, k5⟩) ?_
            refine hV 16 (by exact ⟨k0, k1, k2, k3, k4, k5⟩) ?_
            refine hV 17 (by exact ⟨k0, k1, k2, k3, k4, k5⟩) ?_
            refine hV 18 (by exact ⟨k0, k1, k2, k3, k4, k5⟩) ?_
            refine hV 19 (by exact ⟨k0, k1, k2, k3, k4, k5⟩) ?_
            refine hV 20 (by exact ⟨k0, k1, k2, k3, k4, k5⟩) ?_
            refine hV 21 (by exact ⟨k0, k1, k2, k3, k4, k5⟩) ?_
            refine hV 22 (by exact ⟨k0, k1, k2, k3, k4, k5⟩) ?_
            refine hV 23 (by exact ⟨k0, k1, k2, k3, k4, k5⟩) ?_
            refine hV 24 (by exact ⟨k0, k1, k2, k3, k4, k5⟩) ?_
            refine hV 25 (by exact ⟨k0, k1, k2, k3, k4, k5⟩) ?_
            refine hV 26 (by exact ⟨k0, k1, k2, k3, k4, k5⟩) ?_
            refine hV 27 (by exact ⟨k0, k1, k2, k3, k4, k5⟩) ?_
            refine hV 28 (by exact ⟨k0, k1, k2, k3, k4, k5⟩) ?_
            refine hV 29 (by exact ⟨k0, k1, k2, k3, k4, k5⟩) ?_
            refine hV 30 (by exact ⟨k0, k1, k2, k3, k4, k5⟩) ?_
            refine hV 31 (v := .bool false) (by exact ⟨k0, k1, k2, k3, k4, k5⟩) ?_
            refine hV 32 (by exact ⟨k0, k1, k2, k3, k4, k5⟩) ?_
            refine hV 33 (by exact ⟨k0, k1, k2, k3, k4, k5⟩) ?_
            refine hV 34 (by exact ⟨k0, k1, k2, k3, k4, k5⟩) ?_
            refine hV 35 (v := .bool true) (by exact ⟨k0, k1, k2, k3, k4, k5⟩) ?_
            refine hV 36 (by exact ⟨k0, k1, k2, k3, k4, k5⟩) ?_
            refine hV 37 (by exact ⟨k0, k1, k2, k3, k4, k5⟩) ?_
            refine hV 38 (by exact ⟨k0, k1, k2, k3, k4, k5⟩) ?_
            refine hV 39 (by exact ⟨k0, k1, k2, k3, k4, k5⟩) ?_
            refine hV 40 (by exact ⟨k0, k1, k2, k3, k4, k5⟩) ?_
            refine hV 41 (by exact ⟨k0, k1, k2, k3, k4, k5⟩) ?_
            refine hV 42 (by exact ⟨k0, k1, k2, k3, k4, k5⟩) ?_
            refine hV 43 (by exact ⟨k0, k1, k2, k3, k4, k5⟩) ?_
            refine hV 44 (by exact ⟨k0, k1, k2, k3, k4, k5⟩) ?_
            refine hV 45 (by exact ⟨k0, k1, k2, k3, k4, k5⟩) ?_
            refine hV 46 (v := .bool false) (by exact ⟨k0, k1, k2, k3, k4, k5⟩) ?_
            refine hV 47 (by exact ⟨k0, k1, k2, k3, k4, k5⟩) ?_
            refine hV 48 (by exact ⟨k0, k1, k2, k3, k4, k5⟩) ?_
            refine hV 49 (by exact ⟨k0, k1, k2, k3, k4, k5⟩) ?_
            refine hV 50 (by exact ⟨k0, k1, k2, k3, k4, k5⟩) ?_
            refine hV 51 (by exact ⟨k0, k1, k2, k3, k4, k5⟩) ?_
            refine hV 52 (by exact ⟨k0, k1, k2, k3, k4, k5⟩) ?_
            refine hV 53 (by exact ⟨k0, k1, k2, k3, k4, k5⟩) ?_
            refine hV 54 (by exact ⟨k0, k1, k2, k3, k4, k5⟩) ?_
            refine hV 55 (by exact ⟨k0, k1, k2, k3, k4, k5⟩) ?_
            refine hV 56 (by exact ⟨k0, k1, k2, k3, k4, k5⟩) ?_
            refine hV 57 (v := .bool false) (by exact ⟨k0, k1, k2, k3, k4, k5⟩) ?_
            refine hV 58 (by exact ⟨k0, k1, k2, k3, k4, k5⟩) ?_
            refine hV 59 (by exact ⟨k0, k1, k2, k3, k4, k5⟩) ?_
            refine hV 60 (by exact ⟨k0, k1, k2, k3, k4, k5⟩) ?_
            refine wpAnyH_done (by kernel_rfl) ?_ _
            go_wp2_with fail
            go_roundw
            case rel => exact ⟨i + 1 + 1, _, by omega, by first | rfl | go_num, by first | rfl | trivial⟩
            case measure => simp [intOf]; omega
        · have hji : ¬ (j : Int) < (lg : Int) := by omega
          go_wp2_with (go_at_call 8; ((with_reducible refine (HAW.out _).mono ?_); rintro e w8 ⟨rfl, g1⟩; have HB8 := Lib.hid ((below_dn HB7.out q0).trans (g1.mono HB7.out.size)); clear g1))
          go_ret
          exact ⟨rfl, HB8.out⟩
    · have i2 : (60 : Int) < (n2 : Int) := by omega
      clear h1 h2
      go_enter Try.func4, Try.ntmps4
      go_wp2_with (go_at_call 8; ((with_reducible refine (HAW.out _).mono ?_); rintro e w1 ⟨rfl, h1⟩; have H1 := Lib.hid h1; clear h1))
      go_ret
      exact ⟨rfl, H1.out⟩
  · have i1 : (60 : Int) < (n1 : Int) := by omega
    clear h1 h2
    go_enter Try.func4, Try.ntmps4
    go_wp2_with (go_at_call 8; ((with_reducible refine (HAW.out _).mono ?_); rintro e w1 ⟨rfl, h1⟩; have H1 := Lib.hid h1; clear h1))
    go_ret
    exact ⟨rfl, H1.out⟩
end Go.Proofs.Ytnimmpidplfnnaa
