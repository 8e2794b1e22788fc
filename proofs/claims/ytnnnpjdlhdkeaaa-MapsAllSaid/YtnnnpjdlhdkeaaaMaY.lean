/-
  Layer 11, the laws: any maps are the document's.
-/
import Derived.Test.YtnnnpjdlhdkeaaaMaW
import Derived.Test.YtnnnpjdlhdkeaaaMaJ
namespace Go.Proofs.Ytnnnpjdlhdkeaaa
open Go.RowKit

theorem length_insO (n a : Int) : (insO n a).1.length = cntM n := by unfold insO; split <;> simp [length_sameM, length_insM]
theorem length_delO (n a : Int) : (delO n a).1.length = cntM n := by unfold delO; split <;> simp [length_sameM, length_delM]
/-- A map that the program makes, and one that the reference makes. -/
theorem mapOut_is {w w' : World} {xs : List Int} {n : Nat} {nw : Int} {e : Ending} (h : MapOut w w' xs n nw e) (hl : xs.length = n) (hn : n ≤ 2000000) : ∃ T, e = .returned (.agg #[.slice (some ⟨T, 0, none⟩) n n, .int .i64 nw]) ∧ IR w' w'.heap.size (some ⟨T, 0, none⟩) n n xs ∧ Below w.heap.size w w' := by
  obtain ⟨T, _, he, h1, h2⟩ := h
  exact ⟨T, he, mapOut_ir h1 hl hn, h2⟩
theorem refOut_is {w w' : World} {xs : List Int} {n : Nat} {nw : Int} {e : Ending} (h : RefOut w w' xs nw e) (hl : xs.length = n) : ∃ D d, e = .returned (.agg #[.slice D n d, .int .i64 nw]) ∧ IR w' w'.heap.size D n d xs ∧ Below w.heap.size w w' := by
  obtain ⟨v, he, h1, h2⟩ := h
  obtain ⟨D, d, hv⟩ := own_sl h1
  have hi := h1.se
  rw [hl] at hv
  subst hv
  exact ⟨D, d, he, hi, h2⟩
set_option maxRecDepth 100000 in
set_option maxHeartbeats 32000000 in
theorem mapsAll_any (w : World) (A : Option Addr) (m c : Nat) (xs : List Int) (na : Int) (B : Option Addr) (m2 c2 : Nat) (ys : List Int) (nb : Int) (hx : IR w w.heap.size A m c xs) (hy : IR w w.heap.size B m2 c2 ys) (n a lo hi : Int) (hlow : -9223372036854775808 ≤ hi) :
    Calls Try.prog 3 #[.agg #[.slice A m c, .int .i64 na], .agg #[.slice B m2 c2, .int .i64 nb], .int .i64 n, .int .i64 a, .int .i64 lo, .int .i64 hi] w fun e w' => e = .returned (.bool true) ∧ Below w.heap.size w w' := by
  have HAW := Lib.hid (fun (wq : World) => awake11_any wq)
  obtain ⟨w2, hw2, hb2, hp2, hq2, hsz2⟩ := two_pr 24 w (.slice A m c) (.slice B m2 c2) na nb
  have HB2 := Lib.hid hb2; have HPA := Lib.hid hp2; have HPB := Lib.hid hq2
  have HX := Lib.hid (hx.lift hb2); have HY := Lib.hid (hy.lift hb2)
  have HLX := Lib.hid hx.len.1; have HLY := Lib.hid hy.len.1
  obtain ⟨p, hp⟩ : ∃ p, w.heap.size = p := ⟨_, rfl⟩
  have HPP := Lib.hid hp
  have HKEEP := Lib.hid (fun (wq : World) (hq : Below w2.heap.size w2 wq) => (show wq.cell? ⟨p, 0, none⟩ = some (.slice A m c) ∧ wq.cell? ⟨p, 1, none⟩ = some (.int .i64 na) ∧ wq.cell? ⟨p + 1, 0, none⟩ = some (.slice B m2 c2) ∧ wq.cell? ⟨p + 1, 1, none⟩ = some (.int .i64 nb) from by
    subst hp
    exact ⟨(HPA.out.over hq).cells.1, (HPA.out.over hq).cells.2, (HPB.out.over hq).cells.1, (HPB.out.over hq).cells.2⟩))
  have HBF := Lib.hid (fun (wz : World) (hz : Below w2.heap.size w2 wz) => HB2.out.trans (hz.mono HB2.out.size))
  clear hx hy hb2 hp2 hq2 hsz2
  go_enter Try.func3, Try.ntmps3
  go_upto_region 1 with (fail)
  clear hw2 hp
  obtain ⟨x0, x1, x2, x3⟩ := HKEEP.out _ (Below.refl _ _)
  by_cases hm : 200 < m
  · have hmi : (200 : Int) < (m : Int) := by omega
    go_wp2_with (first
      | (go_at_call 9; ((with_reducible refine (HAW.out _).mono ?_); rintro e wz ⟨rfl, h1⟩; have HBZ := Lib.hid (HBF.out _ h1); clear h1)))
    go_ret
    exact ⟨rfl, HBZ.out⟩
  have hmi : ¬ (200 : Int) < (m : Int) := by omega
  by_cases hm2 : 200 < m2
  · have hmi2 : (200 : Int) < (m2 : Int) := by omega
    go_wp2_with (first
      | (go_at_call 9; ((with_reducible refine (HAW.out _).mono ?_); rintro e wz ⟨rfl, h1⟩; have HBZ := Lib.hid (HBF.out _ h1); clear h1)))
    go_ret
    exact ⟨rfl, HBZ.out⟩
  have hmi2 : ¬ (200 : Int) < (m2 : Int) := by omega
  by_cases hn : 300 < n
  · go_wp2_with (first
      | (go_at_call 9; ((with_reducible refine (HAW.out _).mono ?_); rintro e wz ⟨rfl, h1⟩; have HBZ := Lib.hid (HBF.out _ h1); clear h1)))
    go_ret
    exact ⟨rfl, HBZ.out⟩
  have hcn : cntM n ≤ 300 := by have := cntM_is n; omega
  have hsm := fun (wq : World) => (same_map wq n).mono fun e w' h => mapOut_is h (length_sameM _) (by have := cntM_le n; omega)
  have hrs := fun (wq : World) => (rsame_map wq n).mono fun e w' h => refOut_is h (length_sameM _)
  have him := fun (wq : World) => (ins_map wq n a).mono fun e w' h => mapOut_is h (length_insO n a) (by have := cntM_le n; omega)
  have hri := fun (wq : World) => (rins_map wq n a).mono fun e w' h => refOut_is h (length_insO n a)
  have hdm := fun (wq : World) => (del_map wq n a).mono fun e w' h => mapOut_is h (length_delO n a) (by have := cntM_le n; omega)
  have hrd := fun (wq : World) => (rdel_map wq n a).mono fun e w' h => refOut_is h (length_delO n a)
  obtain ⟨K, hK⟩ : ∃ K, cntM n = K := ⟨_, rfl⟩
  obtain ⟨il, iw, hil⟩ : ∃ l k, insO n a = (l, k) := ⟨_, _, rfl⟩
  obtain ⟨dl, dw, hdl⟩ : ∃ l k, delO n a = (l, k) := ⟨_, _, rfl⟩
  simp only [hK] at hsm hrs
  simp only [hil, hK] at him hri
  simp only [hdl, hK] at hdm hrd
  have HSM := Lib.hid hsm; have HRS := Lib.hid hrs; have HIM := Lib.hid him; have HRI := Lib.hid hri; have HDM := Lib.hid hdm; have HRD := Lib.hid hrd
  obtain ⟨b0, hb0⟩ : ∃ b, mayM xs na = b := ⟨_, rfl⟩
  have HM1 := Lib.hid (fun (wq : World) (hq : Below w2.heap.size w2 wq) => (show Calls Try.prog 10 #[.agg #[.slice A m c, .int .i64 na]] wq fun e w' => e = .returned (.bool b0) ∧ Below wq.heap.size wq w' from hb0 ▸ mayMap_any wq A m c xs na (HX.out.lift hq)))
  have HMA := Lib.hid (fun (wq : World) (hq : Below w2.heap.size w2 wq) => (show Calls Try.prog 11 #[.agg #[.slice A m c, .int .i64 na]] wq fun e w' => e = .returned (.bool b0) ∧ Below wq.heap.size wq w' from hb0 ▸ rmayMap_any wq A m c xs na (HX.out.lift hq)))
  have HB0 := Lib.hid hb0
  have hbb : (b0 != b0) = false := by cases b0 <;> rfl
  have HBD := Lib.hid (Below.drew (Below.refl w2.heap.size w2))
  clear hsm hrs him hri hdm hrd hK hil hdl hb0 hcn
  go_upto_region 3 with (fail)
  clear x0 x1 x2 x3
  obtain ⟨x0, x1, x2, x3⟩ := HKEEP.out _ HBD.out
  go_region_held3 (fun wq => wq.cell? ⟨p, 0, none⟩ = some (.slice A m c) ∧ wq.cell? ⟨p, 1, none⟩ = some (.int .i64 na) ∧ wq.cell? ⟨p + 1, 0, none⟩ = some (.slice B m2 c2) ∧ wq.cell? ⟨p + 1, 1, none⟩ = some (.int .i64 nb)) (first | exact ⟨x0, x1, x2, x3⟩ | exact HKEEP.out _ H20.out | exact HKEEP.out _ H12.out | exact HKEEP.out _ H11.out | exact HKEEP.out _ H10.out | exact HKEEP.out _ H9.out | exact HKEEP.out _ H8.out | exact HKEEP.out _ H7.out | exact HKEEP.out _ H6.out | exact HKEEP.out _ H5.out | exact HKEEP.out _ H4.out | exact HKEEP.out _ H3.out) (first
    | (go_at_call 10; ((with_reducible refine (HM1.out _ HBD.out).mono ?_); rintro e w3 ⟨rfl, h1⟩; have H3 := Lib.hid (HBD.out.trans (h1.mono HBD.out.size)); clear h1))
    | (go_at_call 11; ((with_reducible refine (HMA.out _ H3.out).mono ?_); rintro e w4 ⟨rfl, h1⟩; have H4 := Lib.hid (H3.out.trans (h1.mono H3.out.size)); clear h1))
    | (go_at_call 13; ((with_reducible refine (HSM.out _).mono ?_); rintro e w5 ⟨T1, rfl, h1, h2⟩; have HT1 := Lib.hid h1; have H5 := Lib.hid (H4.out.trans (h2.mono H4.out.size)); clear h1 h2))
    | (go_at_call 14; ((with_reducible refine (HRS.out _).mono ?_); rintro e w6 ⟨D1, d1, rfl, h1, h2⟩; have HD1 := Lib.hid h1; have HT1b := Lib.hid (HT1.out.lift h2); have H6 := Lib.hid (H5.out.trans (h2.mono H5.out.size)); clear h1 h2))
    | (go_at_call 12; ((with_reducible refine (same_yes _ _ _ _ _ _ _ _ HT1b.out HD1.out).mono ?_); rintro e w7 ⟨rfl, h1⟩; have H7 := Lib.hid (H6.out.trans (h1.mono H6.out.size)); clear h1))
    | (go_at_call 15; ((with_reducible refine (HIM.out _).mono ?_); rintro e w8 ⟨T2, rfl, h1, h2⟩; have HT2 := Lib.hid h1; have H8 := Lib.hid (H7.out.trans (h2.mono H7.out.size)); clear h1 h2))
    | (go_at_call 16; ((with_reducible refine (HRI.out _).mono ?_); rintro e w9 ⟨D2, d2, rfl, h1, h2⟩; have HD2 := Lib.hid h1; have HT2b := Lib.hid (HT2.out.lift h2); have H9 := Lib.hid (H8.out.trans (h2.mono H8.out.size)); clear h1 h2))
    | (go_at_call 12; ((with_reducible refine (same_yes _ _ _ _ _ _ _ _ HT2b.out HD2.out).mono ?_); rintro e w10 ⟨rfl, h1⟩; have H10 := Lib.hid (H9.out.trans (h1.mono H9.out.size)); clear h1))
    | (go_at_call 17; ((with_reducible refine (HDM.out _).mono ?_); rintro e w11 ⟨T3, rfl, h1, h2⟩; have HT3 := Lib.hid h1; have H11 := Lib.hid (H10.out.trans (h2.mono H10.out.size)); clear h1 h2))
    | (go_at_call 18; ((with_reducible refine (HRD.out _).mono ?_); rintro e w12 ⟨D3, d3, rfl, h1, h2⟩; have HD3 := Lib.hid h1; have HT3b := Lib.hid (HT3.out.lift h2); have H12 := Lib.hid (H11.out.trans (h2.mono H11.out.size)); clear h1 h2))
    | (go_at_call 12; ((with_reducible refine (same_yes _ _ _ _ _ _ _ _ HT3b.out HD3.out).mono ?_); rintro e w20 ⟨rfl, h1⟩; have H20 := Lib.hid (H12.out.trans (h1.mono H12.out.size)); clear h1)))
  all_goals
    clear x0 x1 x2 x3
    clear HBF HM1 HSM HRS HIM HRI HDM HRD
    obtain ⟨x0, x1, x2, x3⟩ := HKEEP.out _ H20.out
    obtain ⟨b1, hb1⟩ : ∃ b, mayM ys nb = b := ⟨_, rfl⟩
    have HB1 := Lib.hid hb1
    have HMB := Lib.hid (fun (wq : World) (hq : Below w2.heap.size w2 wq) => (show Calls Try.prog 11 #[.agg #[.slice B m2 c2, .int .i64 nb]] wq fun e w' => e = .returned (.bool b1) ∧ Below wq.heap.size wq w' from hb1 ▸ rmayMap_any wq B m2 c2 ys nb (HY.out.lift hq)))
    clear hb1
    go_upto_region 5 with (fail)
    cases b0 with
    | false =>
      go_wp2_with (first
        | (go_at_call 11; ((with_reducible refine (HMA.out _ H20.out).mono ?_); rintro e w21 ⟨rfl, h1⟩; have H21 := Lib.hid (H20.out.trans (h1.mono H20.out.size)); have HBF := Lib.hid (fun (wz : World) (hz : Below w21.heap.size w21 wz) => (HB2.out.trans (H21.out.mono HB2.out.size)).trans (hz.mono (HB2.out.trans (H21.out.mono HB2.out.size)).size)); obtain ⟨u0, u1, u2, u3⟩ := HKEEP.out _ H21.out; clear h1))
        | (go_at_call 9; ((with_reducible refine (HAW.out _).mono ?_); rintro e wz ⟨rfl, h1⟩; have HBZ := Lib.hid (HBF.out _ h1); clear h1)))
      go_ret
      exact ⟨rfl, HBZ.out⟩
    | true =>
      cases b1 with
      | false =>
        go_wp2_with (first
          | (go_at_call 11; ((with_reducible refine (HMA.out _ H20.out).mono ?_); rintro e w21 ⟨rfl, h1⟩; have H21 := Lib.hid (H20.out.trans (h1.mono H20.out.size)); have HBF := Lib.hid (fun (wz : World) (hz : Below w21.heap.size w21 wz) => (HB2.out.trans (H21.out.mono HB2.out.size)).trans (hz.mono (HB2.out.trans (H21.out.mono HB2.out.size)).size)); obtain ⟨u0, u1, u2, u3⟩ := HKEEP.out _ H21.out; clear h1))
          | (go_at_call 11; ((with_reducible refine (HMB.out _ H21.out).mono ?_); rintro e w22 ⟨rfl, h1⟩; have H22 := Lib.hid (H21.out.trans (h1.mono H21.out.size)); clear HBF; have HBF := Lib.hid (fun (wz : World) (hz : Below w22.heap.size w22 wz) => (HB2.out.trans (H22.out.mono HB2.out.size)).trans (hz.mono (HB2.out.trans (H22.out.mono HB2.out.size)).size)); obtain ⟨s0, s1, s2, s3'⟩ := HKEEP.out _ H22.out; clear h1))
          | (go_at_call 9; ((with_reducible refine (HAW.out _).mono ?_); rintro e wz ⟨rfl, h1⟩; have HBZ := Lib.hid (HBF.out _ h1); clear h1)))
        go_ret
        exact ⟨rfl, HBZ.out⟩
      | true =>
        by_cases h300 : 300 < na
        · go_wp2_with (first
            | (go_at_call 11; ((with_reducible refine (HMA.out _ H20.out).mono ?_); rintro e w21 ⟨rfl, h1⟩; have H21 := Lib.hid (H20.out.trans (h1.mono H20.out.size)); have HBF := Lib.hid (fun (wz : World) (hz : Below w21.heap.size w21 wz) => (HB2.out.trans (H21.out.mono HB2.out.size)).trans (hz.mono (HB2.out.trans (H21.out.mono HB2.out.size)).size)); obtain ⟨u0, u1, u2, u3⟩ := HKEEP.out _ H21.out; clear h1))
            | (go_at_call 11; ((with_reducible refine (HMB.out _ H21.out).mono ?_); rintro e w22 ⟨rfl, h1⟩; have H22 := Lib.hid (H21.out.trans (h1.mono H21.out.size)); clear HBF; have HBF := Lib.hid (fun (wz : World) (hz : Below w22.heap.size w22 wz) => (HB2.out.trans (H22.out.mono HB2.out.size)).trans (hz.mono (HB2.out.trans (H22.out.mono HB2.out.size)).size)); obtain ⟨s0, s1, s2, s3'⟩ := HKEEP.out _ H22.out; clear h1))
            | (go_at_call 9; ((with_reducible refine (HAW.out _).mono ?_); rintro e wz ⟨rfl, h1⟩; have HBZ := Lib.hid (HBF.out _ h1); clear h1)))
          go_ret
          exact ⟨rfl, HBZ.out⟩
        by_cases ha40 : 1099511627776 < a
        · go_wp2_with (first
            | (go_at_call 11; ((with_reducible refine (HMA.out _ H20.out).mono ?_); rintro e w21 ⟨rfl, h1⟩; have H21 := Lib.hid (H20.out.trans (h1.mono H20.out.size)); have HBF := Lib.hid (fun (wz : World) (hz : Below w21.heap.size w21 wz) => (HB2.out.trans (H21.out.mono HB2.out.size)).trans (hz.mono (HB2.out.trans (H21.out.mono HB2.out.size)).size)); obtain ⟨u0, u1, u2, u3⟩ := HKEEP.out _ H21.out; clear h1))
            | (go_at_call 11; ((with_reducible refine (HMB.out _ H21.out).mono ?_); rintro e w22 ⟨rfl, h1⟩; have H22 := Lib.hid (H21.out.trans (h1.mono H21.out.size)); clear HBF; have HBF := Lib.hid (fun (wz : World) (hz : Below w22.heap.size w22 wz) => (HB2.out.trans (H22.out.mono HB2.out.size)).trans (hz.mono (HB2.out.trans (H22.out.mono HB2.out.size)).size)); obtain ⟨s0, s1, s2, s3'⟩ := HKEEP.out _ H22.out; clear h1))
            | (go_at_call 9; ((with_reducible refine (HAW.out _).mono ?_); rintro e wz ⟨rfl, h1⟩; have HBZ := Lib.hid (HBF.out _ h1); clear h1)))
          go_ret
          exact ⟨rfl, HBZ.out⟩
        by_cases hlo40 : 1099511627776 < lo
        · go_wp2_with (first
            | (go_at_call 11; ((with_reducible refine (HMA.out _ H20.out).mono ?_); rintro e w21 ⟨rfl, h1⟩; have H21 := Lib.hid (H20.out.trans (h1.mono H20.out.size)); have HBF := Lib.hid (fun (wz : World) (hz : Below w21.heap.size w21 wz) => (HB2.out.trans (H21.out.mono HB2.out.size)).trans (hz.mono (HB2.out.trans (H21.out.mono HB2.out.size)).size)); obtain ⟨u0, u1, u2, u3⟩ := HKEEP.out _ H21.out; clear h1))
            | (go_at_call 11; ((with_reducible refine (HMB.out _ H21.out).mono ?_); rintro e w22 ⟨rfl, h1⟩; have H22 := Lib.hid (H21.out.trans (h1.mono H21.out.size)); clear HBF; have HBF := Lib.hid (fun (wz : World) (hz : Below w22.heap.size w22 wz) => (HB2.out.trans (H22.out.mono HB2.out.size)).trans (hz.mono (HB2.out.trans (H22.out.mono HB2.out.size)).size)); obtain ⟨s0, s1, s2, s3'⟩ := HKEEP.out _ H22.out; clear h1))
            | (go_at_call 9; ((with_reducible refine (HAW.out _).mono ?_); rintro e wz ⟨rfl, h1⟩; have HBZ := Lib.hid (HBF.out _ h1); clear h1)))
          go_ret
          exact ⟨rfl, HBZ.out⟩
        by_cases hhi40 : 1099511627776 < hi
        · go_wp2_with (first
            | (go_at_call 11; ((with_reducible refine (HMA.out _ H20.out).mono ?_); rintro e w21 ⟨rfl, h1⟩; have H21 := Lib.hid (H20.out.trans (h1.mono H20.out.size)); have HBF := Lib.hid (fun (wz : World) (hz : Below w21.heap.size w21 wz) => (HB2.out.trans (H21.out.mono HB2.out.size)).trans (hz.mono (HB2.out.trans (H21.out.mono HB2.out.size)).size)); obtain ⟨u0, u1, u2, u3⟩ := HKEEP.out _ H21.out; clear h1))
            | (go_at_call 11; ((with_reducible refine (HMB.out _ H21.out).mono ?_); rintro e w22 ⟨rfl, h1⟩; have H22 := Lib.hid (H21.out.trans (h1.mono H21.out.size)); clear HBF; have HBF := Lib.hid (fun (wz : World) (hz : Below w22.heap.size w22 wz) => (HB2.out.trans (H22.out.mono HB2.out.size)).trans (hz.mono (HB2.out.trans (H22.out.mono HB2.out.size)).size)); obtain ⟨s0, s1, s2, s3'⟩ := HKEEP.out _ H22.out; clear h1))
            | (go_at_call 9; ((with_reducible refine (HAW.out _).mono ?_); rintro e wz ⟨rfl, h1⟩; have HBZ := Lib.hid (HBF.out _ h1); clear h1)))
          go_ret
          exact ⟨rfl, HBZ.out⟩
        have hmo := mayM_out HB0.out
        have hmo2 := mayM_out HB1.out
        obtain ⟨N, rfl⟩ : ∃ N : Nat, na = (N : Int) := ⟨na.toNat, by omega⟩
        have HAB := Lib.hid (show AB w2 A m c xs N B m2 c2 ys nb from ⟨HX.out, HY.out, hmo.2.2.2, by omega, by omega, by omega, hmo2.1, hmo2.2.1⟩)
        have hsp := fun (wq : World) (hq : Below w2.heap.size w2 wq) => (HAB.out.lift hq).cSpan lo hi (by omega)
        have hsr := fun (wq : World) (hq : Below w2.heap.size w2 wq) => (HAB.out.lift hq).rSpan lo hi (by omega)
        obtain ⟨X, Y, O, hXY⟩ : ∃ X Y O, spanM xs N lo hi = (X, Y, O) := ⟨_, _, _, rfl⟩
        simp only [hXY, s3] at hsp hsr
        have HSP := Lib.hid hsp; have HSR := Lib.hid hsr
        have ha40' : a ≤ 4398046511104 := by omega
        obtain ⟨z, hz⟩ : ∃ z, imgM xs N a = z := ⟨_, rfl⟩
        have HI1 := Lib.hid (fun (wq : World) (hq : Below w2.heap.size w2 wq) => (show Calls Try.prog 21 #[.agg #[.slice A m c, .int .i64 (N : Int)], .int .i64 a] wq fun e w' => e = .returned (.int .i64 z) ∧ Below wq.heap.size wq w' from hz ▸ (HAB.out.lift hq).cImg a ha40'))
        have HI2 := Lib.hid (fun (wq : World) (hq : Below w2.heap.size w2 wq) => (show Calls Try.prog 22 #[.agg #[.slice A m c, .int .i64 (N : Int)], .int .i64 a] wq fun e w' => e = .returned (.int .i64 z) ∧ Below wq.heap.size wq w' from hz ▸ (HAB.out.lift hq).rImg a ha40'))
        have hzz : (z == z) = true := beq_self_eq_true z
        have hXX : (X == X) = true := beq_self_eq_true X
        have hYY : (Y == Y) = true := beq_self_eq_true Y
        have hOO : (O == O) = true := beq_self_eq_true O
        clear hz hsp hsr hXY hmo hmo2
        have hwh : wrap64 hi = hi := by unfold wrap64; omega
        by_cases hl0 : lo ≤ 0
        · by_cases hh5 : 5000 < hi
          · go_wp2_with (first
              | (go_at_call 11; ((with_reducible refine (HMA.out _ H20.out).mono ?_); rintro e w21 ⟨rfl, h1⟩; have H21 := Lib.hid (H20.out.trans (h1.mono H20.out.size)); have HBF := Lib.hid (fun (wz : World) (hz : Below w21.heap.size w21 wz) => (HB2.out.trans (H21.out.mono HB2.out.size)).trans (hz.mono (HB2.out.trans (H21.out.mono HB2.out.size)).size)); obtain ⟨u0, u1, u2, u3⟩ := HKEEP.out _ H21.out; clear h1))
              | (go_at_call 11; ((with_reducible refine (HMB.out _ H21.out).mono ?_); rintro e w22 ⟨rfl, h1⟩; have H22 := Lib.hid (H21.out.trans (h1.mono H21.out.size)); clear HBF; have HBF := Lib.hid (fun (wz : World) (hz : Below w22.heap.size w22 wz) => (HB2.out.trans (H22.out.mono HB2.out.size)).trans (hz.mono (HB2.out.trans (H22.out.mono HB2.out.size)).size)); obtain ⟨s0, s1, s2, s3'⟩ := HKEEP.out _ H22.out; clear h1))
              | (go_at_call 9; ((with_reducible refine (HAW.out _).mono ?_); rintro e wz ⟨rfl, h1⟩; have HBZ := Lib.hid (HBF.out _ h1); clear h1)))
            go_ret
            exact ⟨rfl, HBZ.out⟩
          · go_upto_region 7 with (first
              | (go_at_call 11; ((with_reducible refine (HMA.out _ H20.out).mono ?_); rintro e w21 ⟨rfl, h1⟩; have H21 := Lib.hid (H20.out.trans (h1.mono H20.out.size)); have HBF := Lib.hid (fun (wz : World) (hz : Below w21.heap.size w21 wz) => (HB2.out.trans (H21.out.mono HB2.out.size)).trans (hz.mono (HB2.out.trans (H21.out.mono HB2.out.size)).size)); obtain ⟨u0, u1, u2, u3⟩ := HKEEP.out _ H21.out; clear h1))
              | (go_at_call 11; ((with_reducible refine (HMB.out _ H21.out).mono ?_); rintro e w22 ⟨rfl, h1⟩; have H22 := Lib.hid (H21.out.trans (h1.mono H21.out.size)); clear HBF; have HBF := Lib.hid (fun (wz : World) (hz : Below w22.heap.size w22 wz) => (HB2.out.trans (H22.out.mono HB2.out.size)).trans (hz.mono (HB2.out.trans (H22.out.mono HB2.out.size)).size)); obtain ⟨s0, s1, s2, s3'⟩ := HKEEP.out _ H22.out; clear h1)))
            clear x0 x1 x2 x3 u0 u1 u2 u3 s0 s1 s2 s3' HBF
            obtain ⟨x0, x1, x2, x3⟩ := HKEEP.out _ H22.out
            go_upto_region 8 with (go_at_call 19; ((with_reducible refine (HSP.out _ H22.out).mono ?_); rintro e w23 ⟨rfl, h1⟩; have H23 := Lib.hid (H22.out.trans (h1.mono H22.out.size)); clear h1))
            clear x0 x1 x2 x3
            obtain ⟨x0, x1, x2, x3⟩ := HKEEP.out _ H23.out
            go_upto_region 9 with (go_at_call 20; ((with_reducible refine (HSR.out _ H23.out).mono ?_); rintro e w24 ⟨rfl, h1⟩; have H24 := Lib.hid (H23.out.trans (h1.mono H23.out.size)); clear h1))
            clear x0 x1 x2 x3
            have HBD2 := Lib.hid (Below.drew H24.out)
            obtain ⟨x0, x1, x2, x3⟩ := HKEEP.out _ HBD2.out
            go_region_held3 (fun wq => wq.cell? ⟨p, 0, none⟩ = some (.slice A m c) ∧ wq.cell? ⟨p, 1, none⟩ = some (.int .i64 (N : Int)) ∧ wq.cell? ⟨p + 1, 0, none⟩ = some (.slice B m2 c2) ∧ wq.cell? ⟨p + 1, 1, none⟩ = some (.int .i64 nb)) (first | exact ⟨x0, x1, x2, x3⟩ | exact HKEEP.out _ H33.out | exact HKEEP.out _ H32.out | exact HKEEP.out _ H31.out | exact HKEEP.out _ H30.out | exact HKEEP.out _ H29.out | exact HKEEP.out _ H28.out | exact HKEEP.out _ H27.out | exact HKEEP.out _ H26.out | exact HKEEP.out _ H25.out) (first
              | (go_at_call 21; ((with_reducible refine (HI1.out _ HBD2.out).mono ?_); rintro e w25 ⟨rfl, h1⟩; have H25 := Lib.hid (HBD2.out.trans (h1.mono HBD2.out.size)); clear h1))
              | (go_at_call 22; ((with_reducible refine (HI2.out _ H25.out).mono ?_); rintro e w26 ⟨rfl, h1⟩; have H26 := Lib.hid (H25.out.trans (h1.mono H25.out.size)); clear h1))
              | (go_at_call 23; ((with_reducible refine (HAB.out.lift H26.out).cThen.mono ?_); rintro e w27 ⟨T, rfl, h1, h2⟩; have HX27 := Lib.hid h1; have H27 := Lib.hid (H26.out.trans (h2.mono H26.out.size)); clear h1 h2))
              | (go_at_call 24; ((with_reducible refine (HAB.out.lift H27.out).rThen.mono ?_); rintro e w28 ⟨D, d, rfl, h1, h2⟩; have HX28 := Lib.hid h1; have HX27b := Lib.hid (HX27.out.lift h2); have H28 := Lib.hid (H27.out.trans (h2.mono H27.out.size)); clear h1 h2))
              | (go_at_call 12; ((with_reducible refine (same_yes _ _ _ _ _ _ _ _ HX27b.out HX28.out).mono ?_); rintro e w29 ⟨rfl, h1⟩; have H29 := Lib.hid (H28.out.trans (h1.mono H28.out.size)); clear h1))
              | (go_at_call 25; ((with_reducible refine (HAB.out.lift H29.out).cBack.mono ?_); rintro e w30 ⟨T2, rfl, h1, h2⟩; have HX30 := Lib.hid h1; have H30 := Lib.hid (H29.out.trans (h2.mono H29.out.size)); clear h1 h2))
              | (go_at_call 26; ((with_reducible refine (HAB.out.lift H30.out).rBack.mono ?_); rintro e w31 ⟨D2, d2, rfl, h1, h2⟩; have HX31 := Lib.hid h1; have HX30b := Lib.hid (HX30.out.lift h2); have H31 := Lib.hid (H30.out.trans (h2.mono H30.out.size)); clear h1 h2))
              | (go_at_call 12; ((with_reducible refine (same_yes _ _ _ _ _ _ _ _ HX30b.out HX31.out).mono ?_); rintro e w32 ⟨rfl, h1⟩; have H32 := Lib.hid (H31.out.trans (h1.mono H31.out.size)); clear h1))
              | (go_at_call 9; ((with_reducible refine (HAW.out _).mono ?_); rintro e w33 ⟨rfl, h1⟩; have H33 := Lib.hid (H32.out.trans (h1.mono H32.out.size)); clear h1)))
            all_goals go_wp2_with fail
            all_goals go_ret
            all_goals exact ⟨rfl, HB2.out.trans (H33.out.mono HB2.out.size)⟩
        · obtain ⟨Dd, hD⟩ : ∃ D, wrap64 (hi - lo) = D := ⟨_, rfl⟩
          by_cases hh5 : 5000 < Dd
          · go_wp2_with (first
              | (go_at_call 11; ((with_reducible refine (HMA.out _ H20.out).mono ?_); rintro e w21 ⟨rfl, h1⟩; have H21 := Lib.hid (H20.out.trans (h1.mono H20.out.size)); have HBF := Lib.hid (fun (wz : World) (hz : Below w21.heap.size w21 wz) => (HB2.out.trans (H21.out.mono HB2.out.size)).trans (hz.mono (HB2.out.trans (H21.out.mono HB2.out.size)).size)); obtain ⟨u0, u1, u2, u3⟩ := HKEEP.out _ H21.out; clear h1))
              | (go_at_call 11; ((with_reducible refine (HMB.out _ H21.out).mono ?_); rintro e w22 ⟨rfl, h1⟩; have H22 := Lib.hid (H21.out.trans (h1.mono H21.out.size)); clear HBF; have HBF := Lib.hid (fun (wz : World) (hz : Below w22.heap.size w22 wz) => (HB2.out.trans (H22.out.mono HB2.out.size)).trans (hz.mono (HB2.out.trans (H22.out.mono HB2.out.size)).size)); obtain ⟨s0, s1, s2, s3'⟩ := HKEEP.out _ H22.out; clear h1))
              | (go_at_call 9; ((with_reducible refine (HAW.out _).mono ?_); rintro e wz ⟨rfl, h1⟩; have HBZ := Lib.hid (HBF.out _ h1); clear h1)))
            go_ret
            exact ⟨rfl, HBZ.out⟩
          · go_upto_region 7 with (first
              | (go_at_call 11; ((with_reducible refine (HMA.out _ H20.out).mono ?_); rintro e w21 ⟨rfl, h1⟩; have H21 := Lib.hid (H20.out.trans (h1.mono H20.out.size)); have HBF := Lib.hid (fun (wz : World) (hz : Below w21.heap.size w21 wz) => (HB2.out.trans (H21.out.mono HB2.out.size)).trans (hz.mono (HB2.out.trans (H21.out.mono HB2.out.size)).size)); obtain ⟨u0, u1, u2, u3⟩ := HKEEP.out _ H21.out; clear h1))
              | (go_at_call 11; ((with_reducible refine (HMB.out _ H21.out).mono ?_); rintro e w22 ⟨rfl, h1⟩; have H22 := Lib.hid (H21.out.trans (h1.mono H21.out.size)); clear HBF; have HBF := Lib.hid (fun (wz : World) (hz : Below w22.heap.size w22 wz) => (HB2.out.trans (H22.out.mono HB2.out.size)).trans (hz.mono (HB2.out.trans (H22.out.mono HB2.out.size)).size)); obtain ⟨s0, s1, s2, s3'⟩ := HKEEP.out _ H22.out; clear h1)))
            clear x0 x1 x2 x3 u0 u1 u2 u3 s0 s1 s2 s3' HBF
            obtain ⟨x0, x1, x2, x3⟩ := HKEEP.out _ H22.out
            go_upto_region 8 with (go_at_call 19; ((with_reducible refine (HSP.out _ H22.out).mono ?_); rintro e w23 ⟨rfl, h1⟩; have H23 := Lib.hid (H22.out.trans (h1.mono H22.out.size)); clear h1))
            clear x0 x1 x2 x3
            obtain ⟨x0, x1, x2, x3⟩ := HKEEP.out _ H23.out
            go_upto_region 9 with (go_at_call 20; ((with_reducible refine (HSR.out _ H23.out).mono ?_); rintro e w24 ⟨rfl, h1⟩; have H24 := Lib.hid (H23.out.trans (h1.mono H23.out.size)); clear h1))
            clear x0 x1 x2 x3
            have HBD2 := Lib.hid (Below.drew H24.out)
            obtain ⟨x0, x1, x2, x3⟩ := HKEEP.out _ HBD2.out
            go_region_held3 (fun wq => wq.cell? ⟨p, 0, none⟩ = some (.slice A m c) ∧ wq.cell? ⟨p, 1, none⟩ = some (.int .i64 (N : Int)) ∧ wq.cell? ⟨p + 1, 0, none⟩ = some (.slice B m2 c2) ∧ wq.cell? ⟨p + 1, 1, none⟩ = some (.int .i64 nb)) (first | exact ⟨x0, x1, x2, x3⟩ | exact HKEEP.out _ H33.out | exact HKEEP.out _ H32.out | exact HKEEP.out _ H31.out | exact HKEEP.out _ H30.out | exact HKEEP.out _ H29.out | exact HKEEP.out _ H28.out | exact HKEEP.out _ H27.out | exact HKEEP.out _ H26.out | exact HKEEP.out _ H25.out) (first
              | (go_at_call 21; ((with_reducible refine (HI1.out _ HBD2.out).mono ?_); rintro e w25 ⟨rfl, h1⟩; have H25 := Lib.hid (HBD2.out.trans (h1.mono HBD2.out.size)); clear h1))
              | (go_at_call 22; ((with_reducible refine (HI2.out _ H25.out).mono ?_); rintro e w26 ⟨rfl, h1⟩; have H26 := Lib.hid (H25.out.trans (h1.mono H25.out.size)); clear h1))
              | (go_at_call 23; ((with_reducible refine (HAB.out.lift H26.out).cThen.mono ?_); rintro e w27 ⟨T, rfl, h1, h2⟩; have HX27 := Lib.hid h1; have H27 := Lib.hid (H26.out.trans (h2.mono H26.out.size)); clear h1 h2))
              | (go_at_call 24; ((with_reducible refine (HAB.out.lift H27.out).rThen.mono ?_); rintro e w28 ⟨D, d, rfl, h1, h2⟩; have HX28 := Lib.hid h1; have HX27b := Lib.hid (HX27.out.lift h2); have H28 := Lib.hid (H27.out.trans (h2.mono H27.out.size)); clear h1 h2))
              | (go_at_call 12; ((with_reducible refine (same_yes _ _ _ _ _ _ _ _ HX27b.out HX28.out).mono ?_); rintro e w29 ⟨rfl, h1⟩; have H29 := Lib.hid (H28.out.trans (h1.mono H28.out.size)); clear h1))
              | (go_at_call 25; ((with_reducible refine (HAB.out.lift H29.out).cBack.mono ?_); rintro e w30 ⟨T2, rfl, h1, h2⟩; have HX30 := Lib.hid h1; have H30 := Lib.hid (H29.out.trans (h2.mono H29.out.size)); clear h1 h2))
              | (go_at_call 26; ((with_reducible refine (HAB.out.lift H30.out).rBack.mono ?_); rintro e w31 ⟨D2, d2, rfl, h1, h2⟩; have HX31 := Lib.hid h1; have HX30b := Lib.hid (HX30.out.lift h2); have H31 := Lib.hid (H30.out.trans (h2.mono H30.out.size)); clear h1 h2))
              | (go_at_call 12; ((with_reducible refine (same_yes _ _ _ _ _ _ _ _ HX30b.out HX31.out).mono ?_); rintro e w32 ⟨rfl, h1⟩; have H32 := Lib.hid (H31.out.trans (h1.mono H31.out.size)); clear h1))
              | (go_at_call 9; ((with_reducible refine (HAW.out _).mono ?_); rintro e w33 ⟨rfl, h1⟩; have H33 := Lib.hid (H32.out.trans (h1.mono H32.out.size)); clear h1)))
            all_goals go_wp2_with fail
            all_goals go_ret
            all_goals exact ⟨rfl, HB2.out.trans (H33.out.mono HB2.out.size)⟩
end Go.Proofs.Ytnnnpjdlhdkeaaa
