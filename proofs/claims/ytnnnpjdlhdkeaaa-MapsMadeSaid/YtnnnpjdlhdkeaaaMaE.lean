/-
  Layer 11: where a span went, the program and the reference.
-/
import Derived.Test.YtnnnpjdlhdkeaaaMaD
import Derived.Deep.CutBlock
namespace Go.Proofs.Ytnnnpjdlhdkeaaa
open Go.RowKit

def s3 (p : Int × Int × Bool) : Value := .tuple #[.int .i64 p.1, .int .i64 p.2.1, .bool p.2.2]
theorem ret_s3 {p q : Int × Int × Bool} (h : p = q) : Ending.returned (s3 p) = .returned (s3 q) := by rw [h]
theorem firstK_kept (xs : List Int) : ∀ n lo, firstK xs n lo < lo + n → ¬ goneM xs (firstK xs n lo) = true
  | 0, lo, h => absurd h (by show ¬ lo < lo + 0; omega)
  | n + 1, lo, h => by
    by_cases hg : goneM xs lo = true
    · have e : firstK xs (n + 1) lo = firstK xs n (lo + 1) := by show (if goneM xs lo = true then _ else _) = _; rw [if_pos hg]
      rw [e] at h ⊢
      exact firstK_kept xs n (lo + 1) (by omega)
    · have e : firstK xs (n + 1) lo = lo := by show (if goneM xs lo = true then _ else _) = _; rw [if_neg hg]
      rw [e]; exact hg
theorem spanM_low (xs : List Int) (nw lo hi : Int) (h : lo < 0) : spanM xs nw lo hi = (0, 0, false) := by unfold spanM; rw [if_pos (.inl h)]
theorem spanM_none (xs : List Int) (nw hi : Int) (k : Nat) (h : hi < (firstK xs (hi + 1 - k).toNat k : Int)) : spanM xs nw k hi = (0, 0, false) := by
  unfold spanM
  split
  · rfl
  · rw [Int.toNat_natCast, if_pos h]
theorem spanM_some (xs : List Int) (nw : Int) (k j : Nat) (h : ¬ (j : Int) < (firstK xs ((j : Int) + 1 - k).toNat k : Int)) :
    spanM xs nw k j = (imgM xs nw (firstK xs ((j : Int) + 1 - k).toNat k : Nat), imgM xs nw (lastK xs (j - firstK xs ((j : Int) + 1 - k).toNat k) j : Nat), true) := by
  have hl := (firstK_low xs ((j : Int) + 1 - k).toNat k).1
  unfold spanM
  rw [Int.toNat_natCast, Int.toNat_natCast, if_neg (by omega), if_neg h]
set_option maxRecDepth 100000 in
set_option maxHeartbeats 4000000 in
theorem spanMap_any (w : World) (A : Option Addr) (n cap : Nat) (xs : List Int) (nw lo hi : Int) (h : IR w w.heap.size A n cap xs) (hn : n ≤ 2000000) (h0 : 0 ≤ nw) (h1 : nw ≤ 2000000) (hh : hi ≤ 4398046511104) :
    Calls Try.prog 19 #[.agg #[.slice A n cap, .int .i64 nw], .int .i64 lo, .int .i64 hi] w fun e w' => e = .returned (s3 (spanM xs nw lo hi)) ∧ Below w.heap.size w w' := by
  have HB := Lib.hid (below_pr 24 w (.slice A n cap) nw)
  have HP := Lib.hid (PrAt.new 24 w (.slice A n cap) nw)
  have HX := Lib.hid h
  clear h
  by_cases hneg : lo < 0
  · have HV := Lib.hid (spanM_low xs nw lo hi hneg)
    go_enter Try.func19, Try.ntmps19
    go_wp2_with fail
    go_ret3
    exact ⟨by rw [HV.out]; rfl, HB.out⟩
  · obtain ⟨k, rfl⟩ : ∃ k : Nat, lo = (k : Int) := ⟨lo.toNat, by omega⟩
    go_enter Try.func19, Try.ntmps19
    go_upto_region 1 with (fail)
    obtain ⟨w1, hw1⟩ : ∃ w1, w.alloc (.cells #[.slice A n cap, .int .i64 nw] 24) = w1 := ⟨_, rfl⟩
    rw [hw1] at HB HP ⊢
    clear hw1
    obtain ⟨x0, x1⟩ := HP.out.cells
    go_upto_region 4 with (fail)
    clear x0 x1
    have HB1 := Lib.hid (below_pr 52 w1 (.slice A n cap) nw)
    have HW := Lib.hid (PrAt.new 52 w1 (.slice A n cap) nw)
    obtain ⟨w2, hw2⟩ : ∃ w2, w1.alloc (.cells #[.slice A n cap, .int .i64 nw] 52) = w2 := ⟨_, rfl⟩
    rw [hw2] at HB1 HW ⊢
    clear hw2
    have HB2 := Lib.hid (HB.out.trans (HB1.out.mono HB.out.size))
    have HX2 := Lib.hid (HX.out.lift HB2.out)
    obtain ⟨F, hF⟩ : ∃ F, firstK xs (hi + 1 - k).toNat k = F := ⟨_, rfl⟩
    have hf := firstKept_any w2 A n cap xs nw hi k HX2.out hh
    rw [hF] at hf
    have HFK := Lib.hid hf; have HFE := Lib.hid hF
    clear hf hF
    obtain ⟨x0, x1⟩ := HW.out.cells
    go_upto_region 5 with (go_at_call 35; ((with_reducible refine HFK.out.mono ?_); rintro e w3 ⟨rfl, h3⟩; have H3 := Lib.hid h3; clear h3))
    clear x0 x1
    have HB3 := Lib.hid (HB2.out.trans (H3.out.mono HB2.out.size))
    by_cases hlt : hi < (F : Int)
    · have HV := Lib.hid (spanM_none xs nw hi k (by rw [HFE.out]; exact hlt))
      go_wp2_with fail
      go_ret3
      exact ⟨by rw [HV.out]; rfl, HB3.out⟩
    · obtain ⟨j, rfl⟩ : ∃ j : Nat, hi = (j : Int) := ⟨hi.toNat, by omega⟩
      have hv := spanM_some xs nw k j (by rw [HFE.out]; exact hlt)
      rw [HFE.out] at hv
      have hll := lastK_low xs (j - F) j
      have HX3 := Lib.hid (HX2.out.lift H3.out)
      have HIL := Lib.hid (fun (wq : World) (hb : Below w3.heap.size w3 wq) => lastKept_any wq A n cap xs nw F j (HX3.out.lift hb) (by omega) hh)
      obtain ⟨L, hL⟩ : ∃ L, lastK xs (j - F) j = L := ⟨_, rfl⟩
      rw [hL] at hv HIL hll
      have HV := Lib.hid hv
      have HI1 := Lib.hid (fun (wq : World) (hb : Below w3.heap.size w3 wq) => wayImage_any wq A n cap xs nw (F : Int) (HX3.out.lift hb) hn h0 h1 (by omega))
      have HI3 := Lib.hid (fun (wq : World) (hb : Below w3.heap.size w3 wq) => wayImage_any wq A n cap xs nw (L : Int) (HX3.out.lift hb) hn h0 h1 (by omega))
      have HW3 := Lib.hid (HW.out.over H3.out)
      have HKEEP := Lib.hid (fun (wq : World) (hb : Below w3.heap.size w3 wq) => (HW3.out.over hb).cells)
      have HBD := Lib.hid (Below.drew (Below.refl w3.heap.size w3))
      clear hL hv hll
      obtain ⟨x0, x1⟩ := HW3.out.cells
      go_upto_region 7 with (fail)
      clear x0 x1
      obtain ⟨x0, x1⟩ := HKEEP.out _ HBD.out
      go_region_held3 (fun w' => w'.cell? ⟨w1.heap.size, 0, none⟩ = some (.slice A n cap) ∧ w'.cell? ⟨w1.heap.size, 1, none⟩ = some (.int .i64 nw)) (first | exact ⟨x0, x1⟩ | exact HKEEP.out _ H6.out | exact HKEEP.out _ H5.out | exact HKEEP.out _ H4.out) (first
        | (go_at_call 36; ((with_reducible refine (HI1.out _ HBD.out).mono ?_); rintro e w4 ⟨rfl, h1⟩; have H4 := Lib.hid (HBD.out.trans (h1.mono HBD.out.size)); clear h1))
        | (go_at_call 37; ((with_reducible refine (HIL.out _ H4.out).mono ?_); rintro e w5 ⟨rfl, h1⟩; have H5 := Lib.hid (H4.out.trans (h1.mono H4.out.size)); clear h1))
        | (go_at_call 36; ((with_reducible refine (HI3.out _ H5.out).mono ?_); rintro e w6 ⟨rfl, h1⟩; have H6 := Lib.hid (H5.out.trans (h1.mono H5.out.size)); clear h1)))
      all_goals go_wp2_with fail
      all_goals go_ret3
      all_goals exact ⟨by rw [HV.out]; rfl, HB3.out.trans (H6.out.mono HB3.out.size)⟩
set_option maxRecDepth 100000 in
set_option maxHeartbeats 8000000 in
theorem refSpan_any (w : World) (A : Option Addr) (n cap : Nat) (xs : List Int) (nw lo hi : Int) (h : IR w w.heap.size A n cap xs) (hn : n ≤ 2000000) (h0 : 0 ≤ nw) (h1 : nw ≤ 2000000) (hh : hi ≤ 4398046511104) (hr : Rises (-1) nw xs) :
    Calls Try.prog 20 #[.agg #[.slice A n cap, .int .i64 nw], .int .i64 lo, .int .i64 hi] w fun e w' => e = .returned (s3 (spanM xs nw lo hi)) ∧ Below w.heap.size w w' := by
  have HB := Lib.hid (below_pr 24 w (.slice A n cap) nw)
  have HP := Lib.hid (PrAt.new 24 w (.slice A n cap) nw)
  have HX := Lib.hid h
  have HL := Lib.hid h.len.1
  have HR := Lib.hid hr
  clear h hr
  by_cases hneg : lo < 0
  · have HV := Lib.hid (spanM_low xs nw lo hi hneg)
    go_enter Try.func20, Try.ntmps20
    go_wp2_with fail
    go_ret3
    exact ⟨by rw [HV.out]; rfl, HB.out⟩
  · obtain ⟨k0, rfl⟩ : ∃ k : Nat, lo = (k : Int) := ⟨lo.toNat, by omega⟩
    by_cases hhl : hi < (k0 : Int)
    · have HV := Lib.hid (show spanM xs nw k0 hi = (0, 0, false) from by unfold spanM; rw [if_pos (.inr hhl)])
      go_enter Try.func20, Try.ntmps20
      go_wp2_with fail
      go_ret3
      exact ⟨by rw [HV.out]; rfl, HB.out⟩
    · obtain ⟨j, rfl⟩ : ∃ j : Nat, hi = (j : Int) := ⟨hi.toNat, by omega⟩
      obtain ⟨F, hF⟩ : ∃ F, firstK xs ((j : Int) + 1 - k0).toNat k0 = F := ⟨_, rfl⟩
      have HF := Lib.hid hF
      clear hF
      go_enter Try.func20, Try.ntmps20
      go_upto_region 1 with (fail)
      obtain ⟨w1, hw1⟩ : ∃ w1, w.alloc (.cells #[.slice A n cap, .int .i64 nw] 24) = w1 := ⟨_, rfl⟩
      rw [hw1] at HB HP ⊢
      clear hw1
      have HX1 := Lib.hid (HX.out.lift HB.out)
      obtain ⟨x0, x1⟩ := HP.out.cells
      have HXC := Lib.hid (fun (k : Nat) (hk : k < n) => ir_at HX1.out hk)
      go_upto_block 0 with (fail)
      go_cut [9] from 19 to 38 (fun av wx => ∃ (k : Nat) (wu : World), av = .int .i64 (k : Int) ∧ k = F ∧ wu = wx ∧ wu = w1)
      case first =>
        go_wp2_with fail
        go_loopw [9] (fun iv wr => ∃ k : Nat, iv = .int .i64 (k : Int) ∧ (k : Int) ≤ 4398046511105 ∧ Hid (firstK xs ((j : Int) + 1 - k).toNat k = F) ∧ wr = w1)
          (fun iv _ => n - (intOf iv).toNat)
        case atStart => exact ⟨k0, rfl, by omega, HF, rfl⟩
        case round =>
          obtain ⟨k, rfl, hkb, HK, hwr⟩ := hrel
          subst hwr
          have hk0 : (0 : Int) ≤ (k : Int) := by omega
          by_cases hle : (k : Int) ≤ (j : Int)
          · have HM := Lib.hid (show ((j : Int) + 1 - (k : Int)).toNat = ((j : Int) + 1 - ((k + 1 : Nat) : Int)).toNat + 1 by omega)
            by_cases hkn : k < n
            · have hkni : (k : Int) < (n : Int) := by omega
              obtain ⟨pb, po, hA, hpb, e0⟩ := HXC.out k hkn
              have HGN := Lib.hid (show (goneM xs k = true ↔ xs.getD k 0 < 0) from by
                unfold goneM
                rw [decide_eq_true_eq, getD_some xs k (by rw [HL.out]; exact hkn)]
                have h2 := rises_at HR.out k (by rw [HL.out]; exact hkn)
                constructor
                · intro e; have := Option.some.inj e; omega
                · intro e; have h3 : xs.getD k 0 = -1 := by omega
                  rw [h3])
              obtain ⟨x, hx⟩ : ∃ x, xs.getD k 0 = x := ⟨_, rfl⟩
              rw [hx] at e0 HGN
              rw [hA] at x0
              clear hx hA
              by_cases hxn : x < 0
              · have HN := Lib.hid (show firstK xs ((j : Int) + 1 - ((k + 1 : Nat) : Int)).toNat (k + 1) = F from by
                  have h1 := HK.out
                  rw [HM.out] at h1
                  unfold firstK at h1
                  rwa [if_pos (HGN.out.2 hxn)] at h1)
                go_wp2_with fail
                go_roundw
                case rel => exact ⟨k + 1, by go_num, by omega, HN, by first | rfl | trivial⟩
                case measure => simp [intOf]; omega
              · have HN := Lib.hid (show k = F from by
                  have h1 := HK.out
                  rw [HM.out] at h1
                  unfold firstK at h1
                  rwa [if_neg (fun e => hxn (HGN.out.1 e))] at h1)
                go_wp2_with fail
                go_meet
                case rel => exact ⟨k, _, by first | rfl | trivial, HN.out, rfl, rfl⟩
            · have hkni : ¬ (k : Int) < (n : Int) := by omega
              have HN := Lib.hid (show k = F from by
                have h1 := HK.out
                rw [HM.out] at h1
                unfold firstK at h1
                rwa [if_neg (fun e => by have := goneM_lt e; rw [HL.out] at this; omega)] at h1)
              go_wp2_with fail
              go_meet
              case rel => exact ⟨k, _, by first | rfl | trivial, HN.out, rfl, rfl⟩
          · have HN := Lib.hid (show k = F from by
              have h1 := HK.out
              rw [show ((j : Int) + 1 - (k : Int)).toNat = 0 by omega] at h1
              exact h1)
            go_wp2_with fail
            go_meet
            case rel => exact ⟨k, _, by first | rfl | trivial, HN.out, rfl, rfl⟩
      case rest =>
        obtain ⟨k, wu, rfl, hkF, rfl, hwx⟩ := hcut
        have hwx := hwx.symm
        subst hwx
        subst hkF
        have hkb := (firstK_low xs ((j : Int) + 1 - k0).toNat k0)
        rw [HF.out] at hkb
        by_cases hgt : (j : Int) < (k : Int)
        · have HV := Lib.hid (spanM_none xs nw j k0 (by rw [HF.out]; exact hgt))
          have hnle : ¬ (k : Int) ≤ (j : Int) := by omega
          go_wp2_with fail
          go_loopw [10] (fun iv wr => iv = .int .i64 (j : Int) ∧ wr = w1)
            (fun iv _ => 0)
          case atStart => exact ⟨rfl, rfl⟩
          case round =>
            obtain ⟨rfl, hwr⟩ := hrel
            subst hwr
            go_wp2_with fail
            go_ret3
            exact ⟨by rw [HV.out]; rfl, HB.out⟩
        · have hle0 : (k : Int) ≤ (j : Int) := by omega
          have hv := spanM_some xs nw k0 j (by rw [HF.out]; omega)
          rw [HF.out] at hv
          have HKG := Lib.hid (show ¬ goneM xs k = true from by
            have h2 := firstK_kept xs ((j : Int) + 1 - k0).toNat k0
            rw [HF.out] at h2
            exact h2 (by omega))
          have hll := lastK_low xs (j - k) j
          obtain ⟨L, hL⟩ : ∃ L, lastK xs (j - k) j = L := ⟨_, rfl⟩
          rw [hL] at hv hll
          have HV := Lib.hid hv; have HLE := Lib.hid hL; have HLL := Lib.hid hll
          clear hv hL hll
          go_upto_block 2 with (fail)
          go_cut [10] from 40 to 59 (fun bv wx => ∃ (i : Nat) (wu : World), bv = .int .i64 (i : Int) ∧ i = L ∧ k ≤ i ∧ wu = wx ∧ wu = w1)
          case first =>
            go_wp2_with fail
            go_loopw [10] (fun iv wr => ∃ i : Nat, iv = .int .i64 (i : Int) ∧ k ≤ i ∧ (i : Int) ≤ 4398046511104 ∧ Hid (lastK xs (i - k) i = L) ∧ wr = w1)
              (fun iv _ => (intOf iv).toNat)
            case atStart => exact ⟨j, rfl, by omega, hh, HLE, rfl⟩
            case round =>
              obtain ⟨i, rfl, hki, hib, HK, hwr⟩ := hrel
              subst hwr
              have hi0 : (0 : Int) ≤ (i : Int) := by omega
              have hile : (k : Int) ≤ (i : Int) := by omega
              by_cases hin : i < n
              · have hini : (i : Int) < (n : Int) := by omega
                obtain ⟨pb, po, hA, hpb, e0⟩ := HXC.out i hin
                have HGN := Lib.hid (show (goneM xs i = true ↔ xs.getD i 0 < 0) from by
                  unfold goneM
                  rw [decide_eq_true_eq, getD_some xs i (by rw [HL.out]; exact hin)]
                  have h2 := rises_at HR.out i (by rw [HL.out]; exact hin)
                  constructor
                  · intro e; have := Option.some.inj e; omega
                  · intro e; have h3 : xs.getD i 0 = -1 := by omega
                    rw [h3])
                obtain ⟨x, hx⟩ : ∃ x, xs.getD i 0 = x := ⟨_, rfl⟩
                rw [hx] at e0 HGN
                rw [hA] at x0
                clear hx hA
                by_cases hxn : x < 0
                · have hik : k < i := by
                    rcases Nat.lt_or_ge k i with h | h
                    · exact h
                    · exfalso; have e : i = k := by omega
                      subst e; exact HKG.out (HGN.out.2 hxn)
                  have HN := Lib.hid (show lastK xs (i - 1 - k) (i - 1) = L from by
                    have h1 := HK.out
                    rw [show i - k = (i - 1 - k) + 1 by omega] at h1
                    unfold lastK at h1
                    rwa [if_pos (HGN.out.2 hxn)] at h1)
                  go_wp2_with fail
                  go_roundw
                  case rel => exact ⟨i - 1, by go_num, by omega, by omega, HN, by first | rfl | trivial⟩
                  case measure => simp [intOf]; omega
                · have HN := Lib.hid (show i = L from by
                    have h1 := HK.out
                    cases hd : i - k with
                    | zero => rw [hd] at h1; exact h1
                    | succ d =>
                      rw [hd] at h1
                      unfold lastK at h1
                      rwa [if_neg (fun e => hxn (HGN.out.1 e))] at h1)
                  go_wp2_with fail
                  go_meet
                  case rel => exact ⟨i, _, by first | rfl | trivial, HN.out, hki, rfl, rfl⟩
              · have hini : ¬ (i : Int) < (n : Int) := by omega
                have HN := Lib.hid (show i = L from by
                  have h1 := HK.out
                  cases hd : i - k with
                  | zero => rw [hd] at h1; exact h1
                  | succ d =>
                    rw [hd] at h1
                    unfold lastK at h1
                    rwa [if_neg (fun e => by have := goneM_lt e; rw [HL.out] at this; omega)] at h1)
                go_wp2_with fail
                go_meet
                case rel => exact ⟨i, _, by first | rfl | trivial, HN.out, hki, rfl, rfl⟩
          case rest =>
            obtain ⟨i, wu, rfl, hiL, hki, rfl, hwx⟩ := hcut
            have hwx := hwx.symm
            subst hwx
            subst hiL
            have hnlt : ¬ (i : Int) < (k : Int) := by omega
            have HI1 := Lib.hid (fun (wq : World) (hb : Below w1.heap.size w1 wq) => refImage_any wq A n cap xs nw (k : Int) (HX1.out.lift hb) hn h0 h1 (by omega))
            have HI2 := Lib.hid (fun (wq : World) (hb : Below w1.heap.size w1 wq) => refImage_any wq A n cap xs nw (i : Int) (HX1.out.lift hb) hn h0 h1 (by have := HLL.out; omega))
            have HKEEP := Lib.hid (fun (wq : World) (hb : Below w1.heap.size w1 wq) => (HP.out.over hb).cells)
            have HBD := Lib.hid (Below.drew (Below.refl w1.heap.size w1))
            go_upto_region 11 with (fail)
            clear x0 x1
            obtain ⟨x0, x1⟩ := HKEEP.out _ HBD.out
            go_region_held3 (fun w' => w'.cell? ⟨w.heap.size, 0, none⟩ = some (.slice A n cap) ∧ w'.cell? ⟨w.heap.size, 1, none⟩ = some (.int .i64 nw)) (first | exact ⟨x0, x1⟩ | exact HKEEP.out _ H5.out | exact HKEEP.out _ H4.out) (first
              | (go_at_call 22; ((with_reducible refine (HI1.out _ HBD.out).mono ?_); rintro e w4 ⟨rfl, h1⟩; have H4 := Lib.hid (HBD.out.trans (h1.mono HBD.out.size)); clear h1))
              | (go_at_call 22; ((with_reducible refine (HI2.out _ H4.out).mono ?_); rintro e w5 ⟨rfl, h1⟩; have H5 := Lib.hid (H4.out.trans (h1.mono H4.out.size)); clear h1)))
            all_goals go_wp2_with fail
            all_goals go_ret3
            all_goals exact ⟨by rw [HV.out]; rfl, HB.out.trans (H5.out.mono HB.out.size)⟩
end Go.Proofs.Ytnnnpjdlhdkeaaa
