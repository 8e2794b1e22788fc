/-
  Layer 11, the program: spans.
-/
import Derived.Test.YtnnnpjdlhdkeaaaMaC
namespace Go.Proofs.Ytnnnpjdlhdkeaaa
open Go.RowKit

set_option maxRecDepth 100000 in
set_option maxHeartbeats 1600000 in
theorem isGone_any (w : World) (A : Option Addr) (n cap : Nat) (xs : List Int) (nw : Int) (k : Nat) (h : IR w w.heap.size A n cap xs) :
    Calls Try.prog 40 #[.agg #[.slice A n cap, .int .i64 nw], .int .i64 (k : Int)] w fun e w' => e = .returned (.bool (goneM xs k)) ∧ Below w.heap.size w w' := by
  have HB := Lib.hid (below_pr 52 w (.slice A n cap) nw)
  have HP := Lib.hid (PrAt.new 52 w (.slice A n cap) nw)
  have HX := Lib.hid h
  have HL := Lib.hid h.len.1
  clear h
  by_cases hin : k < n
  · have hii : (k : Int) < (n : Int) := by omega
    have hi0 : (0 : Int) ≤ (k : Int) := by omega
    obtain ⟨pb, po, rfl, hpb, e0⟩ := ir_at HX.out hin
    have hg : goneM xs k = decide (xs.getD k 0 = -1) := by
      unfold goneM
      rw [getD_some xs k (by rw [HL.out]; exact hin)]
      by_cases hx : xs.getD k 0 = -1
      · rw [hx]; rfl
      · rw [decide_eq_false hx, decide_eq_false (fun e => hx (Option.some.inj e))]
    obtain ⟨x, hx⟩ : ∃ x, xs.getD k 0 = x := ⟨_, rfl⟩
    rw [hx] at e0 hg
    have HE := Lib.hid e0; have HPB := Lib.hid hpb; have HG := Lib.hid hg
    clear e0 hx hpb hg
    go_enter Try.func40, Try.ntmps40
    go_upto_region 1 with (fail)
    obtain ⟨w1, hw1⟩ : ∃ w1, w.alloc (.cells #[.slice (some ⟨pb, po, none⟩) n cap, .int .i64 nw] 52) = w1 := ⟨_, rfl⟩
    rw [hw1] at HB HP ⊢
    clear hw1
    obtain ⟨x0, x1⟩ := HP.out.cells
    have x2 : w1.cell? ⟨pb, po + k, none⟩ = some (.int .i64 x) := (HB.out.cell (p := ⟨pb, po + k, none⟩) HPB.out).trans HE.out
    by_cases hx : x = -1
    · have hxb : (x == -1) = true := by rw [hx]; rfl
      have HX1 := Lib.hid hx
      clear hx
      go_wp2_with fail
      go_ret
      exact ⟨by rw [HG.out, decide_eq_true HX1.out]; rfl, HB.out⟩
    · have hxb : (x == -1) = false := by rw [beq_eq_false_iff_ne]; exact hx
      have HX1 := Lib.hid hx
      clear hx
      go_wp2_with fail
      go_ret
      exact ⟨by rw [HG.out, decide_eq_false HX1.out]; rfl, HB.out⟩
  · have hii : ¬ (k : Int) < (n : Int) := by omega
    have HG := Lib.hid (show goneM xs k = false from by
      unfold goneM
      rw [List.getElem?_eq_none (by rw [HL.out]; omega)]; rfl)
    go_enter Try.func40, Try.ntmps40
    go_upto_region 1 with (fail)
    obtain ⟨w1, hw1⟩ : ∃ w1, w.alloc (.cells #[.slice A n cap, .int .i64 nw] 52) = w1 := ⟨_, rfl⟩
    rw [hw1] at HB HP ⊢
    clear hw1
    obtain ⟨x0, x1⟩ := HP.out.cells
    go_wp2_with fail
    go_ret
    exact ⟨by rw [HG.out]; rfl, HB.out⟩
theorem goneM_lt {xs : List Int} {k : Nat} (h : goneM xs k = true) : k < xs.length := by
  unfold goneM at h
  rw [decide_eq_true_eq] at h
  exact (List.getElem?_eq_some_iff.1 h).1
set_option maxRecDepth 100000 in
set_option maxHeartbeats 4000000 in
theorem firstKept_any (w : World) (A : Option Addr) (n cap : Nat) (xs : List Int) (nw hi : Int) (lo : Nat) (h : IR w w.heap.size A n cap xs) (hh : hi ≤ 4398046511104) :
    Calls Try.prog 35 #[.agg #[.slice A n cap, .int .i64 nw], .int .i64 (lo : Int), .int .i64 hi] w fun e w' => e = .returned (.int .i64 (firstK xs (hi + 1 - lo).toNat lo : Nat)) ∧ Below w.heap.size w w' := by
  have HB := Lib.hid (below_pr 52 w (.slice A n cap) nw)
  have HP := Lib.hid (PrAt.new 52 w (.slice A n cap) nw)
  have HX := Lib.hid h
  have HL := Lib.hid h.len.1
  clear h
  obtain ⟨F, hF⟩ : ∃ F, firstK xs (hi + 1 - lo).toNat lo = F := ⟨_, rfl⟩
  rw [hF]
  have HF := Lib.hid hF
  clear hF
  go_enter Try.func35, Try.ntmps35
  go_upto_region 1 with (fail)
  obtain ⟨w1, hw1⟩ : ∃ w1, w.alloc (.cells #[.slice A n cap, .int .i64 nw] 52) = w1 := ⟨_, rfl⟩
  rw [hw1] at HB HP ⊢
  clear hw1
  have HX1 := Lib.hid (HX.out.lift HB.out)
  go_loopw [1] (fun iv wr => ∃ k : Nat, iv = .int .i64 (k : Int) ∧ Hid (firstK xs (hi + 1 - k).toNat k = F) ∧ Hid (Below w1.heap.size w1 wr))
    (fun iv _ => n - (intOf iv).toNat)
  case atStart => exact ⟨lo, rfl, HF, Lib.hid (Below.refl _ _)⟩
  case round =>
    obtain ⟨k, rfl, HK, HR⟩ := hrel
    obtain ⟨x0, x1⟩ := (HP.out.over HR.out).cells
    by_cases hle : (k : Int) ≤ hi
    · have HM := Lib.hid (show (hi + 1 - (k : Int)).toNat = (hi + 1 - ((k + 1 : Nat) : Int)).toNat + 1 by omega)
      have hc := isGone_any wr A n cap xs nw k (HX1.out.lift HR.out)
      cases hg : goneM xs k with
      | true =>
        have hkn := goneM_lt hg
        rw [HL.out] at hkn
        rw [hg] at hc
        have HC := Lib.hid hc
        have HN := Lib.hid (show firstK xs (hi + 1 - ((k + 1 : Nat) : Int)).toNat (k + 1) = F from by
          have h1 := HK.out
          rw [HM.out] at h1
          unfold firstK at h1
          rwa [if_pos hg] at h1)
        clear hc hg
        go_wp2_with (go_at_call 40; ((with_reducible refine HC.out.mono ?_); rintro e w2 ⟨rfl, h1⟩; have H2 := Lib.hid (HR.out.trans (h1.mono HR.out.size)); clear h1))
        go_roundw
        case rel => exact ⟨k + 1, by go_num, HN, H2⟩
        case measure => simp [intOf]; omega
      | false =>
        rw [hg] at hc
        have HC := Lib.hid hc
        have HN := Lib.hid (show k = F from by
          have h1 := HK.out
          rw [HM.out] at h1
          unfold firstK at h1
          rwa [if_neg (by rw [hg]; decide)] at h1)
        clear hc hg
        go_wp2_with (go_at_call 40; ((with_reducible refine HC.out.mono ?_); rintro e w2 ⟨rfl, h1⟩; have H2 := Lib.hid (HR.out.trans (h1.mono HR.out.size)); clear h1))
        go_ret
        exact ⟨by rw [← HN.out]; rfl, HB.out.trans (H2.out.mono HB.out.size)⟩
    · have HN := Lib.hid (show k = F from by
        have h1 := HK.out
        rw [show (hi + 1 - (k : Int)).toNat = 0 by omega] at h1
        exact h1)
      go_wp2_with fail
      go_ret
      exact ⟨by rw [← HN.out]; rfl, HB.out.trans (HR.out.mono HB.out.size)⟩
set_option maxRecDepth 100000 in
set_option maxHeartbeats 4000000 in
theorem lastKept_any (w : World) (A : Option Addr) (n cap : Nat) (xs : List Int) (nw : Int) (lo hi : Nat) (h : IR w w.heap.size A n cap xs) (hlh : lo ≤ hi) (hh : (hi : Int) ≤ 4398046511104) :
    Calls Try.prog 37 #[.agg #[.slice A n cap, .int .i64 nw], .int .i64 (lo : Int), .int .i64 (hi : Int)] w fun e w' => e = .returned (.int .i64 (lastK xs (hi - lo) hi : Nat)) ∧ Below w.heap.size w w' := by
  have HB := Lib.hid (below_pr 52 w (.slice A n cap) nw)
  have HP := Lib.hid (PrAt.new 52 w (.slice A n cap) nw)
  have HX := Lib.hid h
  have HL := Lib.hid h.len.1
  clear h
  obtain ⟨F, hF⟩ : ∃ F, lastK xs (hi - lo) hi = F := ⟨_, rfl⟩
  rw [hF]
  have HF := Lib.hid hF
  clear hF
  go_enter Try.func37, Try.ntmps37
  go_upto_region 1 with (fail)
  obtain ⟨w1, hw1⟩ : ∃ w1, w.alloc (.cells #[.slice A n cap, .int .i64 nw] 52) = w1 := ⟨_, rfl⟩
  rw [hw1] at HB HP ⊢
  clear hw1
  have HX1 := Lib.hid (HX.out.lift HB.out)
  go_loopw [2] (fun iv wr => ∃ k : Nat, iv = .int .i64 (k : Int) ∧ lo ≤ k ∧ (k : Int) ≤ 4398046511104 ∧ Hid (lastK xs (k - lo) k = F) ∧ Hid (Below w1.heap.size w1 wr))
    (fun iv _ => (intOf iv).toNat)
  case atStart => exact ⟨hi, rfl, hlh, hh, HF, Lib.hid (Below.refl _ _)⟩
  case round =>
    obtain ⟨k, rfl, hlk, hkb, HK, HR⟩ := hrel
    obtain ⟨x0, x1⟩ := (HP.out.over HR.out).cells
    by_cases hle : (lo : Int) < (k : Int)
    · have HM := Lib.hid (show k - lo = (k - 1 - lo) + 1 by omega)
      have hc := isGone_any wr A n cap xs nw k (HX1.out.lift HR.out)
      cases hg : goneM xs k with
      | true =>
        rw [hg] at hc
        have HC := Lib.hid hc
        have HN := Lib.hid (show lastK xs (k - 1 - lo) (k - 1) = F from by
          have h1 := HK.out
          rw [HM.out] at h1
          unfold lastK at h1
          rwa [if_pos hg] at h1)
        clear hc hg
        go_wp2_with (go_at_call 40; ((with_reducible refine HC.out.mono ?_); rintro e w2 ⟨rfl, h1⟩; have H2 := Lib.hid (HR.out.trans (h1.mono HR.out.size)); clear h1))
        go_roundw
        case rel => exact ⟨k - 1, by go_num, by omega, by omega, HN, H2⟩
        case measure => simp [intOf]; omega
      | false =>
        rw [hg] at hc
        have HC := Lib.hid hc
        have HN := Lib.hid (show k = F from by
          have h1 := HK.out
          rw [HM.out] at h1
          unfold lastK at h1
          rwa [if_neg (by rw [hg]; decide)] at h1)
        clear hc hg
        go_wp2_with (go_at_call 40; ((with_reducible refine HC.out.mono ?_); rintro e w2 ⟨rfl, h1⟩; have H2 := Lib.hid (HR.out.trans (h1.mono HR.out.size)); clear h1))
        go_ret
        exact ⟨by rw [← HN.out]; rfl, HB.out.trans (H2.out.mono HB.out.size)⟩
    · have HN := Lib.hid (show k = F from by
        have h1 := HK.out
        rw [show k - lo = 0 by omega] at h1
        exact h1)
      go_wp2_with fail
      go_ret
      exact ⟨by rw [← HN.out]; rfl, HB.out.trans (HR.out.mono HB.out.size)⟩
end Go.Proofs.Ytnnnpjdlhdkeaaa
