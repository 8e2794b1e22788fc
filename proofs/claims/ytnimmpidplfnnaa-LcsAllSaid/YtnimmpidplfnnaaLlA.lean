/-
  Layer 15: what any two lists have in common, and where, is the document's: the law LcsAll.
-/
import Derived.Test.YtnimmpidplfnnaaLcH
namespace Go.Proofs.Ytnimmpidplfnnaa
open Go.RowKit

theorem txt_max {l : List ByteArray} (h : ∀ t ∈ l, t.size ≤ 100) : ∀ t ∈ l, t.size ≤ maxLen := fun t ht => by have := h t ht; unfold maxLen; omega
set_option maxRecDepth 100000 in
set_option maxHeartbeats 4000000 in
theorem lcsAll_any (w : World) (A B : Option Addr) (n cap m capb : Nat) (a b : List ByteArray) (hA : SE encStr w w.heap.size (.slice A n cap) a) (hB : SE encStr w w.heap.size (.slice B m capb) b) :
    Calls Try.prog 3 #[.slice A n cap, .slice B m capb] w fun e w' => e = .returned (.bool true) ∧ Below w.heap.size w w' := by
  have HGA := Lib.hid (great_any w A n cap a hA)
  have HGB := Lib.hid (great_any w B m capb b hB)
  have HAW := Lib.hid (fun (wq : World) => awake15_any wq)
  cases hga : grt a with
  | true =>
    rw [hga] at HGA
    clear hA hB hga
    go_enter Try.func3, Try.ntmps3
    go_wp2_with (first
      | (go_at_call 7; ((with_reducible refine HGA.out.mono ?_); rintro e w1 ⟨rfl, rfl⟩))
      | (go_at_call 8; ((with_reducible refine (HAW.out _).mono ?_); rintro e w1 ⟨rfl, h1⟩; have H1 := Lib.hid h1; clear h1)))
    go_ret
    exact ⟨rfl, H1.out⟩
  | false =>
    rw [hga] at HGA
    cases hgb : grt b with
    | true =>
      rw [hgb] at HGB
      clear hA hB hga hgb
      go_enter Try.func3, Try.ntmps3
      go_wp2_with (first
        | (go_at_call_of 7 (Value.slice A n cap); ((with_reducible refine HGA.out.mono ?_); rintro e w1 ⟨rfl, rfl⟩))
        | (go_at_call 7; ((with_reducible refine HGB.out.mono ?_); rintro e w1 ⟨rfl, rfl⟩))
        | (go_at_call 8; ((with_reducible refine (HAW.out _).mono ?_); rintro e w1 ⟨rfl, h1⟩; have H1 := Lib.hid h1; clear h1)))
      go_ret
      exact ⟨rfl, H1.out⟩
    | false =>
      rw [hgb] at HGB
      have hza := txt_max (grt_no hga).2
      have hzb := txt_max (grt_no hgb).2
      have HA := Lib.hid hA
      have HB := Lib.hid hB
      have HP := Lib.hid (pairs_any w A B n cap m capb a b hA hB hza hzb)
      have HR := Lib.hid (fun (w1 : World) (h : Below w.heap.size w w1) => refPairs_any w1 A B n cap m capb a b (hA.lift h) (hB.lift h))
      have HL := Lib.hid (fun (w1 : World) (h : Below w.heap.size w w1) => long_any w1 A B n cap m capb a b (hA.lift h) (hB.lift h) hza hzb)
      have HRL := Lib.hid (fun (w1 : World) (h : Below w.heap.size w w1) => refLong_any w1 A B n cap m capb a b (hA.lift h) (hB.lift h))
      obtain ⟨px, hpx⟩ : ∃ px, pX (cutL a b).1 (cutL a b).2 0 0 = px := ⟨_, rfl⟩
      obtain ⟨py, hpy⟩ : ∃ py, pY (cutL a b).1 (cutL a b).2 0 0 = py := ⟨_, rfl⟩
      obtain ⟨lg, hlg⟩ : ∃ lg, lcsAt (cutL a b).1 (cutL a b).2 0 0 = lg := ⟨_, rfl⟩
      rw [hpx, hpy] at HP
      simp only [hpx, hpy] at HR
      simp only [hlg] at HL HRL
      have hdx : decide (px = px) = true := decide_eq_true rfl
      have hdy : decide (py = py) = true := decide_eq_true rfl
      have hlq : ((lg : Int) == (lg : Int)) = true := beq_self_eq_true _
      have HI := Lib.hid (fun (wq : World) (v1 v2 : Value) (xs : List Int) (h1 : SE (encInt .i64) wq wq.heap.size v1 xs) (h2 : SE (encInt .i64) wq wq.heap.size v2 xs) => (show Calls Try.prog 11 #[v1, v2] wq fun e w' => e = .returned (.bool true) ∧ Below wq.heap.size wq w' from by
        have h := seInts_any wq v1 v2 xs xs h1 h2
        rwa [decide_eq_true (show xs = xs from rfl)] at h))
      clear hA hB hga hgb hza hzb hpx hpy hlg
      go_enter Try.func3, Try.ntmps3
      go_wp2_with (first
        | (go_at_call_of 7 (Value.slice A n cap); ((with_reducible refine HGA.out.mono ?_); rintro e w1 ⟨rfl, rfl⟩))
        | (go_at_call 7; ((with_reducible refine HGB.out.mono ?_); rintro e w1 ⟨rfl, rfl⟩))
        | (go_at_call 9; ((with_reducible refine HP.out.mono ?_); rintro e w1 ⟨vx, vy, rfl, h1, h2, h3⟩; have HX1 := Lib.hid h1.se; have HY1 := Lib.hid h2.se; have HB1 := Lib.hid h3; have HR1 := Lib.hid (HR.out w1 h3); clear h1 h2 h3))
        | (go_at_call 10; ((with_reducible refine HR1.out.mono ?_); rintro e w2 ⟨ux, uy, rfl, h1, h2, h3⟩; have HX2 := Lib.hid (HX1.out.lift h3); have HY2 := Lib.hid (HY1.out.lift h3); have HU2 := Lib.hid h1.se; have HV2 := Lib.hid h2.se; have HB2 := Lib.hid (HB1.out.trans (h3.mono HB1.out.size)); have HI2 := Lib.hid (HI.out w2 vx ux px HX2.out HU2.out); clear h1 h2 h3))
        | (go_at_call_of 11 vx; ((with_reducible refine HI2.out.mono ?_); rintro e w3 ⟨rfl, h1⟩; have HB3 := Lib.hid (HB2.out.trans (h1.mono HB2.out.size)); have HI3 := Lib.hid (HI.out w3 vy uy py (HY2.out.lift h1) (HV2.out.lift h1)); clear h1))
        | (go_at_call_of 11 vy; ((with_reducible refine HI3.out.mono ?_); rintro e w4 ⟨rfl, h1⟩; have HB4 := Lib.hid (HB3.out.trans (h1.mono HB3.out.size)); have HL4 := Lib.hid (HL.out w4 HB4.out); clear h1))
        | (go_at_call 12; ((with_reducible refine HL4.out.mono ?_); rintro e w5 ⟨rfl, h1⟩; have HB5 := Lib.hid (HB4.out.trans (h1.mono HB4.out.size)); have HL5 := Lib.hid (HRL.out w5 HB5.out); clear h1))
        | (go_at_call 13; ((with_reducible refine HL5.out.mono ?_); rintro e w6 ⟨rfl, h1⟩; have HB6 := Lib.hid (HB5.out.trans (h1.mono HB5.out.size)); clear h1))
        | (go_at_call 8; ((with_reducible refine (HAW.out _).mono ?_); rintro e w7 ⟨rfl, h1⟩; have HB7 := Lib.hid (HB6.out.trans (h1.mono HB6.out.size)); clear h1)))
      go_ret
      exact ⟨rfl, HB7.out⟩
end Go.Proofs.Ytnimmpidplfnnaa
