/-
  Layer 11: maps that may be; maps that are alike.
-/
import Derived.Test.YtnnnpjdlhdkeaaaMaA
namespace Go.Proofs.Ytnnnpjdlhdkeaaa
open Go.RowKit

/-- The climb's block. -/
def ClI (w : World) (b : Nat) (last nw : Int) : Prop := w.heap[b]? = some (.cells #[.int .i64 last, .int .i64 nw] 45)
theorem ClI.new (w : World) (last nw : Int) : ClI (w.alloc (.cells #[.int .i64 last, .int .i64 nw] 45)) w.heap.size last nw := (Go.MapKept.heap_alloc w _).1
theorem ClI.cells {w : World} {b : Nat} {last nw : Int} (h : ClI w b last nw) : w.cell? ⟨b, 0, none⟩ = some (.int .i64 last) ∧ w.cell? ⟨b, 1, none⟩ = some (.int .i64 nw) :=
  ⟨by rw [cell_of_row w b 0 _ _ _ h]; rfl, by rw [cell_of_row w b 1 _ _ _ h]; rfl⟩
theorem ClI.melt {w : World} {b : Nat} {last nw : Int} (h : ClI w b last nw) : w.frozen? ⟨b, 0, none⟩ = false := frozen_of_row w b 0 _ _ h
theorem ClI.lt {w : World} {b : Nat} {last nw : Int} (h : ClI w b last nw) : b < w.heap.size := (Array.getElem?_eq_some_iff.1 h).1
theorem ClI.put {w : World} {b : Nat} {last nw : Int} (h : ClI w b last nw) (x : Int) : ClI (w.setCell ⟨b, 0, none⟩ (.int .i64 x)) b x nw := by
  unfold ClI; rw [heap_setCell_same w b 0 _ _ _ h]; rfl
/-- One step of the climb. -/
def climbV (last nw x : Int) : Bool := if x = -1 then true else decide (last < x) && decide (x < nw)
def climbN (last x : Int) : Int := if x = -1 then last else x
theorem riseM_cons (last nw x : Int) (l : List Int) : riseM last nw (x :: l) = (climbV last nw x && riseM (climbN last x) nw l) := by
  unfold climbV climbN
  by_cases h : x = -1
  · rw [if_pos h, if_pos h, Bool.true_and]; show (if x = -1 then _ else _) = _; rw [if_pos h]
  · rw [if_neg h, if_neg h]; show (if x = -1 then _ else _) = _; rw [if_neg h, Bool.and_assoc]
set_option maxRecDepth 100000 in
set_option maxHeartbeats 1600000 in
theorem climb_any (w : World) (b : Nat) (last nw x : Int) (h : ClI w b last nw) :
    Calls Try.prog 29 #[.pointer (some ⟨b, 0, none⟩), .int .i64 x] w fun e w' => e = .returned (.bool (climbV last nw x)) ∧ ClI w' b (climbN last x) nw ∧ Below b w w' := by
  have HC := Lib.hid h
  clear h
  by_cases hx : x = -1
  · have HV := Lib.hid (show climbV last nw x = true from by unfold climbV; rw [if_pos hx])
    have HN := Lib.hid (show climbN last x = last from by unfold climbN; rw [if_pos hx])
    have hxb : (x == -1) = true := by rw [hx]; rfl
    clear hx
    go_enter Try.func29, Try.ntmps29
    go_wp2_with fail
    go_ret
    exact ⟨by rw [HV.out]; rfl, by rw [HN.out]; exact HC.out, Below.refl _ _⟩
  · have HN := Lib.hid (show climbN last x = x from by unfold climbN; rw [if_neg hx])
    have HV := Lib.hid (show climbV last nw x = (decide (last < x) && decide (x < nw)) from by unfold climbV; rw [if_neg hx])
    have hxb : (x == -1) = false := by rw [beq_eq_false_iff_ne]; exact hx
    obtain ⟨x0, x1⟩ := HC.out.cells
    have m0 := HC.out.melt
    have HD := Lib.hid (HC.out.put x)
    have HB := Lib.hid (show Below b w (w.setCell ⟨b, 0, none⟩ (.int .i64 x)) from (Below.refl b w).setCell (Nat.le_refl _) _)
    clear hx
    go_enter Try.func29, Try.ntmps29
    go_upto_region 5 with (fail)
    clear x0 x1 m0
    obtain ⟨w2, hw2⟩ : ∃ w2, w.setCell ⟨b, 0, none⟩ (.int .i64 x) = w2 := ⟨_, rfl⟩
    rw [hw2] at HD HB ⊢
    clear hw2
    obtain ⟨y0, y1⟩ := HD.out.cells
    by_cases h1 : last < x
    · by_cases h2 : x < nw
      · go_wp2_with fail
        go_ret
        exact ⟨by rw [HV.out, decide_eq_true h1, decide_eq_true h2]; rfl, by rw [HN.out]; exact HD.out, HB.out⟩
      · go_wp2_with fail
        go_ret
        exact ⟨by rw [HV.out, decide_eq_true h1, decide_eq_false (by omega)]; rfl, by rw [HN.out]; exact HD.out, HB.out⟩
    · go_wp2_with fail
      go_ret
      exact ⟨by rw [HV.out, decide_eq_false (by omega)]; rfl, by rw [HN.out]; exact HD.out, HB.out⟩
set_option maxRecDepth 100000 in
set_option maxHeartbeats 4000000 in
theorem all_map (w : World) (b : Nat) (A : Option Addr) (n cap : Nat) (xs : List Int) (last nw : Int) (h : IR w b A n cap xs) (hc : ClI w b last nw) :
    Calls Try.prog 28 #[.slice A n cap, .func (.func 29) #[.pointer (some ⟨b, 0, none⟩)] #[]] w fun e w' => e = .returned (.bool (riseM last nw xs)) ∧ Below b w w' := by
  have HL := Lib.hid h.len.1; have HX := Lib.hid h; have HC := Lib.hid hc
  have hmx : n ≤ 9223372036854775807 := by have := h.len.2; unfold maxLen at this; omega
  clear h hc
  go_enter Try.func28, Try.ntmps28
  go_upto_region 2 with (fail)
  go_loopw [9] (fun iv wr => ∃ (i : Nat) (l : Int), i ≤ n ∧ iv = .int .i64 (i : Int) ∧ Hid (ClI wr b l nw) ∧ Hid (riseM l nw (xs.drop i) = riseM last nw xs) ∧ Hid (Below b w wr))
    (fun iv _ => n - (intOf iv).toNat)
  case atStart => exact ⟨0, _, Nat.zero_le _, rfl, HC, Lib.hid (by rw [List.drop_zero]), Lib.hid (Below.refl _ _)⟩
  case round =>
    obtain ⟨i, l, hi, rfl, HCL, HRI, HR⟩ := hrel
    by_cases hlt : i < n
    · have hii : (i : Int) < (n : Int) := by omega
      have hi0 : (0 : Int) ≤ (i : Int) := by omega
      obtain ⟨pb, po, rfl, hpb, e0⟩ := ir_at HX.out hlt
      obtain ⟨x, hx⟩ : ∃ x, xs.getD i 0 = x := ⟨_, rfl⟩
      rw [hx] at e0
      have x0 : wr.cell? ⟨pb, po + i, none⟩ = some (.int .i64 x) := (HR.out.cell (p := ⟨pb, po + i, none⟩) hpb).trans e0
      have hls : i < xs.length := by rw [HL.out]; exact hlt
      have HS := Lib.hid (show (climbV l nw x && riseM (climbN l x) nw (xs.drop (i + 1))) = riseM last nw xs from by
        rw [← HRI.out, List.drop_eq_getElem_cons hls, riseM_cons]
        have : xs[i] = x := by rw [← hx, List.getD_eq_getElem?_getD, List.getElem?_eq_getElem hls]; rfl
        rw [this])
      have HG := Lib.hid (climb_any wr b l nw x HCL.out)
      clear e0 hx
      cases hv : climbV l nw x with
      | true =>
        rw [hv] at HG HS
        clear hv
        go_wp2_with (go_at_call 29; ((with_reducible refine HG.out.mono ?_); rintro e w2 ⟨rfl, h1, h2⟩; have H1 := Lib.hid h1; have H2 := Lib.hid (HR.out.trans h2); clear h1 h2))
        go_roundw
        case rel => exact ⟨i + 1, _, by omega, by go_num, H1, Lib.hid (by have := HS.out; rwa [Bool.true_and] at this), H2⟩
        case measure => simp [intOf]; omega
      | false =>
        rw [hv] at HG HS
        clear hv
        go_wp2_with (go_at_call 29; ((with_reducible refine HG.out.mono ?_); rintro e w2 ⟨rfl, h1, h2⟩; have H1 := Lib.hid h1; have H2 := Lib.hid (HR.out.trans h2); clear h1 h2))
        go_ret
        exact ⟨by rw [← HS.out]; rfl, H2.out⟩
    · have hii : ¬ (i : Int) < (n : Int) := by omega
      have HE := Lib.hid (show riseM last nw xs = true from by rw [← HRI.out, List.drop_of_length_le (by rw [HL.out]; omega)]; rfl)
      go_wp2_with fail
      go_ret
      exact ⟨by rw [HE.out]; rfl, HR.out⟩
set_option maxRecDepth 100000 in
set_option maxHeartbeats 4000000 in
theorem mayMap_any (w : World) (A : Option Addr) (n cap : Nat) (xs : List Int) (nw : Int) (h : IR w w.heap.size A n cap xs) :
    Calls Try.prog 10 #[.agg #[.slice A n cap, .int .i64 nw]] w fun e w' => e = .returned (.bool (mayM xs nw)) ∧ Below w.heap.size w w' := by
  have HB := Lib.hid (below_pr 24 w (.slice A n cap) nw)
  have HP := Lib.hid (PrAt.new 24 w (.slice A n cap) nw)
  have HX := Lib.hid h
  have HL := Lib.hid h.len.1
  clear h
  go_enter Try.func10, Try.ntmps10
  go_upto_region 1 with (fail)
  obtain ⟨w1, hw1⟩ : ∃ w1, w.alloc (.cells #[.slice A n cap, .int .i64 nw] 24) = w1 := ⟨_, rfl⟩
  rw [hw1] at HB HP ⊢
  clear hw1
  obtain ⟨x0, x1⟩ := HP.out.cells
  go_upto_region 2 with (fail)
  clear x0 x1
  have HC := Lib.hid (ClI.new w1 (-1) nw)
  have HB1 := Lib.hid (show Below w1.heap.size w1 (w1.alloc (.cells #[.int .i64 (-1), .int .i64 nw] 45)) from (Below.refl _ _).alloc (Nat.le_refl _) _)
  obtain ⟨w2, hw2⟩ : ∃ w2, w1.alloc (.cells #[.int .i64 (-1), .int .i64 nw] 45) = w2 := ⟨_, rfl⟩
  rw [hw2] at HC HB1 ⊢
  clear hw2
  have HP2 := Lib.hid (HP.out.over HB1.out)
  have HB2 := Lib.hid (HB.out.trans (HB1.out.mono HB.out.size))
  have HA := Lib.hid (all_map w2 w1.heap.size A n cap xs (-1) nw ((HX.out.below HB2.out (Nat.le_refl _)).mono HB.out.size) HC.out)
  obtain ⟨x0, x1⟩ := HP2.out.cells
  have HLN := Lib.hid (HB.out.size)
  by_cases h0 : 0 ≤ nw
  · by_cases h1 : nw ≤ 1048576
    · by_cases h2 : (n : Int) ≤ 1048576
      · have HM := Lib.hid (show mayM xs nw = riseM (-1) nw xs from by unfold mayM; rw [decide_eq_true h0, decide_eq_true h1, decide_eq_true (show xs.length ≤ 1048576 from by rw [HL.out]; omega)]; rfl)
        go_wp2_with (go_at_call 28; ((with_reducible refine HA.out.mono ?_); rintro e w3 ⟨rfl, h3⟩; have H3 := Lib.hid (HB2.out.trans (h3.mono HLN.out)); clear h3))
        go_ret
        exact ⟨by rw [HM.out]; rfl, H3.out⟩
      · have HM := Lib.hid (show mayM xs nw = false from by unfold mayM; rw [decide_eq_false (show ¬ xs.length ≤ 1048576 from by rw [HL.out]; omega)]; simp)
        go_wp2_with fail
        go_ret
        exact ⟨by rw [HM.out]; rfl, HB2.out⟩
    · have HM := Lib.hid (show mayM xs nw = false from by unfold mayM; rw [decide_eq_false h1]; simp)
      go_wp2_with fail
      go_ret
      exact ⟨by rw [HM.out]; rfl, HB2.out⟩
  · have HM := Lib.hid (show mayM xs nw = false from by unfold mayM; rw [decide_eq_false h0]; rfl)
    go_wp2_with fail
    go_ret
    exact ⟨by rw [HM.out]; rfl, HB2.out⟩
end Go.Proofs.Ytnnnpjdlhdkeaaa
