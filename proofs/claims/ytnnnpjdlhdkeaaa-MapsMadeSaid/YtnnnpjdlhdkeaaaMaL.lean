/-
  Layer 11, the reference: maps that may be; maps that are alike.
-/
import Derived.Test.YtnnnpjdlhdkeaaaMaB
import Derived.Test.YtnnnpjdlhdkeaaaMaF
import Derived.Test.YtnnnpjdlhdkeaaaMaI
import Derived.BigQuiet
namespace Go.Proofs.Ytnnnpjdlhdkeaaa
open Go.RowKit

theorem drew_bel {w w' : World} {B : Nat} (h : Below B w w') (n : Nat) : Below B w (w'.drewN n) := ⟨h.os, h.tape, h.output, h.size, h.block⟩
theorem take_one {xs ys : List Int} {k : Nat} {x : Int} (h : xs.take k = ys.take k) (hx : xs[k]? = some x) (hy : ys[k]? = some x) : xs.take (k + 1) = ys.take (k + 1) := by
  rw [List.take_add_one, List.take_add_one, h, hx, hy]
set_option maxRecDepth 100000 in
set_option maxHeartbeats 4000000 in
theorem rints_any (w : World) (A : Option Addr) (n cap : Nat) (xs : List Int) (B : Option Addr) (m c : Nat) (ys : List Int) (h1 : IR w w.heap.size A n cap xs) (h2 : IR w w.heap.size B m c ys) :
    Calls Try.prog 30 #[.slice A n cap, .slice B m c] w fun e w' => e = .returned (.bool (decide (xs = ys))) ∧ Below w.heap.size w w' := by
  have HX := Lib.hid h1; have HY := Lib.hid h2; have HLX := Lib.hid h1.len.1; have HLY := Lib.hid h2.len.1
  have hmx : n ≤ 9223372036854775807 := by have := h1.len.2; unfold maxLen at this; omega
  clear h1 h2
  by_cases hl : n = m
  · subst hl
    go_enter Try.func30, Try.ntmps30
    go_upto_region 4 with (fail)
    go_loopw [5] (fun iv wr => ∃ i : Nat, i ≤ n ∧ iv = .int .i64 (i : Int) ∧ Hid (xs.take i = ys.take i) ∧ Hid (Below w.heap.size w wr))
      (fun iv _ => n - (intOf iv).toNat)
    case atStart => exact ⟨0, Nat.zero_le _, rfl, Lib.hid rfl, Lib.hid (Below.refl _ _)⟩
    case round =>
      obtain ⟨i, hi, rfl, HT, HR⟩ := hrel
      by_cases hlt : i < n
      · have hii : (i : Int) < (n : Int) := by omega
        have hi0 : (0 : Int) ≤ (i : Int) := by omega
        obtain ⟨pb, po, rfl, hpb, e0⟩ := ir_at HX.out hlt
        obtain ⟨qb, qo, rfl, hqb, f0⟩ := ir_at HY.out hlt
        have HGX := Lib.hid (getD_some xs i (by rw [HLX.out]; exact hlt))
        have HGY := Lib.hid (getD_some ys i (by rw [HLY.out]; exact hlt))
        obtain ⟨x, hx⟩ : ∃ x, xs.getD i 0 = x := ⟨_, rfl⟩
        obtain ⟨y, hy⟩ : ∃ y, ys.getD i 0 = y := ⟨_, rfl⟩
        rw [hx] at e0 HGX
        rw [hy] at f0 HGY
        have x0 : wr.cell? ⟨pb, po + i, none⟩ = some (.int .i64 x) := (HR.out.cell (p := ⟨pb, po + i, none⟩) hpb).trans e0
        have y0 : wr.cell? ⟨qb, qo + i, none⟩ = some (.int .i64 y) := (HR.out.cell (p := ⟨qb, qo + i, none⟩) hqb).trans f0
        clear e0 f0 hx hy
        by_cases hxy : x = y
        · have ex : (x != y) = false := by rw [hxy]; simp
          have HT2 := Lib.hid (take_one HT.out HGX.out (by rw [hxy]; exact HGY.out))
          clear hxy
          go_upto_region 6 with (fail)
          go_quiet (fail)
          go_wp2_with fail
          go_roundw
          case rel => exact ⟨i + 1, by omega, by go_num, HT2, Lib.hid (drew_bel HR.out _)⟩
          case measure => simp [intOf]; omega
        · have ex : (x != y) = true := by rw [bne_iff_ne]; exact hxy
          have HF := Lib.hid (show ¬ xs = ys from fun e => hxy (by have h1 := HGX.out; rw [e, HGY.out] at h1; exact (Option.some.inj h1).symm))
          clear hxy
          go_upto_region 6 with (fail)
          go_quiet (fail)
          go_wp2_with fail
          go_ret
          exact ⟨by rw [decide_eq_false HF.out]; rfl, drew_bel HR.out _⟩
      · have hii : ¬ (i : Int) < (n : Int) := by omega
        have HE := Lib.hid (show xs = ys from by
          have h1 := HT.out
          rw [List.take_of_length_le (by rw [HLX.out]; omega), List.take_of_length_le (by rw [HLY.out]; omega)] at h1
          exact h1)
        go_wp2_with fail
        go_ret
        exact ⟨by rw [decide_eq_true HE.out]; rfl, HR.out⟩
  · have hne : ((n : Int) != (m : Int)) = true := by rw [bne_iff_ne]; omega
    have HF := Lib.hid (show ¬ xs = ys from fun e => hl (by rw [← HLX.out, ← HLY.out, e]))
    go_enter Try.func30, Try.ntmps30
    go_wp2_with fail
    go_ret
    exact ⟨by rw [decide_eq_false HF.out]; rfl, Below.refl _ _⟩
set_option maxRecDepth 100000 in
set_option maxHeartbeats 4000000 in
theorem rsameMap_any (w : World) (A : Option Addr) (n cap : Nat) (xs : List Int) (na : Int) (B : Option Addr) (m c : Nat) (ys : List Int) (nb : Int) (h1 : IR w w.heap.size A n cap xs) (h2 : IR w w.heap.size B m c ys) :
    Calls Try.prog 12 #[.agg #[.slice A n cap, .int .i64 na], .agg #[.slice B m c, .int .i64 nb]] w fun e w' => e = .returned (.bool (decide (xs = ys ∧ na = nb))) ∧ Below w.heap.size w w' := by
  obtain ⟨w2, hw2, hb, hp1, hp2, hsz⟩ := two_pr 24 w (.slice A n cap) (.slice B m c) na nb
  have HB := Lib.hid hb
  have HI := Lib.hid (rints_any w2 A n cap xs B m c ys (h1.lift hb) (h2.lift hb))
  clear h1 h2 hb hsz
  go_enter Try.func12, Try.ntmps12
  go_upto_region 1 with (fail)
  clear hw2
  obtain ⟨x0, x1⟩ := hp1.cells
  obtain ⟨y0, y1⟩ := hp2.cells
  clear hp1 hp2
  by_cases hn : na = nb
  · have hnb : (na == nb) = true := by rw [hn]; exact beq_self_eq_true nb
    have HN := Lib.hid hn
    clear hn
    go_wp2_with (go_at_call 30; ((with_reducible refine HI.out.mono ?_); rintro e w3 ⟨rfl, h3⟩; have H3 := Lib.hid (HB.out.trans (h3.mono HB.out.size)); clear h3))
    go_ret
    refine ⟨?_, H3.out⟩
    rw [show decide (xs = ys ∧ na = nb) = decide (xs = ys) from decide_eq_decide.2 ⟨fun h => h.1, fun h => ⟨h, HN.out⟩⟩]; rfl
  · have hnb : (na == nb) = false := by rw [beq_eq_false_iff_ne]; exact hn
    have HN := Lib.hid hn
    clear hn
    go_wp2_with fail
    go_ret
    exact ⟨by rw [decide_eq_false (fun h => HN.out h.2)]; rfl, HB.out⟩
set_option maxRecDepth 100000 in
set_option maxHeartbeats 8000000 in
theorem rmayMap_any (w : World) (A : Option Addr) (n cap : Nat) (xs : List Int) (nw : Int) (h : IR w w.heap.size A n cap xs) :
    Calls Try.prog 11 #[.agg #[.slice A n cap, .int .i64 nw]] w fun e w' => e = .returned (.bool (mayM xs nw)) ∧ Below w.heap.size w w' := by
  have HB := Lib.hid (below_pr 24 w (.slice A n cap) nw)
  have HP := Lib.hid (PrAt.new 24 w (.slice A n cap) nw)
  have HX := Lib.hid h
  have HL := Lib.hid h.len.1
  clear h
  go_enter Try.func11, Try.ntmps11
  go_upto_region 1 with (fail)
  obtain ⟨w1, hw1⟩ : ∃ w1, w.alloc (.cells #[.slice A n cap, .int .i64 nw] 24) = w1 := ⟨_, rfl⟩
  rw [hw1] at HB HP ⊢
  clear hw1
  have HX1 := Lib.hid (HX.out.below HB.out (Nat.le_refl _))
  obtain ⟨x0, x1⟩ := HP.out.cells
  by_cases h0 : nw < 0
  · have HM := Lib.hid (show mayM xs nw = false from by unfold mayM; rw [decide_eq_false (show ¬ 0 ≤ nw by omega)]; rfl)
    go_wp2_with fail
    go_ret
    exact ⟨by rw [HM.out]; rfl, HB.out⟩
  · by_cases h1 : 1048576 < nw
    · have HM := Lib.hid (show mayM xs nw = false from by unfold mayM; rw [decide_eq_false (show ¬ nw ≤ 1048576 by omega)]; simp)
      go_wp2_with fail
      go_ret
      exact ⟨by rw [HM.out]; rfl, HB.out⟩
    · by_cases h2 : (1048576 : Int) < (n : Int)
      · have HM := Lib.hid (show mayM xs nw = false from by unfold mayM; rw [decide_eq_false (show ¬ xs.length ≤ 1048576 from by rw [HL.out]; omega)]; simp)
        go_wp2_with fail
        go_ret
        exact ⟨by rw [HM.out]; rfl, HB.out⟩
      · have HM := Lib.hid (show mayM xs nw = riseM (-1) nw xs from by unfold mayM; rw [decide_eq_true (show 0 ≤ nw by omega), decide_eq_true (show nw ≤ 1048576 by omega), decide_eq_true (show xs.length ≤ 1048576 from by rw [HL.out]; omega)]; rfl)
        clear x0 x1
        have HKP := Lib.hid (fun (wq : World) (hb : Below w1.heap.size w1 wq) => (HP.out.over hb).cells)
        have hlt1 : w.heap.size ≤ w1.heap.size := HB.out.size
        obtain ⟨x0, x1⟩ := HP.out.cells
        go_upto_region 5 with (fail)
        clear x0 x1
        go_loopw [3, 4] (fun lv iv wr => ∃ (i : Nat) (l : Int), i ≤ n ∧ lv = .int .i64 l ∧ iv = .int .i64 (i : Int) ∧ Hid (riseM l nw (xs.drop i) = riseM (-1) nw xs) ∧ Hid (Below w1.heap.size w1 wr))
          (fun _ iv _ => n - (intOf iv).toNat)
        case atStart => exact ⟨0, _, Nat.zero_le _, rfl, rfl, Lib.hid (by rw [List.drop_zero]), Lib.hid (Below.refl _ _)⟩
        case round =>
          obtain ⟨i, l, hi, rfl, rfl, HRI, HR⟩ := hrel
          obtain ⟨x0, x1⟩ := HKP.out _ HR.out
          by_cases hlt : i < n
          · have hii : (i : Int) < (n : Int) := by omega
            have hi0 : (0 : Int) ≤ (i : Int) := by omega
            obtain ⟨pb, po, rfl, hpb, e0⟩ := ir_at HX1.out hlt
            obtain ⟨x, hx⟩ : ∃ x, xs.getD i 0 = x := ⟨_, rfl⟩
            rw [hx] at e0
            have y0 : wr.cell? ⟨pb, po + i, none⟩ = some (.int .i64 x) := (HR.out.cell (p := ⟨pb, po + i, none⟩) (by show pb < w1.heap.size; omega)).trans e0
            have hls : i < xs.length := by rw [HL.out]; exact hlt
            have HS := Lib.hid (show (climbV l nw x && riseM (climbN l x) nw (xs.drop (i + 1))) = riseM (-1) nw xs from by
              rw [← HRI.out, List.drop_eq_getElem_cons hls, riseM_cons]
              have : xs[i] = x := by rw [← hx, List.getD_eq_getElem?_getD, List.getElem?_eq_getElem hls]; rfl
              rw [this])
            clear e0 hx hpb
            by_cases hg : x = -1
            · have HS2 := Lib.hid (show riseM l nw (xs.drop (i + 1)) = riseM (-1) nw xs from by
                have := HS.out
                unfold climbV climbN at this
                rwa [if_pos hg, if_pos hg, Bool.true_and] at this)
              have hxb : (x == -1) = true := by rw [hg]; rfl
              clear hg
              go_wp2_with fail
              go_roundw
              case rel => exact ⟨i + 1, l, by omega, rfl, by go_num, HS2, HR⟩
              case measure => simp [intOf]; omega
            · have hxb : (x == -1) = false := by rw [beq_eq_false_iff_ne]; exact hg
              have HG := Lib.hid hg
              clear hg
              by_cases hlo : x ≤ l
              · have hd : decide (x ≤ l) = true := decide_eq_true hlo
                have HF := Lib.hid (show riseM (-1) nw xs = false from by
                  rw [← HS.out]; unfold climbV; rw [if_neg HG.out, decide_eq_false (show ¬ l < x by omega)]; rfl)
                go_upto_region 8 with (fail)
                go_quiet (fail)
                go_wp2_with fail
                go_ret
                exact ⟨by rw [HM.out, HF.out]; rfl, HB.out.trans ((drew_bel HR.out _).mono HB.out.size)⟩
              · have hd : decide (x ≤ l) = false := decide_eq_false hlo
                by_cases hhi : nw ≤ x
                · have hd2 : decide (nw ≤ x) = true := decide_eq_true hhi
                  have HF := Lib.hid (show riseM (-1) nw xs = false from by
                    rw [← HS.out]; unfold climbV; rw [if_neg HG.out, decide_eq_false (show ¬ x < nw by omega), Bool.and_false]; rfl)
                  go_upto_region 8 with (fail)
                  go_quiet (fail)
                  go_wp2_with fail
                  go_ret
                  exact ⟨by rw [HM.out, HF.out]; rfl, HB.out.trans ((drew_bel HR.out _).mono HB.out.size)⟩
                · have hd2 : decide (nw ≤ x) = false := decide_eq_false hhi
                  have HS2 := Lib.hid (show riseM x nw (xs.drop (i + 1)) = riseM (-1) nw xs from by
                    have := HS.out
                    unfold climbV climbN at this
                    rwa [if_neg HG.out, if_neg HG.out, decide_eq_true (show l < x by omega), decide_eq_true (show x < nw by omega), Bool.true_and, Bool.true_and] at this)
                  go_upto_region 8 with (fail)
                  go_quiet (fail)
                  go_wp2_with fail
                  go_roundw
                  case rel => exact ⟨i + 1, x, by omega, rfl, by go_num, HS2, Lib.hid (drew_bel HR.out _)⟩
                  case measure => simp [intOf]; omega
          · have hii : ¬ (i : Int) < (n : Int) := by omega
            have HE := Lib.hid (show riseM (-1) nw xs = true from by rw [← HRI.out, List.drop_of_length_le (by rw [HL.out]; omega)]; rfl)
            go_wp2_with fail
            go_ret
            exact ⟨by rw [HM.out, HE.out]; rfl, HB.out.trans (HR.out.mono HB.out.size)⟩
end Go.Proofs.Ytnnnpjdlhdkeaaa
