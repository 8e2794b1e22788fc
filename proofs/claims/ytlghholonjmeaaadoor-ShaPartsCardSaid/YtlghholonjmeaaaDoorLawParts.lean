/-
  The law on parts.
-/
import Derived.Test.YtlghholonjmeaaaDoorShaH
import Derived.Test.YtlghholonjmeaaaDoorLawNil
import Derived.Test.YtlghholonjmeaaaDoorHeld
namespace Go.Proofs.YtlghholonjmeaaaDoor
open Go.RowKit

/-- A slice of slices of bytes, below block B: each row as S8 has it. -/
structure SS (w : World) (B : Nat) (A : Option Addr) (len cap : Nat) (R : Nat → Option Addr × Nat × Nat × List Int) : Prop where
  le : len ≤ cap
  max : cap ≤ maxLen
  at_ : len = 0 ∨ ∃ pb po, A = some ⟨pb, po, none⟩ ∧ pb < B ∧ ∀ r, r < len → w.cell? ⟨pb, po + r, none⟩ = some (.slice (R r).1 (R r).2.1 (R r).2.2.1) ∧ S8 w B (R r).1 (R r).2.1 (R r).2.2.1 (R r).2.2.2

set_option maxRecDepth 100000 in
set_option maxHeartbeats 1000000 in
theorem shaParts_any (A : Option Addr) (len cap k : Nat) (R : Nat → Option Addr × Nat × Nat × List Int) (w : World) (_hk : k ≤ 255) (ht : Tables w) (hS : SS w w.heap.size A len cap R) :
    Calls Tryd.prog 4 #[.slice A len cap, .int .u8 (k : Int)] w fun e w' => e = .returned (.bool true) ∧ Below w.heap.size w w' := by
  have HT := Lib.hid ht; clear ht
  have HS := Lib.hid hS; clear hS
  have hfin : ∀ W, Below w.heap.size w W → Calls Tryd.prog 10 #[] W fun e w' => e = .returned (.bool true) ∧ Below w.heap.size w w' := fun W hW => (awake_any W (HT.out.below hW HT.out.g0 HT.out.g1)).mono fun e w' ⟨h1, h2⟩ => ⟨h1, hW.trans (h2.mono hW.size)⟩
  have HF := Lib.hid hfin; clear hfin
  by_cases hbig : 40 < len
  · have hi : (40 : Int) < (len : Int) := by omega
    go_enter Tryd.func4, Tryd.ntmps4
    go_wp2_with fail
    refine (HF.out _ (Below.refl _ _)).mono ?_
    rintro e w1 ⟨rfl, h1⟩
    have H1 := Lib.hid h1; clear h1
    go_wp2_with fail
    go_ret
    exact ⟨rfl, H1.out⟩
  · have hi : ¬ (40 : Int) < (len : Int) := by omega
    have hg0 := HT.out.g0
    have hg1 := HT.out.g1
    go_enter Tryd.func4, Tryd.ntmps4
    go_wp2_with fail
    refine (new_any w).mono ?_
    rintro e w1 ⟨rfl, h1, h2⟩
    have hlt1 := h1.lt
    have H1 := Lib.hid h1; clear h1
    have HB1 := Lib.hid h2; clear h2
    go_wp2_with fail
    go_loopw [6, 7] (fun tv ti wr => ∃ (i : Nat) (m : List Int), i ≤ len ∧ ti = .int .i64 (i : Int) ∧ m.length ≤ 300 * i ∧ Hid (Bytes m ∧ Own8 wr w1.heap.size tv m ∧ Holds wr w.heap.size m ∧ Below w.heap.size w wr ∧ w1.heap.size ≤ wr.heap.size))
      (fun _ ti _ => len - (intOf ti).toNat)
    case atStart => exact ⟨0, [], by omega, rfl, by simp, Lib.hid ⟨Bytes.nil, Own.nil _ _ _ _, H1.out, HB1.out, Nat.le_refl _⟩⟩
    case round =>
      obtain ⟨i, m, hil, rfl, hml, HM⟩ := hrel
      have HTR := Lib.hid (HT.out.below HM.out.2.2.2.1 hg0 hg1)
      by_cases hlt : i < len
      · have hii : (i : Int) < (len : Int) := by omega
        obtain ⟨pb, po, hA, hpb, hrow⟩ : ∃ pb po, A = some ⟨pb, po, none⟩ ∧ pb < w.heap.size ∧ ∀ r, r < len → w.cell? ⟨pb, po + r, none⟩ = some (.slice (R r).1 (R r).2.1 (R r).2.2.1) ∧ S8 w w.heap.size (R r).1 (R r).2.1 (R r).2.2.1 (R r).2.2.2 := by
          rcases HS.out.at_ with h | h
          · omega
          · exact h
        subst hA
        have hr := hrow i hlt
        clear hrow
        generalize R i = y at hr
        obtain ⟨Ai, li, ci, ys⟩ := y
        obtain ⟨hc, hS⟩ := hr
        simp only at hc hS
        have hcr : ∀ W, Below w.heap.size w W → W.cell? ⟨pb, po + i, none⟩ = some (.slice Ai li ci) := fun W hW => (hW.cell (p := ⟨pb, po + i, none⟩) hpb).trans hc
        have HCR := Lib.hid hcr; clear hcr hc
        have HSI := Lib.hid hS; clear hS
        have hc0 := HCR.out wr HM.out.2.2.2.1
        by_cases h300 : 300 < li
        · have h3i : (300 : Int) < (li : Int) := by omega
          go_wp2_with fail
          refine (HF.out _ HM.out.2.2.2.1).mono ?_
          rintro e w2 ⟨rfl, h1⟩
          have H2 := Lib.hid h1; clear h1
          go_wp2_with fail
          go_ret
          exact ⟨rfl, H2.out⟩
        · have h3i : ¬ (300 : Int) < (li : Int) := by omega
          have hyl : ys.length = li := HSI.out.hlen
          have HYL := Lib.hid hyl; clear hyl
          go_wp2_with fail
          refine (write_s8 w.heap.size w.heap.size Ai li ci m ys wr HM.out.2.2.1 HTR.out (HSI.out.below HM.out.2.2.2.1 (Nat.le_refl _)) (Nat.le_refl _) (by omega) (by omega) (by omega) HM.out.1).mono ?_
          rintro e w2 ⟨rfl, h1, h2⟩
          have hb2 : Below w.heap.size w w2 := HM.out.2.2.2.1.grown h2 HM.out.2.2.2.1.size (fun g hg => by cases hg; exact Nat.le_refl _)
          have HO2 := Lib.hid (HM.out.2.1.other h2 hlt1)
          have hsz2 : w1.heap.size ≤ w2.heap.size := Nat.le_trans HM.out.2.2.2.2 h2.size
          have HH2 := Lib.hid h1; clear h1 h2
          have HB2 := Lib.hid hb2; clear hb2
          have hc2 := HCR.out w2 HB2.out
          go_wp2_with (at_builtin; refine wpList_app_src Elem.u8 (encInt .u8) rfl (.tmp 33) (.tmp 37) rfl w1.heap.size _ m rfl HO2.out _ li ys rfl HYL.out (HSI.out.below HB2.out (Nat.le_refl _)).src ?_ ?_ ?_ ?_; omega; (unfold maxLen; omega); exact hsz2; intro v3 w3 h1 h2; have H3 := Lib.hid h1; clear h1; have HH3 := Lib.hid (HH2.out.below h2 hlt1); have HB3 := Lib.hid (HB2.out.trans (h2.mono HB1.out.size)); have hsz3 := Nat.le_trans hsz2 h2.size; clear h2)
          all_goals
            have hml3 : (m ++ ys).length ≤ 300 * (i + 1) := by rw [List.length_append, HYL.out]; omega
            have HBM := Lib.hid (HM.out.1.append HSI.out.bytes)
            have HT3 := Lib.hid (HT.out.below HB3.out hg0 hg1)
            have hend : ∀ W v, Own8 W w1.heap.size v (m ++ ys) → Holds W w.heap.size (m ++ ys) → Below w.heap.size w W → w1.heap.size ≤ W.heap.size → ∃ (i' : Nat) (m' : List Int), i' ≤ len ∧ Value.int .i64 ((i : Int) + 1) = .int .i64 (i' : Int) ∧ m'.length ≤ 300 * i' ∧ Hid (Bytes m' ∧ Own8 W w1.heap.size v m' ∧ Holds W w.heap.size m' ∧ Below w.heap.size w W ∧ w1.heap.size ≤ W.heap.size) :=
              fun W v h1 h2 h3 h4 => ⟨i + 1, m ++ ys, by omega, by go_num, hml3, Lib.hid ⟨HBM.out, h1, h2, h3, h4⟩⟩
            have HEND := Lib.hid hend; clear hend
            clear hc0 hc2
          · refine (msum_any w.heap.size (m ++ ys) w3 HH3.out HT3.out (by omega) HBM.out).mono ?_
            rintro e w4 ⟨rfl, h1⟩
            have HO4 := Lib.hid (H3.out.below h1 (Nat.le_refl _))
            have HH4 := Lib.hid (HH3.out.below h1 HH3.out.lt)
            have hsz4 := Nat.le_trans hsz3 h1.size
            have HB4 := Lib.hid (Below.of _ _ _ HB3.out h1); clear h1
            go_wp2_with fail
            refine (sum_own w1.heap.size v3 (m ++ ys) w4 (HT.out.below HB4.out hg0 hg1) HO4.out HBM.out (by omega)).mono ?_
            rintro e w5 ⟨rfl, h1⟩
            have HO5 := Lib.hid (HO4.out.below h1 (Nat.le_refl _))
            have HH5 := Lib.hid (HH4.out.below h1 HH4.out.lt)
            have hsz5 := Nat.le_trans hsz4 h1.size
            have HB5 := Lib.hid (Below.of _ _ _ HB4.out h1); clear h1
            go_wp2_with fail
            go_roundw
            case rel => exact HEND.out _ _ HO5.out HH5.out HB5.out hsz5
            case measure => simp [intOf]; omega
          · go_roundw
            case rel => exact HEND.out _ _ H3.out HH3.out HB3.out hsz3
            case measure => simp [intOf]; omega
      · have hii : ¬ (i : Int) < (len : Int) := by omega
        go_wp2_with fail
        refine (msum_any w.heap.size m wr HM.out.2.2.1 HTR.out (by omega) HM.out.1).mono ?_
        rintro e w4 ⟨rfl, h1⟩
        have HO4 := Lib.hid (HM.out.2.1.below h1 (Nat.le_refl _))
        have HH4 := Lib.hid (HM.out.2.2.1.below h1 HM.out.2.2.1.lt)
        have HB4 := Lib.hid (Below.of _ _ _ HM.out.2.2.2.1 h1); clear h1
        go_wp2_with fail
        refine (sum_own w1.heap.size _ m w4 (HT.out.below HB4.out hg0 hg1) HO4.out HM.out.1 (by omega)).mono ?_
        rintro e w5 ⟨rfl, h1⟩
        have HH5 := Lib.hid (HH4.out.below h1 HH4.out.lt)
        have HB5 := Lib.hid (Below.of _ _ _ HB4.out h1); clear h1
        go_wp2_with fail
        refine (msum_any w.heap.size m w5 HH5.out (HT.out.below HB5.out hg0 hg1) (by omega) HM.out.1).mono ?_
        rintro e w6 ⟨rfl, h1⟩
        have HB6 := Lib.hid (Below.of _ _ _ HB5.out h1); clear h1
        have h32 : (strOfNums (shaL m)).size = 32 := by rw [strOfNums_size, length_shaL]
        generalize strOfNums (shaL m) = S at h32
        have h32' : ((S.size : Int) == 32) = true := beq_iff_eq.2 (by omega)
        have H32 := Lib.hid h32; clear h32
        go_wp2_with fail
        refine (HF.out _ HB6.out).mono ?_
        rintro e w7 ⟨rfl, h1⟩
        have H7 := Lib.hid h1; clear h1
        go_wp2_with fail
        go_ret
        exact ⟨rfl, H7.out⟩
end Go.Proofs.YtlghholonjmeaaaDoor
