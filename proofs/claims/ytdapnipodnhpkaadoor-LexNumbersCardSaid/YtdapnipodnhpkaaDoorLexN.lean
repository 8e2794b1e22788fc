/-
  'chequerlaw4.LexNumbers', walked.
-/
import Derived.Test.YtdapnipodnhpkaaDoorLexK
import Derived.Test.YtdapnipodnhpkaaDoorAddrD
import Derived.Test.YtdapnipodnhpkaaDoorHeld
namespace Go.Proofs.YtdapnipodnhpkaaDoor
open Go.RowKit

theorem digL_short : ∀ (m u : Nat), u < 10 ^ (m + 1) → (digL u).length ≤ m + 1
  | 0, u, h => by rw [digL_small u (by simpa using h)]; simp
  | m + 1, u, h => by
    by_cases h10 : u < 10
    · rw [digL_small u h10]; simp
    · rw [digL_more u (by omega), List.length_append]
      have := digL_short m (u / 10) (by rw [Nat.pow_succ] at h; omega)
      simp; omega
theorem size_dig (u : Nat) (h : u ≤ 9223372036854775807) : (strOfNums (digL u)).size ≤ 19 := by
  rw [strOfNums_size]; exact digL_short 18 u (by omega)
theorem sb_dig (u : Nat) : sb (strOfNums (digL u)) = digL u := sb_str _ (fun x hx => by have := num_bd (isNum_digL u x hx); omega)
theorem sb_48 : sb ⟨#[48]⟩ = [48] := by decide
theorem sb_big : sb ⟨#[57, 50, 50, 51, 51, 55, 50, 48, 51, 54, 56, 53, 52, 55, 55, 53, 56, 48, 56]⟩ = [57, 50, 50, 51, 51, 55, 50, 48, 51, 54, 56, 53, 52, 55, 55, 53, 56, 48, 56] := by decide
theorem size_ref (s : ByteArray) (c r : Int) (ac ar : Bool) (hs : s.size ≤ 1) (hm : mayL (sb s) c r = true) : (strOfNums (textL (sb s) c r ac ar)).size ≤ 300 := by
  rw [strOfNums_size]
  obtain ⟨c0, c1, r0, r1⟩ := mayL_nums hm
  rw [textL_eq _ _ _ _ _ hm]
  unfold tailL
  have h1 : (colL c).length ≤ 2 := by
    unfold colL; split
    · simp
    · split <;> simp
  have h2 : ∀ b, (dol b).length ≤ 1 := by intro b; unfold dol; cases b <;> simp
  have h3 := h2 ac
  have h4 := h2 ar
  have h5 := digL_short 18 (r + 1).toNat (by omega)
  have h6 := length_sb s
  split <;> simp only [List.length_append, List.length_nil, List.length_cons] <;> omega
/-- The name that the sheet's number tells. -/
def shN (v : Int) : ByteArray := if v % 2 = 0 then ⟨#[]⟩ else ⟨#[83]⟩
theorem may_num (v r : Int) (h0 : 0 ≤ v) (h1 : v ≤ 255) (h2 : 0 ≤ r) (h3 : r < 999) : mayL (sb (shN v)) v r = true := by
  unfold shN mayL
  split
  · rw [show decide (sb ⟨#[]⟩ = []) = true from by decide, Bool.true_or, Bool.true_and, decide_eq_true_iff]; omega
  · rw [show nameL (sb ⟨#[83]⟩) = true from by decide +kernel, Bool.or_true, Bool.true_and, decide_eq_true_iff]; omega
theorem num_any (x : Int) (w : World) : Calls Tryd.prog 10 #[.int .i64 x] w fun e w' => e = .returned (.int .i64 x) ∧ Below w.heap.size w w' := by
  go_enter Tryd.func10, Tryd.ntmps10
  go_wp2
  go_ret
  exact ⟨rfl, Below.refl _ _⟩
theorem shN_size (v : Int) : (shN v).size ≤ 1 := by unfold shN; split <;> decide

set_option maxRecDepth 100000 in
set_option maxHeartbeats 2000000 in
theorem lexNumbers_any (n sv rv : Int) (hn0 : 0 ≤ n) (hn1 : n ≤ 18446744073709551615) (hs0 : 0 ≤ sv) (hs1 : sv ≤ 255) (hr0 : 0 ≤ rv) (hr1 : rv ≤ 65535) (w : World) (hv : Vars w) :
    Calls Tryd.prog 6 #[.int .u64 n, .int .u8 sv, .int .u16 rv] w fun e w' => e = .returned (.bool true) ∧ Below w.heap.size w w' := by
  have HV := Lib.hid hv; clear hv
  obtain ⟨K, hK⟩ : ∃ K : Nat, n / 2 = (K : Int) := ⟨(n / 2).toNat, by omega⟩
  have hK1 : K ≤ 9223372036854775807 := by omega
  have hD := size_dig K hK1
  obtain ⟨D, hDe⟩ : ∃ D, strOfNums (digL K) = D := ⟨_, rfl⟩
  rw [hDe] at hD
  have hsbD : sb D = digL K := by rw [← hDe, sb_dig]
  have HDG := Lib.hid (fun w => by have := refDigits_nat K hK1 w; rw [hDe] at this; exact this)
  have HL1 := Lib.hid (fun w hv => lex_is D w hv (by omega) _ (by rw [hsbD]; exact lex_num K hK1) (by simp))
  have hz2 : (⟨#[48]⟩ ++ D : ByteArray).size ≤ 300 := by rw [ByteArray.size_append]; show 1 + D.size ≤ 300; omega
  have hz2' : (⟨#[48]⟩ : ByteArray).size + D.size ≤ 300 := by show 1 + D.size ≤ 300; omega
  have HL2 := Lib.hid (fun w hv => lex_isnt (⟨#[48]⟩ ++ D) w hv hz2 (by rw [sb_append, sb_48, hsbD]; exact lex_nought K))
  have HL3 := Lib.hid (fun w hv => lex_isnt ⟨#[57, 50, 50, 51, 51, 55, 50, 48, 51, 54, 56, 53, 52, 55, 55, 53, 56, 48, 56]⟩ w hv (by decide) (by rw [sb_big]; exact lex_great))
  have hm := may_num sv (rv % 999) hs0 hs1 (by omega) (by omega)
  have hzr := shN_size sv
  obtain ⟨sh, hsh⟩ : ∃ sh, shN sv = sh := ⟨_, rfl⟩
  rw [hsh] at hm hzr
  have hzt := size_ref sh sv (rv % 999) (decide (1 < sv % 4)) false hzr hm
  have hbt := bytes_textL sh sv (rv % 999) (decide (1 < sv % 4)) false
  have hlr := lex_ref sh sv (rv % 999) (decide (1 < sv % 4)) false hm
  rw [← sb_str _ hbt] at hlr
  obtain ⟨T, hTe⟩ : ∃ T, strOfNums (textL (sb sh) sv (rv % 999) (decide (1 < sv % 4)) false) = T := ⟨_, rfl⟩
  have HRT := Lib.hid (fun w => by have := refText_any sh sv (rv % 999) (decide (1 < sv % 4)) false w (by omega); rw [hTe] at this; exact this)
  rw [hTe] at hlr hzt
  have HL4 := Lib.hid (fun w hv => lex_is T w hv hzt _ hlr (by simp))
  have HSH := Lib.hid hsh
  clear hlr hbt hm hsbD hDe hTe hsh
  go_enter Tryd.func6, Tryd.ntmps6
  have HB := Lib.hid (Below.refl w.heap.size w)
  go_upto_region 5 with (first
    | (go_at_call 11; ((with_reducible refine (HDG.out _).mono ?_); rintro e w1 ⟨rfl, hb⟩; have HB := Lib.hid (HB.out.trans (hb.mono HB.out.size)); (first | (have HO1 := Lib.hid (Own.below HO1.out hb (Nat.le_refl _))) | skip); clear hb))
    | (go_at_call 8; ((with_reducible refine (HL1.out _ (HV.out.below HB.out)).mono ?_); rintro e w1 ⟨hb, g1, cap1, rfl, hg0, hg1, ho⟩; simp only [List.length_cons, List.length_nil, Nat.reduceAdd] at ho ⊢; have HO1 := Lib.hid ho; have HB := Lib.hid (HB.out.trans (hb.mono HB.out.size)); clear hb ho))
    | (go_at_call 8; ((with_reducible refine (HL2.out _ (HV.out.below HB.out)).mono ?_); rintro e w1 ⟨hb, rfl⟩; have HB := Lib.hid (HB.out.trans (hb.mono HB.out.size)); have HO1 := Lib.hid (Own.below HO1.out hb (Nat.le_refl _)); clear hb))
    | (go_at_call 8; ((with_reducible refine (HL3.out _ (HV.out.below HB.out)).mono ?_); rintro e w1 ⟨hb, rfl⟩; have HB := Lib.hid (HB.out.trans (hb.mono HB.out.size)); have HO1 := Lib.hid (Own.below HO1.out hb (Nat.le_refl _)); clear hb)))
  have hsh2 : (sv % 2 = 0 ∧ sh = ⟨#[]⟩) ∨ (sv % 2 = 1 ∧ sh = ⟨#[83]⟩) := by
    have h1 := HSH.out
    unfold shN at h1
    by_cases h : sv % 2 = 0
    · rw [if_pos h] at h1; exact .inl ⟨h, h1.symm⟩
    · rw [if_neg h] at h1; exact .inr ⟨by omega, h1.symm⟩
  clear HDG HL1 HL2 HL3 HSH hz2 hz2' hD hn0 hn1
  rcases hsh2 with ⟨hpar, rfl⟩ | ⟨hpar, rfl⟩
  · go_upto_region 6 with (fail)
    have hsz : (w1.alloc (.cells #[.string ⟨#[]⟩, .string ⟨#[83]⟩] 9)).heap.size = w1.heap.size + 1 := by simp
    have hRR := RefAt.new (w1.alloc (.cells #[.string ⟨#[]⟩, .string ⟨#[83]⟩] 9)) ⟨#[]⟩ sv (rv % 999) (decide (1 < sv % 4)) false
    have hb2 : Below w1.heap.size w1 ((w1.alloc (.cells #[.string ⟨#[]⟩, .string ⟨#[83]⟩] 9)).alloc (.cells #[.string ⟨#[]⟩, .int .i64 sv, .int .i64 (rv % 999), .bool (decide (1 < sv % 4)), .bool false] 32)) := ((Below.refl _ _).alloc (Nat.le_refl _) _).alloc (by rw [hsz]; omega) _
    rw [hsz] at hRR
    have HO1 := Lib.hid (Own.below HO1.out hb2 (Nat.le_refl _))
    have HB := Lib.hid (HB.out.trans (hb2.mono HB.out.size))
    clear hb2 hsz
    generalize (w1.alloc (.cells #[.string ⟨#[]⟩, .string ⟨#[83]⟩] 9)).alloc (.cells #[.string ⟨#[]⟩, .int .i64 sv, .int .i64 (rv % 999), .bool (decide (1 < sv % 4)), .bool false] 32) = w2 at hRR HO1 HB ⊢
    obtain ⟨y0, y1, y2, y3, y4⟩ := hRR.facts
    have HRR := Lib.hid hRR; clear hRR
    generalize w1.heap.size + 1 = rb at HRR y0 y1 y2 y3 y4 ⊢
    go_upto_region 7 with (first
      | (go_at_call 12; ((with_reducible refine (HRT.out _).mono ?_); rintro e w3 ⟨rfl, hb⟩; have HB := Lib.hid (HB.out.trans (hb.mono HB.out.size)); have HO1 := Lib.hid (Own.below HO1.out hb (Nat.le_refl _)); have HRR := Lib.hid (HRR.out.below hb HRR.out.lt); clear hb))
      | (go_at_call 8; ((with_reducible refine (HL4.out _ (HV.out.below HB.out)).mono ?_); rintro e w4 ⟨hb, g2, cap2, rfl, hg2, hg3, ho⟩; simp only [List.length_cons, List.length_nil, Nat.reduceAdd] at ho ⊢; have HO2 := Lib.hid ho; have HB := Lib.hid (HB.out.trans (hb.mono HB.out.size)); have HO1 := Lib.hid (Own.below HO1.out hb (Nat.le_refl _)); have HRR := Lib.hid (HRR.out.below hb HRR.out.lt); clear hb ho)))
    have hF : ∀ W, Below w4.heap.size w4 W → W.cell? ⟨g1, 2, none⟩ = some (.int .i64 (K : Int)) ∧ (W.cell? ⟨g2, 3, none⟩ = some (.string ⟨#[]⟩) ∧ W.cell? ⟨g2, 4, none⟩ = some (.int .i64 sv) ∧ W.cell? ⟨g2, 5, none⟩ = some (.int .i64 (rv % 999)) ∧ W.cell? ⟨g2, 6, none⟩ = some (.bool (decide (1 < sv % 4))) ∧ W.cell? ⟨g2, 7, none⟩ = some (.bool false)) ∧ (W.cell? ⟨rb, 0, none⟩ = some (.string ⟨#[]⟩) ∧ W.cell? ⟨rb, 1, none⟩ = some (.int .i64 sv) ∧ W.cell? ⟨rb, 2, none⟩ = some (.int .i64 (rv % 999)) ∧ W.cell? ⟨rb, 3, none⟩ = some (.bool (decide (1 < sv % 4))) ∧ W.cell? ⟨rb, 4, none⟩ = some (.bool false)) := by
      intro W hW
      have o1 := Own.below HO1.out hW (Nat.le_refl _)
      have o2 := Own.below HO2.out hW (Nat.le_refl _)
      exact ⟨OwnT.cell o1 0 _ rfl 2 (by omega), ⟨OwnT.cell o2 0 _ rfl 3 (by omega), OwnT.cell o2 0 _ rfl 4 (by omega), OwnT.cell o2 0 _ rfl 5 (by omega), OwnT.cell o2 0 _ rfl 6 (by omega), OwnT.cell o2 0 _ rfl 7 (by omega)⟩, (HRR.out.below hW HRR.out.lt).facts⟩
    have HF := Lib.hid hF; clear hF y0 y1 y2 y3 y4
    have HQ0 := Lib.hid (Below.drew (Below.refl w4.heap.size w4))
    refine kept_start (by kernel_rfl) ?_
    show wpAnyH _ _ _ _ _ 48 #[false, false, false, false, false, false, false, false, false, false, false, false, false, false, false, false, false, false, false, false, false, false, false, false, false, false, false, false, false, false, false, false, false, false, false, false, false, false, false, false, false, false, false, false, false, false, false, false] _ _
    refine kept_take (i := 0) (d := some 57) (fuel := 47) (listed' := #[true, false, false, false, false, false, false, false, false, false, false, false, false, false, false, false, false, false, false, false, false, false, false, false, false, false, false, false, false, false, false, false, false, false, false, false, false, false, false, false, false, false, false, false, false, false, false, false]) (v := ?_) rfl rfl (by kernel_rfl) (by kernel_rfl) (by kernel_rfl) rfl (fun _ _ _ h => h) (by rfl) ?_ ?_
    rotate_left
    · (intro wS hSw; go_simp; try (with_reducible rfl))
    simp only [Act.put, List.setIfInBounds_toArray, List.set_cons_zero, List.set_cons_succ]
    refine kept_call (i := 1) (d := some 58) (fuel := 46) (listed' := #[true, true, false, false, false, false, false, false, false, false, false, false, false, false, false, false, false, false, false, false, false, false, false, false, false, false, false, false, false, false, false, false, false, false, false, false, false, false, false, false, false, false, false, false, false, false, false, false]) rfl rfl (by kernel_rfl) rfl (by rfl) (fun K hK => ?_)
    go_simp
    refine (num_any _ _).mono ?_
    rintro e wq1 ⟨rfl, hstep⟩
    have HQ1 := Lib.hid (Below.of _ _ _ HQ0.out hstep)
    go_wp2_with fail
    refine hK.out _ _ hstep hstep.size ?_
    clear hK K
    simp only [Act.put, List.setIfInBounds_toArray, List.set_cons_zero, List.set_cons_succ]
    refine kept_take (i := 2) (d := some 59) (fuel := 45) (listed' := #[true, true, true, false, false, false, false, false, false, false, false, false, false, false, false, false, false, false, false, false, false, false, false, false, false, false, false, false, false, false, false, false, false, false, false, false, false, false, false, false, false, false, false, false, false, false, false, false]) (v := ?_) rfl rfl (by kernel_rfl) (by kernel_rfl) (by kernel_rfl) rfl (fun _ _ _ h => h) (by rfl) ?_ ?_
    rotate_left
    · (intro wS hSw; go_simp; try (with_reducible rfl))
    simp only [Act.put, List.setIfInBounds_toArray, List.set_cons_zero, List.set_cons_succ]
    refine kept_take (i := 3) (d := some 60) (fuel := 44) (listed' := #[true, true, true, true, false, false, false, false, false, false, false, false, false, false, false, false, false, false, false, false, false, false, false, false, false, false, false, false, false, false, false, false, false, false, false, false, false, false, false, false, false, false, false, false, false, false, false, false]) (v := ?_) rfl rfl (by kernel_rfl) (by kernel_rfl) (by kernel_rfl) rfl (fun _ _ _ h => h) (by rfl) ?_ ?_
    rotate_left
    · (intro wS hSw; go_simp; try (with_reducible rfl))
    simp only [Act.put, List.setIfInBounds_toArray, List.set_cons_zero, List.set_cons_succ]
    refine kept_take (i := 4) (d := some 61) (fuel := 43) (listed' := #[true, true, true, true, true, false, false, false, false, false, false, false, false, false, false, false, false, false, false, false, false, false, false, false, false, false, false, false, false, false, false, false, false, false, false, false, false, false, false, false, false, false, false, false, false, false, false, false]) (v := ?_) rfl rfl (by kernel_rfl) (by kernel_rfl) (by kernel_rfl) rfl (fun _ _ _ h => h) (by rfl) ?_ ?_
    rotate_left
    · (intro wS hSw; go_simp; try (with_reducible rfl))
    simp only [Act.put, List.setIfInBounds_toArray, List.set_cons_zero, List.set_cons_succ]
    refine kept_take (i := 5) (d := some 62) (fuel := 42) (listed' := #[true, true, true, true, true, true, false, false, false, false, false, false, false, false, false, false, false, false, false, false, false, false, false, false, false, false, false, false, false, false, false, false, false, false, false, false, false, false, false, false, false, false, false, false, false, false, false, false]) (v := ?_) rfl rfl (by kernel_rfl) (by kernel_rfl) (by kernel_rfl) rfl (fun _ _ _ h => h) (by rfl) ?_ ?_
    rotate_left
    · (intro wS hSw; go_simp; try (with_reducible rfl))
    simp only [Act.put, List.setIfInBounds_toArray, List.set_cons_zero, List.set_cons_succ]
    refine kept_take (i := 6) (d := some 63) (fuel := 41) (listed' := #[true, true, true, true, true, true, true, false, false, false, false, false, false, false, false, false, false, false, false, false, false, false, false, false, false, false, false, false, false, false, false, false, false, false, false, false, false, false, false, false, false, false, false, false, false, false, false, false]) (v := ?_) rfl rfl (by kernel_rfl) (by kernel_rfl) (by kernel_rfl) rfl (fun _ _ _ h => h) (by rfl) ?_ ?_
    rotate_left
    · (intro wS hSw; go_simp; try (with_reducible rfl))
    simp only [Act.put, List.setIfInBounds_toArray, List.set_cons_zero, List.set_cons_succ]
    refine kept_take (i := 7) (d := some 64) (fuel := 40) (listed' := #[true, true, true, true, true, true, true, true, false, false, false, false, false, false, false, false, false, false, false, false, false, false, false, false, false, false, false, false, false, false, false, false, false, false, false, false, false, false, false, false, false, false, false, false, false, false, false, false]) (v := ?_) rfl rfl (by kernel_rfl) (by kernel_rfl) (by kernel_rfl) rfl (fun _ _ _ h => h) (by rfl) ?_ ?_
    rotate_left
    · (intro wS hSw; go_simp; try (with_reducible rfl))
    simp only [Act.put, List.setIfInBounds_toArray, List.set_cons_zero, List.set_cons_succ]
    refine kept_take (i := 8) (d := some 65) (fuel := 39) (listed' := #[true, true, true, true, true, true, true, true, true, false, false, false, false, false, false, false, false, false, false, false, false, false, false, false, false, false, false, false, false, false, false, false, false, false, false, false, false, false, false, false, false, false, false, false, false, false, false, false]) (v := ?_) rfl rfl (by kernel_rfl) (by kernel_rfl) (by kernel_rfl) rfl (fun _ _ _ h => h) (by rfl) ?_ ?_
    rotate_left
    · (intro wS hSw; go_simp; try (with_reducible rfl))
    simp only [Act.put, List.setIfInBounds_toArray, List.set_cons_zero, List.set_cons_succ]
    refine kept_take (i := 9) (d := some 66) (fuel := 38) (listed' := #[true, true, true, true, true, true, true, true, true, true, false, false, false, false, false, false, false, false, false, false, false, false, false, false, false, false, false, false, false, false, false, false, false, false, false, false, false, false, false, false, false, false, false, false, false, false, false, false]) (v := ?_) rfl rfl (by kernel_rfl) (by kernel_rfl) (by kernel_rfl) rfl (fun _ _ _ h => h) (by rfl) ?_ ?_
    rotate_left
    · (intro wS hSw; go_simp; try (with_reducible rfl))
    simp only [Act.put, List.setIfInBounds_toArray, List.set_cons_zero, List.set_cons_succ]
    refine kept_take (i := 10) (d := some 67) (fuel := 37) (listed' := #[true, true, true, true, true, true, true, true, true, true, true, false, false, false, false, false, false, false, false, false, false, false, false, false, false, false, false, false, false, false, false, false, false, false, false, false, false, false, false, false, false, false, false, false, false, false, false, false]) (v := ?_) rfl rfl (by kernel_rfl) (by kernel_rfl) (by kernel_rfl) rfl (fun _ _ _ h => h) (by rfl) ?_ ?_
    rotate_left
    · (intro wS hSw; go_simp; try (with_reducible rfl))
    simp only [Act.put, List.setIfInBounds_toArray, List.set_cons_zero, List.set_cons_succ]
    refine kept_take (i := 11) (d := some 68) (fuel := 36) (listed' := #[true, true, true, true, true, true, true, true, true, true, true, true, false, false, false, false, false, false, false, false, false, false, false, false, false, false, false, false, false, false, false, false, false, false, false, false, false, false, false, false, false, false, false, false, false, false, false, false]) (v := ?_) rfl rfl (by kernel_rfl) (by kernel_rfl) (by kernel_rfl) rfl (fun _ _ _ h => h) (by rfl) ?_ ?_
    rotate_left
    · (intro wS hSw; go_simp; try (with_reducible rfl))
    simp only [Act.put, List.setIfInBounds_toArray, List.set_cons_zero, List.set_cons_succ]
    refine kept_take (i := 12) (d := some 69) (fuel := 35) (listed' := #[true, true, true, true, true, true, true, true, true, true, true, true, true, false, false, false, false, false, false, false, false, false, false, false, false, false, false, false, false, false, false, false, false, false, false, false, false, false, false, false, false, false, false, false, false, false, false, false]) (v := ?_) rfl rfl (by kernel_rfl) (by kernel_rfl) (by kernel_rfl) rfl (fun _ _ _ h => h) (by rfl) ?_ ?_
    rotate_left
    · (intro wS hSw; have hz := (fun W (hW : Below _ _ W) => HF.out W (Below.of _ _ _ HQ1.out hW)) wS hSw; go_simp; try (with_reducible rfl))
    simp only [Act.put, List.setIfInBounds_toArray, List.set_cons_zero, List.set_cons_succ]
    refine kept_take (i := 13) (d := some 70) (fuel := 34) (listed' := #[true, true, true, true, true, true, true, true, true, true, true, true, true, true, false, false, false, false, false, false, false, false, false, false, false, false, false, false, false, false, false, false, false, false, false, false, false, false, false, false, false, false, false, false, false, false, false, false]) (v := ?_) rfl rfl (by kernel_rfl) (by kernel_rfl) (by kernel_rfl) rfl (fun _ _ _ h => h) (by rfl) ?_ ?_
    rotate_left
    · (intro wS hSw; go_simp; try (with_reducible rfl))
    simp only [Act.put, List.setIfInBounds_toArray, List.set_cons_zero, List.set_cons_succ]
    refine kept_take (i := 14) (d := some 71) (fuel := 33) (listed' := #[true, true, true, true, true, true, true, true, true, true, true, true, true, true, true, false, false, false, false, false, false, false, false, false, false, false, false, false, false, false, false, false, false, false, false, false, false, false, false, false, false, false, false, false, false, false, false, false]) (v := ?_) rfl rfl (by kernel_rfl) (by kernel_rfl) (by kernel_rfl) rfl (fun _ _ _ h => h) (by rfl) ?_ ?_
    rotate_left
    · (intro wS hSw; go_simp; try (with_reducible rfl))
    simp only [Act.put, List.setIfInBounds_toArray, List.set_cons_zero, List.set_cons_succ]
    refine kept_take (i := 15) (d := some 72) (fuel := 32) (listed' := #[true, true, true, true, true, true, true, true, true, true, true, true, true, true, true, true, false, false, false, false, false, false, false, false, false, false, false, false, false, false, false, false, false, false, false, false, false, false, false, false, false, false, false, false, false, false, false, false]) (v := ?_) rfl rfl (by kernel_rfl) (by kernel_rfl) (by kernel_rfl) rfl (fun _ _ _ h => h) (by rfl) ?_ ?_
    rotate_left
    · (intro wS hSw; go_simp; try (with_reducible rfl))
    simp only [Act.put, List.setIfInBounds_toArray, List.set_cons_zero, List.set_cons_succ]
    refine kept_take (i := 16) (d := some 73) (fuel := 31) (listed' := #[true, true, true, true, true, true, true, true, true, true, true, true, true, true, true, true, true, false, false, false, false, false, false, false, false, false, false, false, false, false, false, false, false, false, false, false, false, false, false, false, false, false, false, false, false, false, false, false]) (v := ?_) rfl rfl (by kernel_rfl) (by kernel_rfl) (by kernel_rfl) rfl (fun _ _ _ h => h) (by rfl) ?_ ?_
    rotate_left
    · (intro wS hSw; go_simp; try (with_reducible rfl))
    simp only [Act.put, List.setIfInBounds_toArray, List.set_cons_zero, List.set_cons_succ]
    refine kept_take (i := 17) (d := some 74) (fuel := 30) (listed' := #[true, true, true, true, true, true, true, true, true, true, true, true, true, true, true, true, true, true, false, false, false, false, false, false, false, false, false, false, false, false, false, false, false, false, false, false, false, false, false, false, false, false, false, false, false, false, false, false]) (v := ?_) rfl rfl (by kernel_rfl) (by kernel_rfl) (by kernel_rfl) rfl (fun _ _ _ h => h) (by rfl) ?_ ?_
    rotate_left
    · (intro wS hSw; go_simp; try (with_reducible rfl))
    simp only [Act.put, List.setIfInBounds_toArray, List.set_cons_zero, List.set_cons_succ]
    refine kept_call (i := 18) (d := some 75) (fuel := 29) (listed' := #[true, true, true, true, true, true, true, true, true, true, true, true, true, true, true, true, true, true, true, false, false, false, false, false, false, false, false, false, false, false, false, false, false, false, false, false, false, false, false, false, false, false, false, false, false, false, false, false]) rfl rfl (by kernel_rfl) rfl (by rfl) (fun K hK => ?_)
    go_simp
    refine (num_any _ _).mono ?_
    rintro e wq2 ⟨rfl, hstep⟩
    have HQ2 := Lib.hid (Below.of _ _ _ HQ1.out hstep)
    go_wp2_with fail
    refine hK.out _ _ hstep hstep.size ?_
    clear hK K
    simp only [Act.put, List.setIfInBounds_toArray, List.set_cons_zero, List.set_cons_succ]
    refine kept_take (i := 19) (d := some 76) (fuel := 28) (listed' := #[true, true, true, true, true, true, true, true, true, true, true, true, true, true, true, true, true, true, true, true, false, false, false, false, false, false, false, false, false, false, false, false, false, false, false, false, false, false, false, false, false, false, false, false, false, false, false, false]) (v := ?_) rfl rfl (by kernel_rfl) (by kernel_rfl) (by kernel_rfl) rfl (fun _ _ _ h => h) (by rfl) ?_ ?_
    rotate_left
    · (intro wS hSw; go_simp; try (with_reducible rfl))
    simp only [Act.put, List.setIfInBounds_toArray, List.set_cons_zero, List.set_cons_succ]
    refine kept_take (i := 20) (d := some 77) (fuel := 27) (listed' := #[true, true, true, true, true, true, true, true, true, true, true, true, true, true, true, true, true, true, true, true, true, false, false, false, false, false, false, false, false, false, false, false, false, false, false, false, false, false, false, false, false, false, false, false, false, false, false, false]) (v := ?_) rfl rfl (by kernel_rfl) (by kernel_rfl) (by kernel_rfl) rfl (fun _ _ _ h => h) (by rfl) ?_ ?_
    rotate_left
    · (intro wS hSw; go_simp; try (with_reducible rfl))
    simp only [Act.put, List.setIfInBounds_toArray, List.set_cons_zero, List.set_cons_succ]
    refine kept_take (i := 21) (d := some 78) (fuel := 26) (listed' := #[true, true, true, true, true, true, true, true, true, true, true, true, true, true, true, true, true, true, true, true, true, true, false, false, false, false, false, false, false, false, false, false, false, false, false, false, false, false, false, false, false, false, false, false, false, false, false, false]) (v := ?_) rfl rfl (by kernel_rfl) (by kernel_rfl) (by kernel_rfl) rfl (fun _ _ _ h => h) (by rfl) ?_ ?_
    rotate_left
    · (intro wS hSw; go_simp; try (with_reducible rfl))
    simp only [Act.put, List.setIfInBounds_toArray, List.set_cons_zero, List.set_cons_succ]
    refine kept_take (i := 22) (d := some 79) (fuel := 25) (listed' := #[true, true, true, true, true, true, true, true, true, true, true, true, true, true, true, true, true, true, true, true, true, true, true, false, false, false, false, false, false, false, false, false, false, false, false, false, false, false, false, false, false, false, false, false, false, false, false, false]) (v := ?_) rfl rfl (by kernel_rfl) (by kernel_rfl) (by kernel_rfl) rfl (fun _ _ _ h => h) (by rfl) ?_ ?_
    rotate_left
    · (intro wS hSw; go_simp; try (with_reducible rfl))
    simp only [Act.put, List.setIfInBounds_toArray, List.set_cons_zero, List.set_cons_succ]
    refine kept_call (i := 23) (d := some 80) (fuel := 24) (listed' := #[true, true, true, true, true, true, true, true, true, true, true, true, true, true, true, true, true, true, true, true, true, true, true, true, false, false, false, false, false, false, false, false, false, false, false, false, false, false, false, false, false, false, false, false, false, false, false, false]) rfl rfl (by kernel_rfl) rfl (by rfl) (fun K hK => ?_)
    go_simp
    refine (num_any _ _).mono ?_
    rintro e wq3 ⟨rfl, hstep⟩
    have HQ3 := Lib.hid (Below.of _ _ _ HQ2.out hstep)
    go_wp2_with fail
    refine hK.out _ _ hstep hstep.size ?_
    clear hK K
    simp only [Act.put, List.setIfInBounds_toArray, List.set_cons_zero, List.set_cons_succ]
    refine kept_take (i := 24) (d := some 81) (fuel := 23) (listed' := #[true, true, true, true, true, true, true, true, true, true, true, true, true, true, true, true, true, true, true, true, true, true, true, true, true, false, false, false, false, false, false, false, false, false, false, false, false, false, false, false, false, false, false, false, false, false, false, false]) (v := ?_) rfl rfl (by kernel_rfl) (by kernel_rfl) (by kernel_rfl) rfl (fun _ _ _ h => h) (by rfl) ?_ ?_
    rotate_left
    · (intro wS hSw; go_simp; try (with_reducible rfl))
    simp only [Act.put, List.setIfInBounds_toArray, List.set_cons_zero, List.set_cons_succ]
    refine kept_take (i := 25) (d := some 82) (fuel := 22) (listed' := #[true, true, true, true, true, true, true, true, true, true, true, true, true, true, true, true, true, true, true, true, true, true, true, true, true, true, false, false, false, false, false, false, false, false, false, false, false, false, false, false, false, false, false, false, false, false, false, false]) (v := ?_) rfl rfl (by kernel_rfl) (by kernel_rfl) (by kernel_rfl) rfl (fun _ _ _ h => h) (by rfl) ?_ ?_
    rotate_left
    · (intro wS hSw; go_simp; try (with_reducible rfl))
    simp only [Act.put, List.setIfInBounds_toArray, List.set_cons_zero, List.set_cons_succ]
    refine kept_take (i := 26) (d := some 83) (fuel := 21) (listed' := #[true, true, true, true, true, true, true, true, true, true, true, true, true, true, true, true, true, true, true, true, true, true, true, true, true, true, true, false, false, false, false, false, false, false, false, false, false, false, false, false, false, false, false, false, false, false, false, false]) (v := ?_) rfl rfl (by kernel_rfl) (by kernel_rfl) (by kernel_rfl) rfl (fun _ _ _ h => h) (by rfl) ?_ ?_
    rotate_left
    · (intro wS hSw; go_simp; try (with_reducible rfl))
    simp only [Act.put, List.setIfInBounds_toArray, List.set_cons_zero, List.set_cons_succ]
    refine kept_take (i := 27) (d := some 84) (fuel := 20) (listed' := #[true, true, true, true, true, true, true, true, true, true, true, true, true, true, true, true, true, true, true, true, true, true, true, true, true, true, true, true, false, false, false, false, false, false, false, false, false, false, false, false, false, false, false, false, false, false, false, false]) (v := ?_) rfl rfl (by kernel_rfl) (by kernel_rfl) (by kernel_rfl) rfl (fun _ _ _ h => h) (by rfl) ?_ ?_
    rotate_left
    · (intro wS hSw; go_simp; try (with_reducible rfl))
    simp only [Act.put, List.setIfInBounds_toArray, List.set_cons_zero, List.set_cons_succ]
    refine kept_call (i := 28) (d := some 85) (fuel := 19) (listed' := #[true, true, true, true, true, true, true, true, true, true, true, true, true, true, true, true, true, true, true, true, true, true, true, true, true, true, true, true, true, false, false, false, false, false, false, false, false, false, false, false, false, false, false, false, false, false, false, false]) rfl rfl (by kernel_rfl) rfl (by rfl) (fun K hK => ?_)
    go_simp
    refine (num_any _ _).mono ?_
    rintro e wq4 ⟨rfl, hstep⟩
    have HQ4 := Lib.hid (Below.of _ _ _ HQ3.out hstep)
    go_wp2_with fail
    refine hK.out _ _ hstep hstep.size ?_
    clear hK K
    simp only [Act.put, List.setIfInBounds_toArray, List.set_cons_zero, List.set_cons_succ]
    refine kept_take (i := 29) (d := some 86) (fuel := 18) (listed' := #[true, true, true, true, true, true, true, true, true, true, true, true, true, true, true, true, true, true, true, true, true, true, true, true, true, true, true, true, true, true, false, false, false, false, false, false, false, false, false, false, false, false, false, false, false, false, false, false]) (v := ?_) rfl rfl (by kernel_rfl) (by kernel_rfl) (by kernel_rfl) rfl (fun _ _ _ h => h) (by rfl) ?_ ?_
    rotate_left
    · (intro wS hSw; go_simp; try (with_reducible rfl))
    simp only [Act.put, List.setIfInBounds_toArray, List.set_cons_zero, List.set_cons_succ]
    refine kept_take (i := 30) (d := some 87) (fuel := 17) (listed' := #[true, true, true, true, true, true, true, true, true, true, true, true, true, true, true, true, true, true, true, true, true, true, true, true, true, true, true, true, true, true, true, false, false, false, false, false, false, false, false, false, false, false, false, false, false, false, false, false]) (v := ?_) rfl rfl (by kernel_rfl) (by kernel_rfl) (by kernel_rfl) rfl (fun _ _ _ h => h) (by rfl) ?_ ?_
    rotate_left
    · (intro wS hSw; go_simp; try (with_reducible rfl))
    simp only [Act.put, List.setIfInBounds_toArray, List.set_cons_zero, List.set_cons_succ]
    refine kept_take (i := 31) (d := some 88) (fuel := 16) (listed' := #[true, true, true, true, true, true, true, true, true, true, true, true, true, true, true, true, true, true, true, true, true, true, true, true, true, true, true, true, true, true, true, true, false, false, false, false, false, false, false, false, false, false, false, false, false, false, false, false]) (v := ?_) rfl rfl (by kernel_rfl) (by kernel_rfl) (by kernel_rfl) rfl (fun _ _ _ h => h) (by rfl) ?_ ?_
    rotate_left
    · (intro wS hSw; go_simp; try (with_reducible rfl))
    simp only [Act.put, List.setIfInBounds_toArray, List.set_cons_zero, List.set_cons_succ]
    refine kept_take (i := 32) (d := some 89) (fuel := 15) (listed' := #[true, true, true, true, true, true, true, true, true, true, true, true, true, true, true, true, true, true, true, true, true, true, true, true, true, true, true, true, true, true, true, true, true, false, false, false, false, false, false, false, false, false, false, false, false, false, false, false]) (v := ?_) rfl rfl (by kernel_rfl) (by kernel_rfl) (by kernel_rfl) rfl (fun _ _ _ h => h) (by rfl) ?_ ?_
    rotate_left
    · (intro wS hSw; go_simp; try (with_reducible rfl))
    simp only [Act.put, List.setIfInBounds_toArray, List.set_cons_zero, List.set_cons_succ]
    refine kept_take (i := 33) (d := some 90) (fuel := 14) (listed' := #[true, true, true, true, true, true, true, true, true, true, true, true, true, true, true, true, true, true, true, true, true, true, true, true, true, true, true, true, true, true, true, true, true, true, false, false, false, false, false, false, false, false, false, false, false, false, false, false]) (v := ?_) rfl rfl (by kernel_rfl) (by kernel_rfl) (by kernel_rfl) rfl (fun _ _ _ h => h) (by rfl) ?_ ?_
    rotate_left
    · (intro wS hSw; go_simp; try (with_reducible rfl))
    simp only [Act.put, List.setIfInBounds_toArray, List.set_cons_zero, List.set_cons_succ]
    refine kept_take (i := 34) (d := some 91) (fuel := 13) (listed' := #[true, true, true, true, true, true, true, true, true, true, true, true, true, true, true, true, true, true, true, true, true, true, true, true, true, true, true, true, true, true, true, true, true, true, true, false, false, false, false, false, false, false, false, false, false, false, false, false]) (v := ?_) rfl rfl (by kernel_rfl) (by kernel_rfl) (by kernel_rfl) rfl (fun _ _ _ h => h) (by rfl) ?_ ?_
    rotate_left
    · (intro wS hSw; go_simp; try (with_reducible rfl))
    simp only [Act.put, List.setIfInBounds_toArray, List.set_cons_zero, List.set_cons_succ]
    refine kept_take (i := 35) (d := some 92) (fuel := 12) (listed' := #[true, true, true, true, true, true, true, true, true, true, true, true, true, true, true, true, true, true, true, true, true, true, true, true, true, true, true, true, true, true, true, true, true, true, true, true, false, false, false, false, false, false, false, false, false, false, false, false]) (v := ?_) rfl rfl (by kernel_rfl) (by kernel_rfl) (by kernel_rfl) rfl (fun _ _ _ h => h) (by rfl) ?_ ?_
    rotate_left
    · (intro wS hSw; go_simp; try (with_reducible rfl))
    simp only [Act.put, List.setIfInBounds_toArray, List.set_cons_zero, List.set_cons_succ]
    refine kept_take (i := 36) (d := some 93) (fuel := 11) (listed' := #[true, true, true, true, true, true, true, true, true, true, true, true, true, true, true, true, true, true, true, true, true, true, true, true, true, true, true, true, true, true, true, true, true, true, true, true, true, false, false, false, false, false, false, false, false, false, false, false]) (v := ?_) rfl rfl (by kernel_rfl) (by kernel_rfl) (by kernel_rfl) rfl (fun _ _ _ h => h) (by rfl) ?_ ?_
    rotate_left
    · (intro wS hSw; go_simp; try (with_reducible rfl))
    simp only [Act.put, List.setIfInBounds_toArray, List.set_cons_zero, List.set_cons_succ]
    refine kept_take (i := 37) (d := some 94) (fuel := 10) (listed' := #[true, true, true, true, true, true, true, true, true, true, true, true, true, true, true, true, true, true, true, true, true, true, true, true, true, true, true, true, true, true, true, true, true, true, true, true, true, true, false, false, false, false, false, false, false, false, false, false]) (v := ?_) rfl rfl (by kernel_rfl) (by kernel_rfl) (by kernel_rfl) rfl (fun _ _ _ h => h) (by rfl) ?_ ?_
    rotate_left
    · (intro wS hSw; go_simp; try (with_reducible rfl))
    simp only [Act.put, List.setIfInBounds_toArray, List.set_cons_zero, List.set_cons_succ]
    refine kept_take (i := 38) (d := some 95) (fuel := 9) (listed' := #[true, true, true, true, true, true, true, true, true, true, true, true, true, true, true, true, true, true, true, true, true, true, true, true, true, true, true, true, true, true, true, true, true, true, true, true, true, true, true, false, false, false, false, false, false, false, false, false]) (v := ?_) rfl rfl (by kernel_rfl) (by kernel_rfl) (by kernel_rfl) rfl (fun _ _ _ h => h) (by rfl) ?_ ?_
    rotate_left
    · (intro wS hSw; go_simp; try (with_reducible rfl))
    simp only [Act.put, List.setIfInBounds_toArray, List.set_cons_zero, List.set_cons_succ]
    refine kept_take (i := 39) (d := some 96) (fuel := 8) (listed' := #[true, true, true, true, true, true, true, true, true, true, true, true, true, true, true, true, true, true, true, true, true, true, true, true, true, true, true, true, true, true, true, true, true, true, true, true, true, true, true, true, false, false, false, false, false, false, false, false]) (v := ?_) rfl rfl (by kernel_rfl) (by kernel_rfl) (by kernel_rfl) rfl (fun _ _ _ h => h) (by rfl) ?_ ?_
    rotate_left
    · (intro wS hSw; go_simp; try (with_reducible rfl))
    simp only [Act.put, List.setIfInBounds_toArray, List.set_cons_zero, List.set_cons_succ]
    refine kept_take (i := 40) (d := some 97) (fuel := 7) (listed' := #[true, true, true, true, true, true, true, true, true, true, true, true, true, true, true, true, true, true, true, true, true, true, true, true, true, true, true, true, true, true, true, true, true, true, true, true, true, true, true, true, true, false, false, false, false, false, false, false]) (v := ?_) rfl rfl (by kernel_rfl) (by kernel_rfl) (by kernel_rfl) rfl (fun _ _ _ h => h) (by rfl) ?_ ?_
    rotate_left
    · (intro wS hSw; have hz := (fun W (hW : Below _ _ W) => HF.out W (Below.of _ _ _ HQ4.out hW)) wS hSw; go_simp; try (with_reducible rfl))
    simp only [Act.put, List.setIfInBounds_toArray, List.set_cons_zero, List.set_cons_succ]
    refine kept_take (i := 41) (d := some 98) (fuel := 6) (listed' := #[true, true, true, true, true, true, true, true, true, true, true, true, true, true, true, true, true, true, true, true, true, true, true, true, true, true, true, true, true, true, true, true, true, true, true, true, true, true, true, true, true, true, false, false, false, false, false, false]) (v := ?_) rfl rfl (by kernel_rfl) (by kernel_rfl) (by kernel_rfl) rfl (fun _ _ _ h => h) (by rfl) ?_ ?_
    rotate_left
    · (intro wS hSw; have hz := (fun W (hW : Below _ _ W) => HF.out W (Below.of _ _ _ HQ4.out hW)) wS hSw; go_simp; try (with_reducible rfl))
    simp only [Act.put, List.setIfInBounds_toArray, List.set_cons_zero, List.set_cons_succ]
    refine kept_take (i := 42) (d := some 99) (fuel := 5) (listed' := #[true, true, true, true, true, true, true, true, true, true, true, true, true, true, true, true, true, true, true, true, true, true, true, true, true, true, true, true, true, true, true, true, true, true, true, true, true, true, true, true, true, true, true, false, false, false, false, false]) (v := ?_) rfl rfl (by kernel_rfl) (by kernel_rfl) (by kernel_rfl) rfl (fun _ _ _ h => h) (by rfl) ?_ ?_
    rotate_left
    · (intro wS hSw; go_simp; try (with_reducible rfl))
    simp only [Act.put, List.setIfInBounds_toArray, List.set_cons_zero, List.set_cons_succ]
    refine kept_take (i := 43) (d := some 100) (fuel := 4) (listed' := #[true, true, true, true, true, true, true, true, true, true, true, true, true, true, true, true, true, true, true, true, true, true, true, true, true, true, true, true, true, true, true, true, true, true, true, true, true, true, true, true, true, true, true, true, false, false, false, false]) (v := ?_) rfl rfl (by kernel_rfl) (by kernel_rfl) (by kernel_rfl) rfl (fun _ _ _ h => h) (by rfl) ?_ ?_
    rotate_left
    · (intro wS hSw; go_simp; try (with_reducible rfl))
    simp only [Act.put, List.setIfInBounds_toArray, List.set_cons_zero, List.set_cons_succ]
    refine kept_take (i := 44) (d := some 101) (fuel := 3) (listed' := #[true, true, true, true, true, true, true, true, true, true, true, true, true, true, true, true, true, true, true, true, true, true, true, true, true, true, true, true, true, true, true, true, true, true, true, true, true, true, true, true, true, true, true, true, true, false, false, false]) (v := ?_) rfl rfl (by kernel_rfl) (by kernel_rfl) (by kernel_rfl) rfl (fun _ _ _ h => h) (by rfl) ?_ ?_
    rotate_left
    · (intro wS hSw; go_simp; try (with_reducible rfl))
    simp only [Act.put, List.setIfInBounds_toArray, List.set_cons_zero, List.set_cons_succ]
    refine kept_call (i := 45) (d := some 102) (fuel := 2) (listed' := #[true, true, true, true, true, true, true, true, true, true, true, true, true, true, true, true, true, true, true, true, true, true, true, true, true, true, true, true, true, true, true, true, true, true, true, true, true, true, true, true, true, true, true, true, true, true, false, false]) rfl rfl (by kernel_rfl) rfl (by rfl) (fun K hK => ?_)
    go_simp
    refine (lexAwake_any _ (HV.out.below (HB.out.trans (HQ4.out.mono HB.out.size)))).mono ?_
    rintro e wq5 ⟨rfl, hstep⟩
    have HQ5 := Lib.hid (Below.of _ _ _ HQ4.out hstep)
    go_wp2_with fail
    refine hK.out _ _ hstep hstep.size ?_
    clear hK K
    simp only [Act.put, List.setIfInBounds_toArray, List.set_cons_zero, List.set_cons_succ]
    refine kept_take (i := 46) (d := some 103) (fuel := 1) (listed' := #[true, true, true, true, true, true, true, true, true, true, true, true, true, true, true, true, true, true, true, true, true, true, true, true, true, true, true, true, true, true, true, true, true, true, true, true, true, true, true, true, true, true, true, true, true, true, true, false]) (v := ?_) rfl rfl (by kernel_rfl) (by kernel_rfl) (by kernel_rfl) rfl (fun _ _ _ h => h) (by rfl) ?_ ?_
    rotate_left
    · (intro wS hSw; go_simp; try (with_reducible rfl))
    simp only [Act.put, List.setIfInBounds_toArray, List.set_cons_zero, List.set_cons_succ]
    refine kept_take (i := 47) (d := some 6) (fuel := 0) (listed' := #[true, true, true, true, true, true, true, true, true, true, true, true, true, true, true, true, true, true, true, true, true, true, true, true, true, true, true, true, true, true, true, true, true, true, true, true, true, true, true, true, true, true, true, true, true, true, true, true]) (v := ?_) rfl rfl (by kernel_rfl) (by kernel_rfl) (by kernel_rfl) rfl (fun _ _ _ h => h) (by rfl) ?_ ?_
    rotate_left
    · (intro wS hSw; go_simp; try (with_reducible rfl))
    simp only [Act.put, List.setIfInBounds_toArray, List.set_cons_zero, List.set_cons_succ]
    refine wpAnyH_done (by kernel_rfl) ?_ _
    go_wp2_with fail
    go_ret
    exact ⟨rfl, HB.out.trans (HQ5.out.mono HB.out.size)⟩
  · go_upto_region 6 with (fail)
    have hsz : (w1.alloc (.cells #[.string ⟨#[]⟩, .string ⟨#[83]⟩] 9)).heap.size = w1.heap.size + 1 := by simp
    have hRR := RefAt.new (w1.alloc (.cells #[.string ⟨#[]⟩, .string ⟨#[83]⟩] 9)) ⟨#[83]⟩ sv (rv % 999) (decide (1 < sv % 4)) false
    have hb2 : Below w1.heap.size w1 ((w1.alloc (.cells #[.string ⟨#[]⟩, .string ⟨#[83]⟩] 9)).alloc (.cells #[.string ⟨#[83]⟩, .int .i64 sv, .int .i64 (rv % 999), .bool (decide (1 < sv % 4)), .bool false] 32)) := ((Below.refl _ _).alloc (Nat.le_refl _) _).alloc (by rw [hsz]; omega) _
    rw [hsz] at hRR
    have HO1 := Lib.hid (Own.below HO1.out hb2 (Nat.le_refl _))
    have HB := Lib.hid (HB.out.trans (hb2.mono HB.out.size))
    clear hb2 hsz
    generalize (w1.alloc (.cells #[.string ⟨#[]⟩, .string ⟨#[83]⟩] 9)).alloc (.cells #[.string ⟨#[83]⟩, .int .i64 sv, .int .i64 (rv % 999), .bool (decide (1 < sv % 4)), .bool false] 32) = w2 at hRR HO1 HB ⊢
    obtain ⟨y0, y1, y2, y3, y4⟩ := hRR.facts
    have HRR := Lib.hid hRR; clear hRR
    generalize w1.heap.size + 1 = rb at HRR y0 y1 y2 y3 y4 ⊢
    go_upto_region 7 with (first
      | (go_at_call 12; ((with_reducible refine (HRT.out _).mono ?_); rintro e w3 ⟨rfl, hb⟩; have HB := Lib.hid (HB.out.trans (hb.mono HB.out.size)); have HO1 := Lib.hid (Own.below HO1.out hb (Nat.le_refl _)); have HRR := Lib.hid (HRR.out.below hb HRR.out.lt); clear hb))
      | (go_at_call 8; ((with_reducible refine (HL4.out _ (HV.out.below HB.out)).mono ?_); rintro e w4 ⟨hb, g2, cap2, rfl, hg2, hg3, ho⟩; simp only [List.length_cons, List.length_nil, Nat.reduceAdd] at ho ⊢; have HO2 := Lib.hid ho; have HB := Lib.hid (HB.out.trans (hb.mono HB.out.size)); have HO1 := Lib.hid (Own.below HO1.out hb (Nat.le_refl _)); have HRR := Lib.hid (HRR.out.below hb HRR.out.lt); clear hb ho)))
    have hF : ∀ W, Below w4.heap.size w4 W → W.cell? ⟨g1, 2, none⟩ = some (.int .i64 (K : Int)) ∧ (W.cell? ⟨g2, 3, none⟩ = some (.string ⟨#[83]⟩) ∧ W.cell? ⟨g2, 4, none⟩ = some (.int .i64 sv) ∧ W.cell? ⟨g2, 5, none⟩ = some (.int .i64 (rv % 999)) ∧ W.cell? ⟨g2, 6, none⟩ = some (.bool (decide (1 < sv % 4))) ∧ W.cell? ⟨g2, 7, none⟩ = some (.bool false)) ∧ (W.cell? ⟨rb, 0, none⟩ = some (.string ⟨#[83]⟩) ∧ W.cell? ⟨rb, 1, none⟩ = some (.int .i64 sv) ∧ W.cell? ⟨rb, 2, none⟩ = some (.int .i64 (rv % 999)) ∧ W.cell? ⟨rb, 3, none⟩ = some (.bool (decide (1 < sv % 4))) ∧ W.cell? ⟨rb, 4, none⟩ = some (.bool false)) := by
      intro W hW
      have o1 := Own.below HO1.out hW (Nat.le_refl _)
      have o2 := Own.below HO2.out hW (Nat.le_refl _)
      exact ⟨OwnT.cell o1 0 _ rfl 2 (by omega), ⟨OwnT.cell o2 0 _ rfl 3 (by omega), OwnT.cell o2 0 _ rfl 4 (by omega), OwnT.cell o2 0 _ rfl 5 (by omega), OwnT.cell o2 0 _ rfl 6 (by omega), OwnT.cell o2 0 _ rfl 7 (by omega)⟩, (HRR.out.below hW HRR.out.lt).facts⟩
    have HF := Lib.hid hF; clear hF y0 y1 y2 y3 y4
    have HQ0 := Lib.hid (Below.drew (Below.refl w4.heap.size w4))
    refine kept_start (by kernel_rfl) ?_
    show wpAnyH _ _ _ _ _ 48 #[false, false, false, false, false, false, false, false, false, false, false, false, false, false, false, false, false, false, false, false, false, false, false, false, false, false, false, false, false, false, false, false, false, false, false, false, false, false, false, false, false, false, false, false, false, false, false, false] _ _
    refine kept_take (i := 0) (d := some 57) (fuel := 47) (listed' := #[true, false, false, false, false, false, false, false, false, false, false, false, false, false, false, false, false, false, false, false, false, false, false, false, false, false, false, false, false, false, false, false, false, false, false, false, false, false, false, false, false, false, false, false, false, false, false, false]) (v := ?_) rfl rfl (by kernel_rfl) (by kernel_rfl) (by kernel_rfl) rfl (fun _ _ _ h => h) (by rfl) ?_ ?_
    rotate_left
    · (intro wS hSw; go_simp; try (with_reducible rfl))
    simp only [Act.put, List.setIfInBounds_toArray, List.set_cons_zero, List.set_cons_succ]
    refine kept_call (i := 1) (d := some 58) (fuel := 46) (listed' := #[true, true, false, false, false, false, false, false, false, false, false, false, false, false, false, false, false, false, false, false, false, false, false, false, false, false, false, false, false, false, false, false, false, false, false, false, false, false, false, false, false, false, false, false, false, false, false, false]) rfl rfl (by kernel_rfl) rfl (by rfl) (fun K hK => ?_)
    go_simp
    refine (num_any _ _).mono ?_
    rintro e wq1 ⟨rfl, hstep⟩
    have HQ1 := Lib.hid (Below.of _ _ _ HQ0.out hstep)
    go_wp2_with fail
    refine hK.out _ _ hstep hstep.size ?_
    clear hK K
    simp only [Act.put, List.setIfInBounds_toArray, List.set_cons_zero, List.set_cons_succ]
    refine kept_take (i := 2) (d := some 59) (fuel := 45) (listed' := #[true, true, true, false, false, false, false, false, false, false, false, false, false, false, false, false, false, false, false, false, false, false, false, false, false, false, false, false, false, false, false, false, false, false, false, false, false, false, false, false, false, false, false, false, false, false, false, false]) (v := ?_) rfl rfl (by kernel_rfl) (by kernel_rfl) (by kernel_rfl) rfl (fun _ _ _ h => h) (by rfl) ?_ ?_
    rotate_left
    · (intro wS hSw; go_simp; try (with_reducible rfl))
    simp only [Act.put, List.setIfInBounds_toArray, List.set_cons_zero, List.set_cons_succ]
    refine kept_take (i := 3) (d := some 60) (fuel := 44) (listed' := #[true, true, true, true, false, false, false, false, false, false, false, false, false, false, false, false, false, false, false, false, false, false, false, false, false, false, false, false, false, false, false, false, false, false, false, false, false, false, false, false, false, false, false, false, false, false, false, false]) (v := ?_) rfl rfl (by kernel_rfl) (by kernel_rfl) (by kernel_rfl) rfl (fun _ _ _ h => h) (by rfl) ?_ ?_
    rotate_left
    · (intro wS hSw; go_simp; try (with_reducible rfl))
    simp only [Act.put, List.setIfInBounds_toArray, List.set_cons_zero, List.set_cons_succ]
    refine kept_take (i := 4) (d := some 61) (fuel := 43) (listed' := #[true, true, true, true, true, false, false, false, false, false, false, false, false, false, false, false, false, false, false, false, false, false, false, false, false, false, false, false, false, false, false, false, false, false, false, false, false, false, false, false, false, false, false, false, false, false, false, false]) (v := ?_) rfl rfl (by kernel_rfl) (by kernel_rfl) (by kernel_rfl) rfl (fun _ _ _ h => h) (by rfl) ?_ ?_
    rotate_left
    · (intro wS hSw; go_simp; try (with_reducible rfl))
    simp only [Act.put, List.setIfInBounds_toArray, List.set_cons_zero, List.set_cons_succ]
    refine kept_take (i := 5) (d := some 62) (fuel := 42) (listed' := #[true, true, true, true, true, true, false, false, false, false, false, false, false, false, false, false, false, false, false, false, false, false, false, false, false, false, false, false, false, false, false, false, false, false, false, false, false, false, false, false, false, false, false, false, false, false, false, false]) (v := ?_) rfl rfl (by kernel_rfl) (by kernel_rfl) (by kernel_rfl) rfl (fun _ _ _ h => h) (by rfl) ?_ ?_
    rotate_left
    · (intro wS hSw; go_simp; try (with_reducible rfl))
    simp only [Act.put, List.setIfInBounds_toArray, List.set_cons_zero, List.set_cons_succ]
    refine kept_take (i := 6) (d := some 63) (fuel := 41) (listed' := #[true, true, true, true, true, true, true, false, false, false, false, false, false, false, false, false, false, false, false, false, false, false, false, false, false, false, false, false, false, false, false, false, false, false, false, false, false, false, false, false, false, false, false, false, false, false, false, false]) (v := ?_) rfl rfl (by kernel_rfl) (by kernel_rfl) (by kernel_rfl) rfl (fun _ _ _ h => h) (by rfl) ?_ ?_
    rotate_left
    · (intro wS hSw; go_simp; try (with_reducible rfl))
    simp only [Act.put, List.setIfInBounds_toArray, List.set_cons_zero, List.set_cons_succ]
    refine kept_take (i := 7) (d := some 64) (fuel := 40) (listed' := #[true, true, true, true, true, true, true, true, false, false, false, false, false, false, false, false, false, false, false, false, false, false, false, false, false, false, false, false, false, false, false, false, false, false, false, false, false, false, false, false, false, false, false, false, false, false, false, false]) (v := ?_) rfl rfl (by kernel_rfl) (by kernel_rfl) (by kernel_rfl) rfl (fun _ _ _ h => h) (by rfl) ?_ ?_
    rotate_left
    · (intro wS hSw; go_simp; try (with_reducible rfl))
    simp only [Act.put, List.setIfInBounds_toArray, List.set_cons_zero, List.set_cons_succ]
    refine kept_take (i := 8) (d := some 65) (fuel := 39) (listed' := #[true, true, true, true, true, true, true, true, true, false, false, false, false, false, false, false, false, false, false, false, false, false, false, false, false, false, false, false, false, false, false, false, false, false, false, false, false, false, false, false, false, false, false, false, false, false, false, false]) (v := ?_) rfl rfl (by kernel_rfl) (by kernel_rfl) (by kernel_rfl) rfl (fun _ _ _ h => h) (by rfl) ?_ ?_
    rotate_left
    · (intro wS hSw; go_simp; try (with_reducible rfl))
    simp only [Act.put, List.setIfInBounds_toArray, List.set_cons_zero, List.set_cons_succ]
    refine kept_take (i := 9) (d := some 66) (fuel := 38) (listed' := #[true, true, true, true, true, true, true, true, true, true, false, false, false, false, false, false, false, false, false, false, false, false, false, false, false, false, false, false, false, false, false, false, false, false, false, false, false, false, false, false, false, false, false, false, false, false, false, false]) (v := ?_) rfl rfl (by kernel_rfl) (by kernel_rfl) (by kernel_rfl) rfl (fun _ _ _ h => h) (by rfl) ?_ ?_
    rotate_left
    · (intro wS hSw; go_simp; try (with_reducible rfl))
    simp only [Act.put, List.setIfInBounds_toArray, List.set_cons_zero, List.set_cons_succ]
    refine kept_take (i := 10) (d := some 67) (fuel := 37) (listed' := #[true, true, true, true, true, true, true, true, true, true, true, false, false, false, false, false, false, false, false, false, false, false, false, false, false, false, false, false, false, false, false, false, false, false, false, false, false, false, false, false, false, false, false, false, false, false, false, false]) (v := ?_) rfl rfl (by kernel_rfl) (by kernel_rfl) (by kernel_rfl) rfl (fun _ _ _ h => h) (by rfl) ?_ ?_
    rotate_left
    · (intro wS hSw; go_simp; try (with_reducible rfl))
    simp only [Act.put, List.setIfInBounds_toArray, List.set_cons_zero, List.set_cons_succ]
    refine kept_take (i := 11) (d := some 68) (fuel := 36) (listed' := #[true, true, true, true, true, true, true, true, true, true, true, true, false, false, false, false, false, false, false, false, false, false, false, false, false, false, false, false, false, false, false, false, false, false, false, false, false, false, false, false, false, false, false, false, false, false, false, false]) (v := ?_) rfl rfl (by kernel_rfl) (by kernel_rfl) (by kernel_rfl) rfl (fun _ _ _ h => h) (by rfl) ?_ ?_
    rotate_left
    · (intro wS hSw; go_simp; try (with_reducible rfl))
    simp only [Act.put, List.setIfInBounds_toArray, List.set_cons_zero, List.set_cons_succ]
    refine kept_take (i := 12) (d := some 69) (fuel := 35) (listed' := #[true, true, true, true, true, true, true, true, true, true, true, true, true, false, false, false, false, false, false, false, false, false, false, false, false, false, false, false, false, false, false, false, false, false, false, false, false, false, false, false, false, false, false, false, false, false, false, false]) (v := ?_) rfl rfl (by kernel_rfl) (by kernel_rfl) (by kernel_rfl) rfl (fun _ _ _ h => h) (by rfl) ?_ ?_
    rotate_left
    · (intro wS hSw; have hz := (fun W (hW : Below _ _ W) => HF.out W (Below.of _ _ _ HQ1.out hW)) wS hSw; go_simp; try (with_reducible rfl))
    simp only [Act.put, List.setIfInBounds_toArray, List.set_cons_zero, List.set_cons_succ]
    refine kept_take (i := 13) (d := some 70) (fuel := 34) (listed' := #[true, true, true, true, true, true, true, true, true, true, true, true, true, true, false, false, false, false, false, false, false, false, false, false, false, false, false, false, false, false, false, false, false, false, false, false, false, false, false, false, false, false, false, false, false, false, false, false]) (v := ?_) rfl rfl (by kernel_rfl) (by kernel_rfl) (by kernel_rfl) rfl (fun _ _ _ h => h) (by rfl) ?_ ?_
    rotate_left
    · (intro wS hSw; go_simp; try (with_reducible rfl))
    simp only [Act.put, List.setIfInBounds_toArray, List.set_cons_zero, List.set_cons_succ]
    refine kept_take (i := 14) (d := some 71) (fuel := 33) (listed' := #[true, true, true, true, true, true, true, true, true, true, true, true, true, true, true, false, false, false, false, false, false, false, false, false, false, false, false, false, false, false, false, false, false, false, false, false, false, false, false, false, false, false, false, false, false, false, false, false]) (v := ?_) rfl rfl (by kernel_rfl) (by kernel_rfl) (by kernel_rfl) rfl (fun _ _ _ h => h) (by rfl) ?_ ?_
    rotate_left
    · (intro wS hSw; go_simp; try (with_reducible rfl))
    simp only [Act.put, List.setIfInBounds_toArray, List.set_cons_zero, List.set_cons_succ]
    refine kept_take (i := 15) (d := some 72) (fuel := 32) (listed' := #[true, true, true, true, true, true, true, true, true, true, true, true, true, true, true, true, false, false, false, false, false, false, false, false, false, false, false, false, false, false, false, false, false, false, false, false, false, false, false, false, false, false, false, false, false, false, false, false]) (v := ?_) rfl rfl (by kernel_rfl) (by kernel_rfl) (by kernel_rfl) rfl (fun _ _ _ h => h) (by rfl) ?_ ?_
    rotate_left
    · (intro wS hSw; go_simp; try (with_reducible rfl))
    simp only [Act.put, List.setIfInBounds_toArray, List.set_cons_zero, List.set_cons_succ]
    refine kept_take (i := 16) (d := some 73) (fuel := 31) (listed' := #[true, true, true, true, true, true, true, true, true, true, true, true, true, true, true, true, true, false, false, false, false, false, false, false, false, false, false, false, false, false, false, false, false, false, false, false, false, false, false, false, false, false, false, false, false, false, false, false]) (v := ?_) rfl rfl (by kernel_rfl) (by kernel_rfl) (by kernel_rfl) rfl (fun _ _ _ h => h) (by rfl) ?_ ?_
    rotate_left
    · (intro wS hSw; go_simp; try (with_reducible rfl))
    simp only [Act.put, List.setIfInBounds_toArray, List.set_cons_zero, List.set_cons_succ]
    refine kept_take (i := 17) (d := some 74) (fuel := 30) (listed' := #[true, true, true, true, true, true, true, true, true, true, true, true, true, true, true, true, true, true, false, false, false, false, false, false, false, false, false, false, false, false, false, false, false, false, false, false, false, false, false, false, false, false, false, false, false, false, false, false]) (v := ?_) rfl rfl (by kernel_rfl) (by kernel_rfl) (by kernel_rfl) rfl (fun _ _ _ h => h) (by rfl) ?_ ?_
    rotate_left
    · (intro wS hSw; go_simp; try (with_reducible rfl))
    simp only [Act.put, List.setIfInBounds_toArray, List.set_cons_zero, List.set_cons_succ]
    refine kept_call (i := 18) (d := some 75) (fuel := 29) (listed' := #[true, true, true, true, true, true, true, true, true, true, true, true, true, true, true, true, true, true, true, false, false, false, false, false, false, false, false, false, false, false, false, false, false, false, false, false, false, false, false, false, false, false, false, false, false, false, false, false]) rfl rfl (by kernel_rfl) rfl (by rfl) (fun K hK => ?_)
    go_simp
    refine (num_any _ _).mono ?_
    rintro e wq2 ⟨rfl, hstep⟩
    have HQ2 := Lib.hid (Below.of _ _ _ HQ1.out hstep)
    go_wp2_with fail
    refine hK.out _ _ hstep hstep.size ?_
    clear hK K
    simp only [Act.put, List.setIfInBounds_toArray, List.set_cons_zero, List.set_cons_succ]
    refine kept_take (i := 19) (d := some 76) (fuel := 28) (listed' := #[true, true, true, true, true, true, true, true, true, true, true, true, true, true, true, true, true, true, true, true, false, false, false, false, false, false, false, false, false, false, false, false, false, false, false, false, false, false, false, false, false, false, false, false, false, false, false, false]) (v := ?_) rfl rfl (by kernel_rfl) (by kernel_rfl) (by kernel_rfl) rfl (fun _ _ _ h => h) (by rfl) ?_ ?_
    rotate_left
    · (intro wS hSw; go_simp; try (with_reducible rfl))
    simp only [Act.put, List.setIfInBounds_toArray, List.set_cons_zero, List.set_cons_succ]
    refine kept_take (i := 20) (d := some 77) (fuel := 27) (listed' := #[true, true, true, true, true, true, true, true, true, true, true, true, true, true, true, true, true, true, true, true, true, false, false, false, false, false, false, false, false, false, false, false, false, false, false, false, false, false, false, false, false, false, false, false, false, false, false, false]) (v := ?_) rfl rfl (by kernel_rfl) (by kernel_rfl) (by kernel_rfl) rfl (fun _ _ _ h => h) (by rfl) ?_ ?_
    rotate_left
    · (intro wS hSw; go_simp; try (with_reducible rfl))
    simp only [Act.put, List.setIfInBounds_toArray, List.set_cons_zero, List.set_cons_succ]
    refine kept_take (i := 21) (d := some 78) (fuel := 26) (listed' := #[true, true, true, true, true, true, true, true, true, true, true, true, true, true, true, true, true, true, true, true, true, true, false, false, false, false, false, false, false, false, false, false, false, false, false, false, false, false, false, false, false, false, false, false, false, false, false, false]) (v := ?_) rfl rfl (by kernel_rfl) (by kernel_rfl) (by kernel_rfl) rfl (fun _ _ _ h => h) (by rfl) ?_ ?_
    rotate_left
    · (intro wS hSw; go_simp; try (with_reducible rfl))
    simp only [Act.put, List.setIfInBounds_toArray, List.set_cons_zero, List.set_cons_succ]
    refine kept_take (i := 22) (d := some 79) (fuel := 25) (listed' := #[true, true, true, true, true, true, true, true, true, true, true, true, true, true, true, true, true, true, true, true, true, true, true, false, false, false, false, false, false, false, false, false, false, false, false, false, false, false, false, false, false, false, false, false, false, false, false, false]) (v := ?_) rfl rfl (by kernel_rfl) (by kernel_rfl) (by kernel_rfl) rfl (fun _ _ _ h => h) (by rfl) ?_ ?_
    rotate_left
    · (intro wS hSw; go_simp; try (with_reducible rfl))
    simp only [Act.put, List.setIfInBounds_toArray, List.set_cons_zero, List.set_cons_succ]
    refine kept_call (i := 23) (d := some 80) (fuel := 24) (listed' := #[true, true, true, true, true, true, true, true, true, true, true, true, true, true, true, true, true, true, true, true, true, true, true, true, false, false, false, false, false, false, false, false, false, false, false, false, false, false, false, false, false, false, false, false, false, false, false, false]) rfl rfl (by kernel_rfl) rfl (by rfl) (fun K hK => ?_)
    go_simp
    refine (num_any _ _).mono ?_
    rintro e wq3 ⟨rfl, hstep⟩
    have HQ3 := Lib.hid (Below.of _ _ _ HQ2.out hstep)
    go_wp2_with fail
    refine hK.out _ _ hstep hstep.size ?_
    clear hK K
    simp only [Act.put, List.setIfInBounds_toArray, List.set_cons_zero, List.set_cons_succ]
    refine kept_take (i := 24) (d := some 81) (fuel := 23) (listed' := #[true, true, true, true, true, true, true, true, true, true, true, true, true, true, true, true, true, true, true, true, true, true, true, true, true, false, false, false, false, false, false, false, false, false, false, false, false, false, false, false, false, false, false, false, false, false, false, false]) (v := ?_) rfl rfl (by kernel_rfl) (by kernel_rfl) (by kernel_rfl) rfl (fun _ _ _ h => h) (by rfl) ?_ ?_
    rotate_left
    · (intro wS hSw; go_simp; try (with_reducible rfl))
    simp only [Act.put, List.setIfInBounds_toArray, List.set_cons_zero, List.set_cons_succ]
    refine kept_take (i := 25) (d := some 82) (fuel := 22) (listed' := #[true, true, true, true, true, true, true, true, true, true, true, true, true, true, true, true, true, true, true, true, true, true, true, true, true, true, false, false, false, false, false, false, false, false, false, false, false, false, false, false, false, false, false, false, false, false, false, false]) (v := ?_) rfl rfl (by kernel_rfl) (by kernel_rfl) (by kernel_rfl) rfl (fun _ _ _ h => h) (by rfl) ?_ ?_
    rotate_left
    · (intro wS hSw; go_simp; try (with_reducible rfl))
    simp only [Act.put, List.setIfInBounds_toArray, List.set_cons_zero, List.set_cons_succ]
    refine kept_take (i := 26) (d := some 83) (fuel := 21) (listed' := #[true, true, true, true, true, true, true, true, true, true, true, true, true, true, true, true, true, true, true, true, true, true, true, true, true, true, true, false, false, false, false, false, false, false, false, false, false, false, false, false, false, false, false, false, false, false, false, false]) (v := ?_) rfl rfl (by kernel_rfl) (by kernel_rfl) (by kernel_rfl) rfl (fun _ _ _ h => h) (by rfl) ?_ ?_
    rotate_left
    · (intro wS hSw; go_simp; try (with_reducible rfl))
    simp only [Act.put, List.setIfInBounds_toArray, List.set_cons_zero, List.set_cons_succ]
    refine kept_take (i := 27) (d := some 84) (fuel := 20) (listed' := #[true, true, true, true, true, true, true, true, true, true, true, true, true, true, true, true, true, true, true, true, true, true, true, true, true, true, true, true, false, false, false, false, false, false, false, false, false, false, false, false, false, false, false, false, false, false, false, false]) (v := ?_) rfl rfl (by kernel_rfl) (by kernel_rfl) (by kernel_rfl) rfl (fun _ _ _ h => h) (by rfl) ?_ ?_
    rotate_left
    · (intro wS hSw; go_simp; try (with_reducible rfl))
    simp only [Act.put, List.setIfInBounds_toArray, List.set_cons_zero, List.set_cons_succ]
    refine kept_call (i := 28) (d := some 85) (fuel := 19) (listed' := #[true, true, true, true, true, true, true, true, true, true, true, true, true, true, true, true, true, true, true, true, true, true, true, true, true, true, true, true, true, false, false, false, false, false, false, false, false, false, false, false, false, false, false, false, false, false, false, false]) rfl rfl (by kernel_rfl) rfl (by rfl) (fun K hK => ?_)
    go_simp
    refine (num_any _ _).mono ?_
    rintro e wq4 ⟨rfl, hstep⟩
    have HQ4 := Lib.hid (Below.of _ _ _ HQ3.out hstep)
    go_wp2_with fail
    refine hK.out _ _ hstep hstep.size ?_
    clear hK K
    simp only [Act.put, List.setIfInBounds_toArray, List.set_cons_zero, List.set_cons_succ]
    refine kept_take (i := 29) (d := some 86) (fuel := 18) (listed' := #[true, true, true, true, true, true, true, true, true, true, true, true, true, true, true, true, true, true, true, true, true, true, true, true, true, true, true, true, true, true, false, false, false, false, false, false, false, false, false, false, false, false, false, false, false, false, false, false]) (v := ?_) rfl rfl (by kernel_rfl) (by kernel_rfl) (by kernel_rfl) rfl (fun _ _ _ h => h) (by rfl) ?_ ?_
    rotate_left
    · (intro wS hSw; go_simp; try (with_reducible rfl))
    simp only [Act.put, List.setIfInBounds_toArray, List.set_cons_zero, List.set_cons_succ]
    refine kept_take (i := 30) (d := some 87) (fuel := 17) (listed' := #[true, true, true, true, true, true, true, true, true, true, true, true, true, true, true, true, true, true, true, true, true, true, true, true, true, true, true, true, true, true, true, false, false, false, false, false, false, false, false, false, false, false, false, false, false, false, false, false]) (v := ?_) rfl rfl (by kernel_rfl) (by kernel_rfl) (by kernel_rfl) rfl (fun _ _ _ h => h) (by rfl) ?_ ?_
    rotate_left
    · (intro wS hSw; go_simp; try (with_reducible rfl))
    simp only [Act.put, List.setIfInBounds_toArray, List.set_cons_zero, List.set_cons_succ]
    refine kept_take (i := 31) (d := some 88) (fuel := 16) (listed' := #[true, true, true, true, true, true, true, true, true, true, true, true, true, true, true, true, true, true, true, true, true, true, true, true, true, true, true, true, true, true, true, true, false, false, false, false, false, false, false, false, false, false, false, false, false, false, false, false]) (v := ?_) rfl rfl (by kernel_rfl) (by kernel_rfl) (by kernel_rfl) rfl (fun _ _ _ h => h) (by rfl) ?_ ?_
    rotate_left
    · (intro wS hSw; go_simp; try (with_reducible rfl))
    simp only [Act.put, List.setIfInBounds_toArray, List.set_cons_zero, List.set_cons_succ]
    refine kept_take (i := 32) (d := some 89) (fuel := 15) (listed' := #[true, true, true, true, true, true, true, true, true, true, true, true, true, true, true, true, true, true, true, true, true, true, true, true, true, true, true, true, true, true, true, true, true, false, false, false, false, false, false, false, false, false, false, false, false, false, false, false]) (v := ?_) rfl rfl (by kernel_rfl) (by kernel_rfl) (by kernel_rfl) rfl (fun _ _ _ h => h) (by rfl) ?_ ?_
    rotate_left
    · (intro wS hSw; go_simp; try (with_reducible rfl))
    simp only [Act.put, List.setIfInBounds_toArray, List.set_cons_zero, List.set_cons_succ]
    refine kept_take (i := 33) (d := some 90) (fuel := 14) (listed' := #[true, true, true, true, true, true, true, true, true, true, true, true, true, true, true, true, true, true, true, true, true, true, true, true, true, true, true, true, true, true, true, true, true, true, false, false, false, false, false, false, false, false, false, false, false, false, false, false]) (v := ?_) rfl rfl (by kernel_rfl) (by kernel_rfl) (by kernel_rfl) rfl (fun _ _ _ h => h) (by rfl) ?_ ?_
    rotate_left
    · (intro wS hSw; go_simp; try (with_reducible rfl))
    simp only [Act.put, List.setIfInBounds_toArray, List.set_cons_zero, List.set_cons_succ]
    refine kept_take (i := 34) (d := some 91) (fuel := 13) (listed' := #[true, true, true, true, true, true, true, true, true, true, true, true, true, true, true, true, true, true, true, true, true, true, true, true, true, true, true, true, true, true, true, true, true, true, true, false, false, false, false, false, false, false, false, false, false, false, false, false]) (v := ?_) rfl rfl (by kernel_rfl) (by kernel_rfl) (by kernel_rfl) rfl (fun _ _ _ h => h) (by rfl) ?_ ?_
    rotate_left
    · (intro wS hSw; go_simp; try (with_reducible rfl))
    simp only [Act.put, List.setIfInBounds_toArray, List.set_cons_zero, List.set_cons_succ]
    refine kept_take (i := 35) (d := some 92) (fuel := 12) (listed' := #[true, true, true, true, true, true, true, true, true, true, true, true, true, true, true, true, true, true, true, true, true, true, true, true, true, true, true, true, true, true, true, true, true, true, true, true, false, false, false, false, false, false, false, false, false, false, false, false]) (v := ?_) rfl rfl (by kernel_rfl) (by kernel_rfl) (by kernel_rfl) rfl (fun _ _ _ h => h) (by rfl) ?_ ?_
    rotate_left
    · (intro wS hSw; go_simp; try (with_reducible rfl))
    simp only [Act.put, List.setIfInBounds_toArray, List.set_cons_zero, List.set_cons_succ]
    refine kept_take (i := 36) (d := some 93) (fuel := 11) (listed' := #[true, true, true, true, true, true, true, true, true, true, true, true, true, true, true, true, true, true, true, true, true, true, true, true, true, true, true, true, true, true, true, true, true, true, true, true, true, false, false, false, false, false, false, false, false, false, false, false]) (v := ?_) rfl rfl (by kernel_rfl) (by kernel_rfl) (by kernel_rfl) rfl (fun _ _ _ h => h) (by rfl) ?_ ?_
    rotate_left
    · (intro wS hSw; go_simp; try (with_reducible rfl))
    simp only [Act.put, List.setIfInBounds_toArray, List.set_cons_zero, List.set_cons_succ]
    refine kept_take (i := 37) (d := some 94) (fuel := 10) (listed' := #[true, true, true, true, true, true, true, true, true, true, true, true, true, true, true, true, true, true, true, true, true, true, true, true, true, true, true, true, true, true, true, true, true, true, true, true, true, true, false, false, false, false, false, false, false, false, false, false]) (v := ?_) rfl rfl (by kernel_rfl) (by kernel_rfl) (by kernel_rfl) rfl (fun _ _ _ h => h) (by rfl) ?_ ?_
    rotate_left
    · (intro wS hSw; go_simp; try (with_reducible rfl))
    simp only [Act.put, List.setIfInBounds_toArray, List.set_cons_zero, List.set_cons_succ]
    refine kept_take (i := 38) (d := some 95) (fuel := 9) (listed' := #[true, true, true, true, true, true, true, true, true, true, true, true, true, true, true, true, true, true, true, true, true, true, true, true, true, true, true, true, true, true, true, true, true, true, true, true, true, true, true, false, false, false, false, false, false, false, false, false]) (v := ?_) rfl rfl (by kernel_rfl) (by kernel_rfl) (by kernel_rfl) rfl (fun _ _ _ h => h) (by rfl) ?_ ?_
    rotate_left
    · (intro wS hSw; go_simp; try (with_reducible rfl))
    simp only [Act.put, List.setIfInBounds_toArray, List.set_cons_zero, List.set_cons_succ]
    refine kept_take (i := 39) (d := some 96) (fuel := 8) (listed' := #[true, true, true, true, true, true, true, true, true, true, true, true, true, true, true, true, true, true, true, true, true, true, true, true, true, true, true, true, true, true, true, true, true, true, true, true, true, true, true, true, false, false, false, false, false, false, false, false]) (v := ?_) rfl rfl (by kernel_rfl) (by kernel_rfl) (by kernel_rfl) rfl (fun _ _ _ h => h) (by rfl) ?_ ?_
    rotate_left
    · (intro wS hSw; go_simp; try (with_reducible rfl))
    simp only [Act.put, List.setIfInBounds_toArray, List.set_cons_zero, List.set_cons_succ]
    refine kept_take (i := 40) (d := some 97) (fuel := 7) (listed' := #[true, true, true, true, true, true, true, true, true, true, true, true, true, true, true, true, true, true, true, true, true, true, true, true, true, true, true, true, true, true, true, true, true, true, true, true, true, true, true, true, true, false, false, false, false, false, false, false]) (v := ?_) rfl rfl (by kernel_rfl) (by kernel_rfl) (by kernel_rfl) rfl (fun _ _ _ h => h) (by rfl) ?_ ?_
    rotate_left
    · (intro wS hSw; have hz := (fun W (hW : Below _ _ W) => HF.out W (Below.of _ _ _ HQ4.out hW)) wS hSw; go_simp; try (with_reducible rfl))
    simp only [Act.put, List.setIfInBounds_toArray, List.set_cons_zero, List.set_cons_succ]
    refine kept_take (i := 41) (d := some 98) (fuel := 6) (listed' := #[true, true, true, true, true, true, true, true, true, true, true, true, true, true, true, true, true, true, true, true, true, true, true, true, true, true, true, true, true, true, true, true, true, true, true, true, true, true, true, true, true, true, false, false, false, false, false, false]) (v := ?_) rfl rfl (by kernel_rfl) (by kernel_rfl) (by kernel_rfl) rfl (fun _ _ _ h => h) (by rfl) ?_ ?_
    rotate_left
    · (intro wS hSw; have hz := (fun W (hW : Below _ _ W) => HF.out W (Below.of _ _ _ HQ4.out hW)) wS hSw; go_simp; try (with_reducible rfl))
    simp only [Act.put, List.setIfInBounds_toArray, List.set_cons_zero, List.set_cons_succ]
    refine kept_take (i := 42) (d := some 99) (fuel := 5) (listed' := #[true, true, true, true, true, true, true, true, true, true, true, true, true, true, true, true, true, true, true, true, true, true, true, true, true, true, true, true, true, true, true, true, true, true, true, true, true, true, true, true, true, true, true, false, false, false, false, false]) (v := ?_) rfl rfl (by kernel_rfl) (by kernel_rfl) (by kernel_rfl) rfl (fun _ _ _ h => h) (by rfl) ?_ ?_
    rotate_left
    · (intro wS hSw; go_simp; try (with_reducible rfl))
    simp only [Act.put, List.setIfInBounds_toArray, List.set_cons_zero, List.set_cons_succ]
    refine kept_take (i := 43) (d := some 100) (fuel := 4) (listed' := #[true, true, true, true, true, true, true, true, true, true, true, true, true, true, true, true, true, true, true, true, true, true, true, true, true, true, true, true, true, true, true, true, true, true, true, true, true, true, true, true, true, true, true, true, false, false, false, false]) (v := ?_) rfl rfl (by kernel_rfl) (by kernel_rfl) (by kernel_rfl) rfl (fun _ _ _ h => h) (by rfl) ?_ ?_
    rotate_left
    · (intro wS hSw; go_simp; try (with_reducible rfl))
    simp only [Act.put, List.setIfInBounds_toArray, List.set_cons_zero, List.set_cons_succ]
    refine kept_take (i := 44) (d := some 101) (fuel := 3) (listed' := #[true, true, true, true, true, true, true, true, true, true, true, true, true, true, true, true, true, true, true, true, true, true, true, true, true, true, true, true, true, true, true, true, true, true, true, true, true, true, true, true, true, true, true, true, true, false, false, false]) (v := ?_) rfl rfl (by kernel_rfl) (by kernel_rfl) (by kernel_rfl) rfl (fun _ _ _ h => h) (by rfl) ?_ ?_
    rotate_left
    · (intro wS hSw; go_simp; try (with_reducible rfl))
    simp only [Act.put, List.setIfInBounds_toArray, List.set_cons_zero, List.set_cons_succ]
    refine kept_call (i := 45) (d := some 102) (fuel := 2) (listed' := #[true, true, true, true, true, true, true, true, true, true, true, true, true, true, true, true, true, true, true, true, true, true, true, true, true, true, true, true, true, true, true, true, true, true, true, true, true, true, true, true, true, true, true, true, true, true, false, false]) rfl rfl (by kernel_rfl) rfl (by rfl) (fun K hK => ?_)
    go_simp
    refine (lexAwake_any _ (HV.out.below (HB.out.trans (HQ4.out.mono HB.out.size)))).mono ?_
    rintro e wq5 ⟨rfl, hstep⟩
    have HQ5 := Lib.hid (Below.of _ _ _ HQ4.out hstep)
    go_wp2_with fail
    refine hK.out _ _ hstep hstep.size ?_
    clear hK K
    simp only [Act.put, List.setIfInBounds_toArray, List.set_cons_zero, List.set_cons_succ]
    refine kept_take (i := 46) (d := some 103) (fuel := 1) (listed' := #[true, true, true, true, true, true, true, true, true, true, true, true, true, true, true, true, true, true, true, true, true, true, true, true, true, true, true, true, true, true, true, true, true, true, true, true, true, true, true, true, true, true, true, true, true, true, true, false]) (v := ?_) rfl rfl (by kernel_rfl) (by kernel_rfl) (by kernel_rfl) rfl (fun _ _ _ h => h) (by rfl) ?_ ?_
    rotate_left
    · (intro wS hSw; go_simp; try (with_reducible rfl))
    simp only [Act.put, List.setIfInBounds_toArray, List.set_cons_zero, List.set_cons_succ]
    refine kept_take (i := 47) (d := some 6) (fuel := 0) (listed' := #[true, true, true, true, true, true, true, true, true, true, true, true, true, true, true, true, true, true, true, true, true, true, true, true, true, true, true, true, true, true, true, true, true, true, true, true, true, true, true, true, true, true, true, true, true, true, true, true]) (v := ?_) rfl rfl (by kernel_rfl) (by kernel_rfl) (by kernel_rfl) rfl (fun _ _ _ h => h) (by rfl) ?_ ?_
    rotate_left
    · (intro wS hSw; go_simp; try (with_reducible rfl))
    simp only [Act.put, List.setIfInBounds_toArray, List.set_cons_zero, List.set_cons_succ]
    refine wpAnyH_done (by kernel_rfl) ?_ _
    go_wp2_with fail
    go_ret
    exact ⟨rfl, HB.out.trans (HQ5.out.mono HB.out.size)⟩
end Go.Proofs.YtdapnipodnhpkaaDoor
