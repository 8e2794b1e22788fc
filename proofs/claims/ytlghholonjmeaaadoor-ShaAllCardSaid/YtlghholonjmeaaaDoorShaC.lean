/-
  sha.mixBlocks: the state behind whole blocks.
-/
import Derived.Test.YtlghholonjmeaaaDoorShaB
namespace Go.Proofs.YtlghholonjmeaaaDoor
open Go.RowKit

/-- The state behind so many blocks. -/
def comps (s : List Int) (y : Nat → Int) : Nat → List Int
  | 0 => s
  | n + 1 => comp (comps s y n) (fun j => y (64 * n + j))
theorem length_rounds (s ws : List Int) (h : s.length = 8) (k : Nat) : (rounds s ws k).length = 8 := by
  induction k with
  | zero => exact h
  | succ k ih =>
    rw [rounds]
    match rounds s ws k, ih with
    | [a, b, c, d, e, f, g, z], _ => rfl
theorem length_comp (s : List Int) (x : Nat → Int) (h : s.length = 8) : (comp s x).length = 8 := by
  unfold comp; rw [List.length_zipWith, length_rounds _ _ h, h]; rfl
theorem length_comps (s : List Int) (y : Nat → Int) (h : s.length = 8) (k : Nat) : (comps s y k).length = 8 := by
  induction k with
  | zero => exact h
  | succ k ih => rw [comps]; exact length_comp _ _ ih
theorem comp_bd (s : List Int) (x : Nat → Int) : ∀ a ∈ comp s x, W32 a := by
  unfold comp
  intro a ha
  rw [List.mem_iff_getElem] at ha
  obtain ⟨i, hi, rfl⟩ := ha
  rw [List.getElem_zipWith]; exact W32_mod _
theorem comps_bd (s : List Int) (y : Nat → Int) (h : ∀ a ∈ s, W32 a) (k : Nat) : ∀ a ∈ comps s y k, W32 a := by
  cases k with
  | zero => exact h
  | succ k => rw [comps]; exact comp_bd _ _
theorem eight {l : List Int} (h : l.length = 8) : ∃ a b c d e f g z, l = [a, b, c, d, e, f, g, z] := by
  match l, h with
  | [a, b, c, d, e, f, g, z], _ => exact ⟨a, b, c, d, e, f, g, z, rfl⟩

attribute [irreducible] comps

set_option maxRecDepth 100000 in
set_option maxHeartbeats 400000 in
theorem mixBlocks_any (b off len cap : Nat) (y : Nat → Int) (s : List Int) (w : World) (_hlc : len ≤ cap) (_hmax : len ≤ 9223372036854775000)
    (_hb : b < w.heap.size) (hy : ∀ j, 0 ≤ y j ∧ y j ≤ 255) (hc : ∀ j, j < len → w.cell? ⟨b, off + j, none⟩ = some (.int .u8 (y j)))
    (hs : s.length = 8) (hsb : ∀ a ∈ s, W32 a) (_hg : 1 < w.heap.size) (hk : ∀ j, j < 64 → w.cell? ⟨1, j, none⟩ = some (.int .u32 (kn.getD j 0))) :
    Calls Tryd.prog 20 #[.agg (U s).toArray, .slice (some ⟨b, off, none⟩) len cap] w fun e w' => e = .returned (.agg (U (comps s y (len / 64))).toArray) ∧ Below w.heap.size w w' := by
  have HY := Lib.hid hy; clear hy
  have HC := Lib.hid hc; clear hc
  have HK := Lib.hid hk; clear hk
  have hcl : ∀ k, (comps s y k).length = 8 := length_comps s y hs
  have hcb : ∀ k, ∀ a ∈ comps s y k, W32 a := comps_bd s y hsb
  have HCL := Lib.hid hcl; clear hcl
  have HCB := Lib.hid hcb; clear hcb
  have hs0 : comps s y 0 = s := by rw [comps]
  obtain ⟨s0, s1, s2, s3, s4, s5, s6, s7, hs8⟩ := eight hs
  have hv : (Value.agg (U s).toArray) = .agg #[.int .u32 s0, .int .u32 s1, .int .u32 s2, .int .u32 s3, .int .u32 s4, .int .u32 s5, .int .u32 s6, .int .u32 s7] := by rw [hs8]; rfl
  rw [hv]
  have HS0 := Lib.hid (hs0.trans hs8); clear hs0 hs8 hv hsb hs
  go_enter Tryd.func20, Tryd.ntmps20
  go_wp2
  go_loopw [5] (fun i wr => ∃ k m : Nat, Hid (m = 64 * k) ∧ m ≤ len ∧ i = .int .i64 (m : Int) ∧ Arr wr w.heap.size 39 (comps s y k) ∧ Arr wr (w.heap.size + 1) 39 [0, 0, 0, 0, 0, 0, 0, 0] ∧ Below w.heap.size w wr)
    (fun i _ => len - (intOf i).toNat)
  case atStart => exact ⟨0, 0, Lib.hid rfl, Nat.zero_le _, rfl, by unfold Arr; rw [heap_alloc2_old, HS0.out]; rfl, by unfold Arr; rw [heap_alloc2_new]; rfl, ((Below.refl _ _).alloc (Nat.le_refl _) _).alloc (by simp) _⟩
  case round =>
    obtain ⟨k, m, HM, hk, rfl, a1, a2, hbl⟩ := hrel
    obtain ⟨c0, c1, c2, c3, c4, c5, c6, c7, h8⟩ := eight (HCL.out k)
    rw [h8] at a1
    have A1 := Lib.hid a1; clear a1
    have A2 := Lib.hid a2; clear a2
    have HB := Lib.hid hbl; clear hbl
    have H8 := Lib.hid h8; clear h8
    have k0 := A1.out.cell 0 (by simp)
    have k1 := A1.out.cell 1 (by simp)
    have k2 := A1.out.cell 2 (by simp)
    have k3 := A1.out.cell 3 (by simp)
    have k4 := A1.out.cell 4 (by simp)
    have k5 := A1.out.cell 5 (by simp)
    have k6 := A1.out.cell 6 (by simp)
    have k7 := A1.out.cell 7 (by simp)
    simp only [List.getD_cons_zero, List.getD_cons_succ] at k0 k1 k2 k3 k4 k5 k6 k7
    by_cases hlt : m + 64 ≤ len
    · have i1 : (m : Int) + 64 ≤ (cap : Int) := by omega
      have i3 : (m : Int) < (cap : Int) := by omega
      have i4 : (m : Int) + 64 ≤ (len : Int) := by omega
      have i5 : (m : Int) ≤ (m : Int) + 64 := by omega
      have i6 : ((m : Int) + 64).toNat = m + 64 := by omega
      have i7 : ¬ m = cap := by omega
      have i8 : m + 64 - m = 64 := by omega
      have e1 : IntKind.i64.wrap ((m : Int) + 64) = (m : Int) + 64 := IntWalk.i64_in _ (by omega)
      go_wp2_with fail
      go_still_tail 6, (by kernel_rfl)
      clear e1 i6 i8
      change wpList _ _ _ _ _ wr.drew
      go_wp2_with fail
      obtain ⟨d0, d1, d2, d3, d4, d5, d6, d7, hd⟩ := eight (length_comp [c0, c1, c2, c3, c4, c5, c6, c7] (fun j => y (64 * k + j)) rfl)
      have hM : Calls Tryd.prog 26 #[.agg #[.int .u32 c0, .int .u32 c1, .int .u32 c2, .int .u32 c3, .int .u32 c4, .int .u32 c5, .int .u32 c6, .int .u32 c7], .slice (some ⟨b, off + m, none⟩) 64 (cap - m)] wr.drew
          fun e w' => e = .returned (.agg #[.int .u32 d0, .int .u32 d1, .int .u32 d2, .int .u32 d3, .int .u32 d4, .int .u32 d5, .int .u32 d6, .int .u32 d7]) ∧ Below wr.heap.size wr w' := by
        have hbs := HB.out.size
        have := mixBlock_any b (off + m) 64 (cap - m) (fun j => y (64 * k + j)) [c0, c1, c2, c3, c4, c5, c6, c7] wr.drew (by omega) (by omega) (by show b < wr.heap.size; omega) (fun j => HY.out _)
          (fun j hj => by
            have h1 := (HB.out.cell (p := ⟨b, off + (m + j), none⟩) _hb).trans (HC.out (m + j) (by omega))
            rw [HM.out] at h1
            rw [Nat.add_assoc, HM.out]
            exact h1) rfl (by have := HCB.out k; rw [H8.out] at this; exact this) (by show _ < wr.heap.size; omega) (fun j hj => (HB.out.cell (p := ⟨1, j, none⟩) _hg).trans (HK.out j hj))
        rw [hd] at this
        exact this.mono fun e w' ⟨h1, h2⟩ => ⟨h1, (Below.drew (Below.refl _ _)).trans h2⟩
      have HD := Lib.hid hd; clear hd
      refine hM.mono ?_
      rintro e w1 ⟨rfl, hb1⟩
      clear hM k0 k1 k2 k3 k4 k5 k6 k7
      have hlt1 : w.heap.size + 1 < wr.heap.size := A2.out.lt
      have A1b := A1.out.below hb1 (by omega)
      have A2b := A2.out.below hb1 hlt1
      have k0 := A1b.cell 0 (by simp)
      have k1 := A1b.cell 1 (by simp)
      have k2 := A1b.cell 2 (by simp)
      have k3 := A1b.cell 3 (by simp)
      have k4 := A1b.cell 4 (by simp)
      have k5 := A1b.cell 5 (by simp)
      have k6 := A1b.cell 6 (by simp)
      have k7 := A1b.cell 7 (by simp)
      simp only [List.getD_cons_zero, List.getD_cons_succ] at k0 k1 k2 k3 k4 k5 k6 k7
      have f0 := A1b.frozen 0
      have f1 := A1b.frozen 1
      have f2 := A1b.frozen 2
      have f3 := A1b.frozen 3
      have f4 := A1b.frozen 4
      have f5 := A1b.frozen 5
      have f6 := A1b.frozen 6
      have f7 := A1b.frozen 7
      have hfin : Below w.heap.size w w1 := HB.out.trans (hb1.mono (by omega))
      have HF := Lib.hid (And.intro A1b (And.intro A2b hfin)); clear A1b A2b hfin
      go_wp2
      go_roundw
      case rel =>
        obtain ⟨A1b, A2b, hfin⟩ := HF.out
        refine ⟨k + 1, m + 64, Lib.hid (by rw [HM.out]; omega), by omega, by go_num, ?_, ?_, ((((((((hfin.setCell (Nat.le_refl _) _).setCell (Nat.le_refl _) _).setCell (Nat.le_refl _) _).setCell (Nat.le_refl _) _).setCell (Nat.le_refl _) _).setCell (Nat.le_refl _) _).setCell (Nat.le_refl _) _).setCell (Nat.le_refl _) _)⟩
        · have hn : comps s y (k + 1) = [d0, d1, d2, d3, d4, d5, d6, d7] := by rw [comps, H8.out, HD.out]
          rw [hn]; exact ((((((((A1b.set 0 d0).set 1 d1).set 2 d2).set 3 d3).set 4 d4).set 5 d5).set 6 d6).set 7 d7)
        · exact ((((((((A2b.other _ _ (by simp)).other _ _ (by simp)).other _ _ (by simp)).other _ _ (by simp)).other _ _ (by simp)).other _ _ (by simp)).other _ _ (by simp)).other _ _ (by simp))
      case measure => simp [intOf]; omega
    · have i4 : ¬ (m : Int) + 64 ≤ (len : Int) := by omega
      have hi8 : (Tryd.prog.info? 39).map (fun x => x.size) = some 8 := by kernel_rfl
      have HI8 := Lib.hid hi8; clear hi8
      go_wp2_with ((with_reducible refine wpList_store_row (op := ⟨none, .store 39 (.tmp 4) (.tmp 20), _, _, _, _⟩) rfl 39 (.tmp 4) (.tmp 20) rfl (w.heap.size + 1) 39 (U [0, 0, 0, 0, 0, 0, 0, 0]).toArray (U [c0, c1, c2, c3, c4, c5, c6, c7]).toArray ?_ ?_ ?_ ?_ ?_ ?_ ?_); rfl; rfl; exact A2.out; rfl; exact HI8.out; exact oneCell_Ua _)
      refine bodyPost_ret (v := .agg (U [c0, c1, c2, c3, c4, c5, c6, c7]).toArray) (results_cell_row Tryd.results20 _ _ (w.heap.size + 1) 39 (U [c0, c1, c2, c3, c4, c5, c6, c7]).toArray (0, 0) _ rfl (A2.out.setRow _) Tryd.underlying39 rfl HI8.out) rfl ?_
      have hk : len / 64 = k := by have := HM.out; omega
      exact ⟨by rw [hk, H8.out], below_setRow HB.out (by omega) _⟩
end Go.Proofs.YtlghholonjmeaaaDoor
