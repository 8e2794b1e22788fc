/-
  sha.schedule: the words of a block.
-/
import Derived.Test.YtlghholonjmeaaaDoorHexA
namespace Go.Proofs.YtlghholonjmeaaaDoor
open Go.RowKit

def wword (x : Nat → Int) (i : Nat) : Int := word4 (x (4 * i)) (x (4 * i + 1)) (x (4 * i + 2)) (x (4 * i + 3))
def xor3 (a b c : Int) : Int := bits .xor .u32 (bits .xor .u32 a b) c
def mixw (l : List Int) (i : Nat) : Int :=
  (l.getD (i - 16) 0 + xor3 (rotw (l.getD (i - 15) 0) 7) (rotw (l.getD (i - 15) 0) 18) (l.getD (i - 15) 0 / 8) + l.getD (i - 7) 0 +
    xor3 (rotw (l.getD (i - 2) 0) 17) (rotw (l.getD (i - 2) 0) 19) (l.getD (i - 2) 0 / 1024)) % 4294967296
def sched (x : Nat → Int) : Nat → List Int
  | 0 => []
  | k + 1 => sched x k ++ [if k < 16 then wword x k else mixw (sched x k) k]
theorem length_sched (x : Nat → Int) (k : Nat) : (sched x k).length = k := by
  induction k with
  | zero => rfl
  | succ k ih => simp [sched, ih]
def pad (l : List Int) : List Int := l ++ List.replicate (64 - l.length) 0
theorem length_pad (l : List Int) (h : l.length ≤ 64) : (pad l).length = 64 := by simp [pad]; omega
theorem pad_full (l : List Int) (h : l.length = 64) : pad l = l := by simp [pad, h]
theorem pad_set (x : Nat → Int) (k : Nat) (h : k < 64) : (pad (sched x k)).set k (if k < 16 then wword x k else mixw (sched x k) k) = pad (sched x (k + 1)) := by
  unfold pad
  rw [List.set_append_right _ _ (by rw [length_sched]; omega), length_sched, Nat.sub_self, length_sched, sched, List.append_assoc]
  have e : 64 - k = (64 - (k + 1)) + 1 := by omega
  rw [e, List.replicate_succ]; rfl
theorem pad_getD (x : Nat → Int) (k i : Nat) (h : i < k) : (pad (sched x k)).getD i 0 = (sched x k).getD i 0 := by
  unfold pad; rw [List.getD_eq_getElem?_getD, List.getElem?_append_left (by rw [length_sched]; exact h), List.getD_eq_getElem?_getD]

theorem wword_bd (x : Nat → Int) (i : Nat) : 0 ≤ wword x i ∧ wword x i ≤ 4294967295 := by
  unfold wword word4 bits; rw [IntKind.wrap_u32]; omega
theorem mixw_bd (l : List Int) (i : Nat) : 0 ≤ mixw l i ∧ mixw l i ≤ 4294967295 := by unfold mixw; omega
theorem sched_bd (x : Nat → Int) (k i : Nat) : 0 ≤ (sched x k).getD i 0 ∧ (sched x k).getD i 0 ≤ 4294967295 := by
  induction k with
  | zero => simp [sched]
  | succ k ih =>
    rw [sched, List.getD_eq_getElem?_getD]
    by_cases h : i < (sched x k).length
    · rw [List.getElem?_append_left h, ← List.getD_eq_getElem?_getD]; exact ih
    · rw [List.getElem?_append_right (by omega)]
      by_cases h2 : i - (sched x k).length = 0
      · rw [h2]; simp only [List.getElem?_cons_zero, Option.getD_some]
        split
        · exact wword_bd x k
        · exact mixw_bd _ _
      · have : ([if k < 16 then wword x k else mixw (sched x k) k] : List Int)[i - (sched x k).length]? = none := by
          rw [List.getElem?_eq_none_iff]; simp; omega
        rw [this]; simp

set_option maxRecDepth 100000 in
set_option maxHeartbeats 1000000 in
theorem schedule_any (b off len cap : Nat) (x : Nat → Int) (w : World) (_hlen : 64 ≤ len) (_hmax : len ≤ 9223372036854775807)
    (_hb : b < w.heap.size) (hx : ∀ j, 0 ≤ x j ∧ x j ≤ 255) (hc : ∀ j, j < 64 → w.cell? ⟨b, off + j, none⟩ = some (.int .u8 (x j))) :
    Calls Tryd.prog 28 #[.slice (some ⟨b, off, none⟩) len cap] w fun e w' => e = .returned (.agg (U (sched x 64)).toArray) ∧ Below w.heap.size w w' := by
  have HX := Lib.hid hx; clear hx
  have HC := Lib.hid hc; clear hc
  go_enter Tryd.func28, Tryd.ntmps28
  go_wp2
  go_loopw [5] (fun i wr => ∃ k : Nat, k ≤ 16 ∧ i = .int .i64 k ∧ Arr wr (w.heap.size + 1) 56 (pad (sched x k)) ∧ Arr wr w.heap.size 56 (pad []) ∧ Below w.heap.size w wr)
    (fun i _ => 16 - (intOf i).toNat)
  case atStart => 
    exact ⟨0, Nat.zero_le _, rfl, by unfold Arr; rw [heap_alloc2_new]; rfl, by unfold Arr; rw [heap_alloc2_old]; rfl, ((Below.refl _ _).alloc (Nat.le_refl _) _).alloc (by simp) _⟩
  case round =>
    obtain ⟨k, hk, rfl, harr, harr0, hbel⟩ := hrel
    have HA0 := Lib.hid harr0; clear harr0
    by_cases hlt : k < 16
    · have hk1 : wr.cell? ⟨w.heap.size + 1, k, none⟩ = some (.int .u32 ((pad (sched x k)).getD k 0)) := harr.cell k (by rw [length_pad _ (by rw [length_sched]; omega)]; omega)
      have hk2 := harr.frozen k
      have h0 := HX.out (4 * k)
      have h1 := HX.out (4 * k + 1)
      have h2 := HX.out (4 * k + 2)
      have h3 := HX.out (4 * k + 3)
      have HA := Lib.hid harr; clear harr
      have hcc : ∀ j, j < 64 → wr.cell? ⟨b, off + j, none⟩ = some (.int .u8 (x j)) := fun j hj => (hbel.cell (p := ⟨b, off + j, none⟩) _hb).trans (HC.out j hj)
      have HCC := Lib.hid hcc; clear hcc
      have HB := Lib.hid hbel; clear hbel
      have hcc0 := HCC.out (4 * k) (by omega)
      have hcc1 := HCC.out (4 * k + 1) (by omega)
      have hcc2 := HCC.out (4 * k + 2) (by omega)
      have hcc3 := HCC.out (4 * k + 3) (by omega)
      go_wp2_with fail
      refine (wordAt_any b off len cap _ (4 * k) (by omega) (x (4 * k)) (x (4 * k + 1)) (x (4 * k + 2)) (x (4 * k + 3)) (by omega) (by omega) h0 h1 h2 h3 _ hcc0 hcc1 hcc2 hcc3).mono ?_
      rintro e w' ⟨rfl, n, rfl⟩
      go_wp2
      go_roundw
      case rel => exact ⟨k + 1, by omega, by go_num, by have := (HA.out.drewN n).set k (wword x k); have hp := pad_set x k (by omega); rw [if_pos hlt] at hp; rw [hp] at this; exact this, (HA0.out.drewN n).other _ _ (by simp), (below_drewN HB.out n).setCell (by simp) _⟩
      case measure => simp [intOf]; omega
    · have hk16 : k = 16 := by omega
      have harr16 : Arr wr (w.heap.size + 1) 56 (pad (sched x 16)) := hk16 ▸ harr
      have hbel' := hbel
      have HK := Lib.hid hk16; clear hk16
      have HA16 := Lib.hid harr16; clear harr16
      clear harr hbel
      have HB16 := Lib.hid hbel'; clear hbel'
      go_wp2
      go_loopw [6, 7, 8] (fun i _ _ wr => ∃ k : Nat, 16 ≤ k ∧ k ≤ 64 ∧ i = .int .i64 k ∧ Arr wr (w.heap.size + 1) 56 (pad (sched x k)) ∧ Arr wr w.heap.size 56 (pad []) ∧ Below w.heap.size w wr)
        (fun i _ _ _ => 64 - (intOf i).toNat)
      case atStart => exact ⟨16, by omega, by omega, rfl, HA16.out, HA0.out, HB16.out⟩
      case round =>
        obtain ⟨k, hk0, hk, rfl, harr, harr0, hbel⟩ := hrel
        clear HA0
        have HA0 := Lib.hid harr0; clear harr0
        have hlp : (pad (sched x k)).length = 64 := length_pad _ (by rw [length_sched]; omega)
        have HL := Lib.hid hlp; clear hlp
        by_cases hlt : k < 64
        · obtain ⟨y0, hy0⟩ : ∃ y, y = (sched x k).getD (k - 16) 0 := ⟨_, rfl⟩
          obtain ⟨y1, hy1⟩ : ∃ y, y = (sched x k).getD (k - 15) 0 := ⟨_, rfl⟩
          obtain ⟨y2, hy2⟩ : ∃ y, y = (sched x k).getD (k - 7) 0 := ⟨_, rfl⟩
          obtain ⟨y3, hy3⟩ : ∃ y, y = (sched x k).getD (k - 2) 0 := ⟨_, rfl⟩
          have b0 := sched_bd x k (k - 16)
          have b1 := sched_bd x k (k - 15)
          have b2 := sched_bd x k (k - 7)
          have b3 := sched_bd x k (k - 2)
          rw [← hy0] at b0
          rw [← hy1] at b1
          rw [← hy2] at b2
          rw [← hy3] at b3
          have hk1 : wr.cell? ⟨w.heap.size + 1, k, none⟩ = some (.int .u32 ((pad (sched x k)).getD k 0)) := harr.cell k (by rw [HL.out]; omega)
          have hk2 := harr.frozen k
          have d0 := harr.cell (k - 16) (by rw [HL.out]; omega)
          have d1 := harr.cell (k - 15) (by rw [HL.out]; omega)
          have d2 := harr.cell (k - 7) (by rw [HL.out]; omega)
          have d3 := harr.cell (k - 2) (by rw [HL.out]; omega)
          rw [pad_getD x k _ (by omega), ← hy0] at d0
          rw [pad_getD x k _ (by omega), ← hy1] at d1
          rw [pad_getD x k _ (by omega), ← hy2] at d2
          rw [pad_getD x k _ (by omega), ← hy3] at d3
          have HA := Lib.hid harr; clear harr
          have HB := Lib.hid hbel; clear hbel
          have hmw : mixw (sched x k) k = (y0 + xor3 (rotw y1 7) (rotw y1 18) (y1 / 8) + y2 + xor3 (rotw y3 17) (rotw y3 19) (y3 / 1024)) % 4294967296 := by rw [hy0, hy1, hy2, hy3]; rfl
          have HM := Lib.hid hmw; clear hmw
          clear hy0 hy1 hy2 hy3
          go_wp2
          go_quiet (fail)
          go_wp2_with (first
            | ((with_reducible refine (rot_7 _ ?_ ?_ _).mono ?_); (first | omega | skip); (first | omega | skip); rintro e w' ⟨rfl, rfl⟩)
            | ((with_reducible refine (rot_18 _ ?_ ?_ _).mono ?_); (first | omega | skip); (first | omega | skip); rintro e w' ⟨rfl, rfl⟩)
            | ((with_reducible refine (rot_17 _ ?_ ?_ _).mono ?_); (first | omega | skip); (first | omega | skip); rintro e w' ⟨rfl, rfl⟩)
            | ((with_reducible refine (rot_19 _ ?_ ?_ _).mono ?_); (first | omega | skip); (first | omega | skip); rintro e w' ⟨rfl, rfl⟩))
          go_region
          go_wp2
          go_roundw
          case rel =>
            have hv := pad_set x k hlt
            rw [if_neg (by omega), HM.out] at hv
            exact ⟨k + 1, by omega, by omega, by go_num, by rw [← hv]; exact (HA.out.drewN _).set k _, (HA0.out.drewN _).other _ _ (by simp), (below_drewN HB.out _).setCell (by simp) _⟩
          case measure => simp [intOf]; omega
        · have hk64 : k = 64 := by omega
          have HK2 := Lib.hid hk64; clear hk64
          have HA := Lib.hid harr; clear harr
          have HB := Lib.hid hbel; clear hbel
          have hi : (Tryd.prog.info? 56).map (fun x => x.size) = some (U (pad (sched x k))).toArray.size := by
            simp only [List.size_toArray, length_U, HL.out]; kernel_rfl
          have HI := Lib.hid hi; clear hi
          go_upto_region 14 with (fail)
          refine wp_region_lit ?_
          refine wpList_load_row rfl 56 (.tmp 3) rfl (w.heap.size + 1) rfl 56 (U (pad (sched x k))).toArray _ _ HA.out Tryd.underlying56 rfl HI.out ?_
          refine wpList_store_row rfl 56 (.tmp 2) (.tmp 64) rfl w.heap.size 56 (U (pad [])).toArray (U (pad (sched x k))).toArray rfl rfl HA0.out (by simp only [List.size_toArray, length_U, HL.out]; rfl) HI.out (oneCell_U _) ?_
          go_wp2
          refine bodyPost_ret (v := .agg (U (pad (sched x k))).toArray) (results_cell_row Tryd.results28 _ _ w.heap.size 56 (U (pad (sched x k))).toArray (0, 0) _ rfl (HA0.out.setRow _) Tryd.underlying56 rfl HI.out) rfl ?_
          exact ⟨by rw [HK2.out, pad_full _ (length_sched _ _)], below_setRow HB.out (Nat.le_refl _) _⟩
end Go.Proofs.YtlghholonjmeaaaDoor
