/-
  The reference's round of a block.
-/
import Derived.Test.YtlghholonjmeaaaDoorShaM
import Derived.StillTailTactics
import Derived.IntWalk
namespace Go.Proofs.YtlghholonjmeaaaDoor
open Go.RowKit

/-- A row of words, behind a name. -/
def wrow (n : Nat) : Array Value := Array.replicate n (.int .u32 0)
theorem wrow64 : wrow 64 = (U (pad [])).toArray := by kernel_rfl

theorem quiet_add_same {P : Program} {f : FuncId} {args : Array Value} {w : World} {a n : Nat} {v : Value}
    (h : Calls P f args (w.drewN (a + n)) fun e w' => e = .returned v ∧ w' = w.drewN (a + n)) :
    Calls P f args (w.drewN (a + n)) fun e w'' => e = .returned v ∧ ∃ m, w'' = w.drewN (a + m) :=
  h.mono fun _ _ ⟨he, hm⟩ => ⟨he, n, hm⟩

set_option maxRecDepth 1000000 in
set_option maxHeartbeats 4000000 in
theorem round_any (hb hc bb bo bc kb kc : Nat) (s : List Int) (x : Nat → Int) (w : World) (_hhc : 8 ≤ hc) (_hbc : 64 ≤ bc) (_hkc : 64 ≤ kc) (_hb : hb < w.heap.size) (_bb : bb < w.heap.size) (_kb : kb < w.heap.size)
    (hs : s.length = 8) (hsb : ∀ a ∈ s, W32 a) (hx : ∀ j, 0 ≤ x j ∧ x j ≤ 255) (ch : ∀ j, j < 8 → w.cell? ⟨hb, j, none⟩ = some (.int .u32 (s.getD j 0))) (cb : ∀ j, j < 64 → w.cell? ⟨bb, bo + j, none⟩ = some (.int .u8 (x j))) (ck : ∀ j, j < 64 → w.cell? ⟨kb, j, none⟩ = some (.int .u32 (kn.getD j 0))) :
    Calls Tryd.prog 19 #[.slice (some ⟨hb, 0, none⟩) 8 hc, .slice (some ⟨bb, bo, none⟩) 64 bc, .slice (some ⟨kb, 0, none⟩) 64 kc] w fun e w' => ∃ g, e = .returned (.slice (some ⟨g, 0, none⟩) 8 8) ∧ Arr w' g 38 (comp s x) ∧ Below w.heap.size w w' := by
  have HX := Lib.hid hx; clear hx
  have HCH := Lib.hid ch; clear ch
  have HCB := Lib.hid cb; clear cb
  have HCK := Lib.hid ck; clear ck
  have HS := Lib.hid hs; clear hs
  have HSB := Lib.hid hsb; clear hsb
  have hmk : ∀ w, (Instr.makeSlice 45 (.int .i64 64) (.int .i64 64)).run Tryd.prog w = .ok (.slice (some ⟨w.heap.size, 0, none⟩) 64 64) (w.alloc (.cells (wrow 64) 38)) := fun _ => by kernel_rfl
  have hmk8 : ∀ w, (Instr.makeSlice 45 (.int .i64 8) (.int .i64 8)).run Tryd.prog w = .ok (.slice (some ⟨w.heap.size, 0, none⟩) 8 8) (w.alloc (.cells (wrow 8) 38)) := fun _ => by kernel_rfl
  go_enter Tryd.func19, Tryd.ntmps19
  go_wp2_with fail
  clear hmk
  go_loopw [8] (fun i wr => ∃ k : Nat, k ≤ 16 ∧ i = .int .i64 k ∧ Arr wr w.heap.size 38 (pad (sched x k)) ∧ Below w.heap.size w wr)
    (fun i _ => 16 - (intOf i).toNat)
  case atStart => exact ⟨0, Nat.zero_le _, rfl, by unfold Arr; rw [heap_alloc_last, wrow64]; rfl, (Below.refl _ _).alloc (Nat.le_refl _) _⟩
  case round =>
    obtain ⟨k, hk, rfl, harr, hbel⟩ := hrel
    by_cases hlt : k < 16
    · have hk1 : wr.cell? ⟨w.heap.size, k, none⟩ = some (.int .u32 ((pad (sched x k)).getD k 0)) := harr.cell k (by rw [length_pad _ (by rw [length_sched]; omega)]; omega)
      have hk2 := harr.frozen k
      obtain ⟨x0, e0⟩ : ∃ y, y = x (4 * k) := ⟨_, rfl⟩
      obtain ⟨x1, e1⟩ : ∃ y, y = x (4 * k + 1) := ⟨_, rfl⟩
      obtain ⟨x2, e2⟩ : ∃ y, y = x (4 * k + 2) := ⟨_, rfl⟩
      obtain ⟨x3, e3⟩ : ∃ y, y = x (4 * k + 3) := ⟨_, rfl⟩
      have h0 : 0 ≤ x0 ∧ x0 ≤ 255 := e0 ▸ HX.out (4 * k)
      have h1 : 0 ≤ x1 ∧ x1 ≤ 255 := e1 ▸ HX.out (4 * k + 1)
      have h2 : 0 ≤ x2 ∧ x2 ≤ 255 := e2 ▸ HX.out (4 * k + 2)
      have h3 : 0 ≤ x3 ∧ x3 ≤ 255 := e3 ▸ HX.out (4 * k + 3)
      have HA := Lib.hid harr; clear harr
      have HB := Lib.hid hbel; clear hbel
      have c0 : wr.cell? ⟨bb, bo + 4 * k, none⟩ = some (.int .u8 x0) := by rw [e0, HB.out.cell (p := ⟨bb, bo + 4 * k, none⟩) _bb]; exact HCB.out (4 * k) (by omega)
      have c1 : wr.cell? ⟨bb, bo + (4 * k + 1), none⟩ = some (.int .u8 x1) := by rw [e1, HB.out.cell (p := ⟨bb, bo + (4 * k + 1), none⟩) _bb]; exact HCB.out (4 * k + 1) (by omega)
      have c2 : wr.cell? ⟨bb, bo + (4 * k + 2), none⟩ = some (.int .u8 x2) := by rw [e2, HB.out.cell (p := ⟨bb, bo + (4 * k + 2), none⟩) _bb]; exact HCB.out (4 * k + 2) (by omega)
      have c3 : wr.cell? ⟨bb, bo + (4 * k + 3), none⟩ = some (.int .u8 x3) := by rw [e3, HB.out.cell (p := ⟨bb, bo + (4 * k + 3), none⟩) _bb]; exact HCB.out (4 * k + 3) (by omega)
      have hww : wword x k = word4 x0 x1 x2 x3 := by rw [e0, e1, e2, e3]; rfl
      have HWW := Lib.hid hww; clear hww e0 e1 e2 e3
      have i0 : 4 * (k : Int) < 64 := by omega
      have i1 : 4 * (k : Int) + 1 < 64 := by omega
      have i2 : 4 * (k : Int) + 2 < 64 := by omega
      have i3 : 4 * (k : Int) + 3 < 64 := by omega
      have i4 : (k : Int) < 64 := by omega
      have j0 : (0 : Int) ≤ 4 * (k : Int) := by omega
      have j1 : (0 : Int) ≤ 4 * (k : Int) + 1 := by omega
      have j2 : (0 : Int) ≤ 4 * (k : Int) + 2 := by omega
      have j3 : (0 : Int) ≤ 4 * (k : Int) + 3 := by omega
      have q0 : IntKind.i64.wrap (4 * (k : Int)) = 4 * (k : Int) := IntWalk.i64_in _ (by omega)
      have q1 : IntKind.i64.wrap (4 * (k : Int) + 1) = 4 * (k : Int) + 1 := IntWalk.i64_in _ (by omega)
      have q2 : IntKind.i64.wrap (4 * (k : Int) + 2) = 4 * (k : Int) + 2 := IntWalk.i64_in _ (by omega)
      have q3 : IntKind.i64.wrap (4 * (k : Int) + 3) = 4 * (k : Int) + 3 := IntWalk.i64_in _ (by omega)
      have t0 : (4 * (k : Int)).toNat = 4 * k := by omega
      have t1 : (4 * (k : Int) + 1).toNat = 4 * k + 1 := by omega
      have t2 : (4 * (k : Int) + 2).toNat = 4 * k + 2 := by omega
      have t3 : (4 * (k : Int) + 3).toNat = 4 * k + 3 := by omega
      have v0 : IntKind.u32.wrap x0 = x0 := IntWalk.u32_in _ (by omega)
      have v1 : IntKind.u32.wrap x1 = x1 := IntWalk.u32_in _ (by omega)
      have v2 : IntKind.u32.wrap x2 = x2 := IntWalk.u32_in _ (by omega)
      have v3 : IntKind.u32.wrap x3 = x3 := IntWalk.u32_in _ (by omega)
      have w0 : IntKind.u32.wrap (x0 * 16777216) = x0 * 16777216 := IntWalk.u32_in _ (by omega)
      have w1 : IntKind.u32.wrap (x1 * 65536) = x1 * 65536 := IntWalk.u32_in _ (by omega)
      have w2 : IntKind.u32.wrap (x2 * 256) = x2 * 256 := IntWalk.u32_in _ (by omega)
      go_wp2_with fail
      go_still_tail 36, (by kernel_rfl)
      clear q0 q1 q2 q3 t0 t1 t2 t3 v0 v1 v2 v3 w0 w1 w2 j0 j1 j2 j3 i0 i1 i2 i3 c0 c1 c2 c3
      change wpList _ _ _ _ _ wr.drew
      go_wp2_with fail
      go_roundw
      case rel => exact ⟨k + 1, by omega, by go_num, by have := HA.out.drew.set k (wword x k); have hp := pad_set x k (by omega); rw [if_pos hlt] at hp; rw [hp, HWW.out] at this; exact this, HB.out.drew.setCell (Nat.le_refl _) _⟩
      case measure => simp [intOf]; omega
    · have hk16 : k = 16 := by omega
      have harr16 : Arr wr w.heap.size 38 (pad (sched x 16)) := hk16 ▸ harr
      have HK := Lib.hid hk16; clear hk16
      have HA16 := Lib.hid harr16; clear harr16 harr
      have HB16 := Lib.hid hbel; clear hbel
      go_wp2_with fail
      go_loopw [9, 10, 11] (fun i _ _ wr => ∃ k : Nat, 16 ≤ k ∧ k ≤ 64 ∧ i = .int .i64 k ∧ Arr wr w.heap.size 38 (pad (sched x k)) ∧ Below w.heap.size w wr)
        (fun i _ _ _ => 64 - (intOf i).toNat)
      case atStart => exact ⟨16, by omega, by omega, rfl, HA16.out, HB16.out⟩
      case round =>
        obtain ⟨k, hk0, hk, rfl, harr, hbel⟩ := hrel
        have hlp : (pad (sched x k)).length = 64 := length_pad _ (by rw [length_sched]; omega)
        have HL := Lib.hid hlp; clear hlp
        by_cases hlt : k < 64
        · obtain ⟨y0, hy0⟩ : ∃ y, y = (sched x k).getD (k - 16) 0 := ⟨_, rfl⟩
          obtain ⟨y1, hy1⟩ : ∃ y, y = (sched x k).getD (k - 15) 0 := ⟨_, rfl⟩
          obtain ⟨y2, hy2⟩ : ∃ y, y = (sched x k).getD (k - 7) 0 := ⟨_, rfl⟩
          obtain ⟨y3, hy3⟩ : ∃ y, y = (sched x k).getD (k - 2) 0 := ⟨_, rfl⟩
          have b0 := sched_bd x k (k - 16)
          have b1 := sched_bd x k (k - 15)
          have b2 := sched_bd x k (k - 7)
          have b3 := sched_bd x k (k - 2)
          rw [← hy0] at b0
          rw [← hy1] at b1
          rw [← hy2] at b2
          rw [← hy3] at b3
          have hk1 : wr.cell? ⟨w.heap.size, k, none⟩ = some (.int .u32 ((pad (sched x k)).getD k 0)) := harr.cell k (by rw [HL.out]; omega)
          have hk2 := harr.frozen k
          have d0 := harr.cell (k - 16) (by rw [HL.out]; omega)
          have d1 := harr.cell (k - 15) (by rw [HL.out]; omega)
          have d2 := harr.cell (k - 7) (by rw [HL.out]; omega)
          have d3 := harr.cell (k - 2) (by rw [HL.out]; omega)
          rw [pad_getD x k _ (by omega), ← hy0] at d0
          rw [pad_getD x k _ (by omega), ← hy1] at d1
          rw [pad_getD x k _ (by omega), ← hy2] at d2
          rw [pad_getD x k _ (by omega), ← hy3] at d3
          have HA := Lib.hid harr; clear harr
          have HB := Lib.hid hbel; clear hbel
          have hmw : mixw (sched x k) k = (y0 + xor3 (rotw y1 7) (rotw y1 18) (y1 / 8) + y2 + xor3 (rotw y3 17) (rotw y3 19) (y3 / 1024)) % 4294967296 := by rw [hy0, hy1, hy2, hy3]; rfl
          have HM := Lib.hid hmw; clear hmw
          clear hy0 hy1 hy2 hy3
          go_wp2_with fail
          go_quiet (fail)
          go_upto_region 10 with (fail)
          have d0q : (wr.drewN nq).cell? ⟨w.heap.size, k - 16, none⟩ = some (.int .u32 y0) := d0
          have d2q : (wr.drewN nq).cell? ⟨w.heap.size, k - 7, none⟩ = some (.int .u32 y2) := d2
          have hk1q : (wr.drewN nq).cell? ⟨w.heap.size, k, none⟩ = some (.int .u32 ((pad (sched x k)).getD k 0)) := hk1
          have hk2q : (wr.drewN nq).frozen? ⟨w.heap.size, k, none⟩ = false := hk2
          have HAq : Hid (Arr (wr.drewN nq) w.heap.size 38 (pad (sched x k))) := Lib.hid (HA.out.drewN nq)
          have HBq : Hid (Below w.heap.size w (wr.drewN nq)) := Lib.hid (below_drewN HB.out nq)
          clear d0 d1 d2 d3 hk1 hk2 HA HB
          generalize wr.drewN nq = wq at d0q d2q hk1q hk2q HAq HBq ⊢
          have i0 : (0 : Int) ≤ (k : Int) - 16 := by omega
          have i1 : (k : Int) - 16 < 64 := by omega
          have i2 : (0 : Int) ≤ (k : Int) - 7 := by omega
          have i3 : (k : Int) - 7 < 64 := by omega
          have i4 : (k : Int) < 64 := by omega
          have i5 : (16 : Int) ≤ (k : Int) := by omega
          have i6 : (7 : Int) ≤ (k : Int) := by omega
          have i7 : (k : Int) < 80 := by omega
          have i8 : (k : Int) < 71 := by omega
          have q0 : IntKind.i64.wrap ((k : Int) - 16) = (k : Int) - 16 := IntWalk.i64_in _ (by omega)
          have q1 : IntKind.i64.wrap ((k : Int) - 7) = (k : Int) - 7 := IntWalk.i64_in _ (by omega)
          have t0 : ((k : Int) - 16).toNat = k - 16 := by omega
          have t1 : ((k : Int) - 7).toNat = k - 7 := by omega
          refine wp_region_still_tail 32 (by kernel_rfl) (by kernel_rfl) ?_
          simp only [List.take_succ_cons, List.take_zero, List.drop_succ_cons, List.drop_zero]
          repeat still_step
          still_call (turn_any y1 7 b1.1 b1.2 (by omega) (by omega) _)
          repeat still_step
          still_call (turn_any y1 18 b1.1 b1.2 (by omega) (by omega) _)
          repeat still_step
          still_call (turn_any y3 17 b3.1 b3.2 (by omega) (by omega) _)
          repeat still_step
          still_call (turn_any y3 19 b3.1 b3.2 (by omega) (by omega) _)
          repeat still_step
          refine wpStill_nil ?_
          clear q0 q1 t0 t1 i0 i1 i2 i3 i5 i6 i7 i8
          change wpList _ _ _ _ _ wq.drew
          go_wp2_with fail
          go_roundw
          case rel =>
            refine ⟨k + 1, by omega, by omega, by go_num, ?_, (HBq.out.setCell (Nat.le_refl _) _).drew⟩
            have := (HAq.out.set k (mixw (sched x k) k)).drew
            have hp := pad_set x k (by omega)
            rw [if_neg (by omega)] at hp
            rw [hp, HM.out] at this
            exact this
          case measure => simp [intOf]; omega
        · have hk64 : k = 64 := by omega
          have harr64 : Arr wr w.heap.size 38 (sched x 64) := by
            have := hk64 ▸ harr
            rw [pad_full _ (length_sched x 64)] at this; exact this
          have HK2 := Lib.hid hk64; clear hk64
          have HA2 := Lib.hid harr64; clear harr64 harr
          have HB2 := Lib.hid hbel; clear hbel
          have hE : Elem Tryd.prog 45 38 1 4 := ⟨Tryd.underlying45, ⟨.int .u32 0, by kernel_rfl, rfl⟩, by decide⟩
          have HE := Lib.hid hE; clear hE
          have hO : Own (encInt .u32) 38 (wr.alloc (.cells #[] 38)) wr.heap.size (.slice (some ⟨wr.heap.size, 0, none⟩) 0 0) ([] : List Int) := Own.made (encInt .u32) 38 wr wr.heap.size wr.heap.size 0 #[] rfl (Nat.le_refl _) (by unfold maxLen; omega) rfl
          have HO := Lib.hid hO; clear hO
          have hWE : Below w.heap.size w (wr.alloc (.cells #[] 38)) := HB2.out.alloc HB2.out.size _
          have HWE := Lib.hid hWE; clear hWE
          have hcp : ∀ (j : Nat) (u : Value), ((encInt .u32).all s)[j]? = some u → (wr.alloc (.cells #[] 38)).cell? ((⟨hb, 0, none⟩ : Addr).add j) = some u := by
            intro j u hu
            rw [Addr.add_mid, Nat.zero_add]
            rw [all_encInt] at hu
            have hj : j < s.length := by
              have := (List.getElem?_eq_some_iff.1 hu).1
              rw [List.length_map] at this; exact this
            rw [getElem?_map_int _ _ _ hj] at hu
            rw [HWE.out.cell (p := ⟨hb, j, none⟩) _hb, HCH.out j (by rw [HS.out] at hj; exact hj), ← hu]
          have HCP := Lib.hid hcp; clear hcp
          go_wp2_with (at_builtin; refine wpList_app HE.out (encInt .u32) rfl (.tmp 107) (.tmp 108) rfl wr.heap.size _ [] rfl HO.out ⟨hb, 0, none⟩ 8 hc s rfl HS.out HCP.out ?_ ?_ ?_ ?_; (simp); (unfold maxLen; simp); (simp); intro v1 w1 h1 h2; have H1 := Lib.hid h1; clear h1; have H2 := Lib.hid h2; clear h2)
          rw [List.nil_append] at H1
          have hsz1 : wr.heap.size ≤ w1.heap.size := by have := H2.out.size; simp at this; omega
          have hbw1 : Below w.heap.size w w1 := HWE.out.trans (H2.out.mono HB2.out.size)
          have har1 : Arr w1 w.heap.size 38 (sched x 64) := (HA2.out.below ((Below.refl wr.heap.size wr).alloc (Nat.le_refl _) _) HA2.out.lt).below (B := wr.heap.size) H2.out HA2.out.lt
          obtain ⟨g1, cc1, hv1, hg1a, hg1b, hg1c, hg1d⟩ := H1.out.some (by rw [HS.out]; omega)
          have hcl1 : ∀ j, j < 8 → w1.cell? ⟨g1, j, none⟩ = some (.int .u32 ((rounds s (sched x 64) 0).getD j 0)) := by
            intro j hj
            have h := H1.out
            rw [hv1] at h
            exact h.intCell j (by rw [HS.out]; exact hj)
          have hv1' : v1 = .slice (some ⟨g1, 0, none⟩) 8 cc1 := by rw [hv1, HS.out]
          subst hv1'
          rw [HS.out] at hg1c
          clear hv1
          have HBW1 := Lib.hid hbw1; clear hbw1
          have HAR1 := Lib.hid har1; clear har1
          have HCL1 := Lib.hid hcl1; clear hcl1
          unfold maxLen at hg1d
          go_loopw [12, 13, 14, 15, 16, 17] (fun tv ti _ _ _ _ wr => ∃ (k g c : Nat), k ≤ 64 ∧ ti = .int .i64 k ∧ tv = .slice (some ⟨g, 0, none⟩) 8 c ∧ 8 ≤ c ∧ c ≤ 9223372036854775807 ∧ Hid ((∀ j, j < 8 → wr.cell? ⟨g, j, none⟩ = some (.int .u32 ((rounds s (sched x 64) k).getD j 0))) ∧ Arr wr w.heap.size 38 (sched x 64) ∧ Below w.heap.size w wr))
            (fun _ ti _ _ _ _ _ => 64 - (intOf ti).toNat)
          case atStart => exact ⟨0, g1, cc1, by omega, rfl, rfl, hg1c, by omega, Lib.hid ⟨HCL1.out, HAR1.out, HBW1.out⟩⟩
          case round =>
            obtain ⟨k, g, c, hk64, rfl, rfl, hc8, hc63, HM⟩ := hrel
            clear HCL1 HAR1 HBW1 H1 H2 HO HWE HCP HE
            by_cases hlt : k < 64
            · obtain ⟨r0, r1, r2, r3, r4, r5, r6, r7, hr8⟩ := eight (length_rounds s (sched x 64) HS.out k)
              have hbd := rounds_bd s (sched x 64) HSB.out k
              rw [hr8] at hbd
              have B0 := hbd r0 (by simp)
              have B1 := hbd r1 (by simp)
              have B2 := hbd r2 (by simp)
              have B3 := hbd r3 (by simp)
              have B4 := hbd r4 (by simp)
              have B5 := hbd r5 (by simp)
              have B6 := hbd r6 (by simp)
              have B7 := hbd r7 (by simp)
              clear hbd
              unfold W32 at B0 B1 B2 B3 B4 B5 B6 B7
              have hcl := HM.out.1
              rw [hr8] at hcl
              have k0 := hcl 0 (by omega)
              have k1 := hcl 1 (by omega)
              have k2 := hcl 2 (by omega)
              have k3 := hcl 3 (by omega)
              have k4 := hcl 4 (by omega)
              have k5 := hcl 5 (by omega)
              have k6 := hcl 6 (by omega)
              have k7 := hcl 7 (by omega)
              clear hcl
              simp only [List.getD_cons_zero, List.getD_cons_succ] at k0 k1 k2 k3 k4 k5 k6 k7
              obtain ⟨yk, hyk⟩ : ∃ y, y = kn.getD k 0 := ⟨_, rfl⟩
              obtain ⟨yw, hyw⟩ : ∃ y, y = (sched x 64).getD k 0 := ⟨_, rfl⟩
              have q1 : wr.cell? ⟨kb, k, none⟩ = some (.int .u32 yk) := by rw [hyk, HM.out.2.2.cell (p := ⟨kb, k, none⟩) _kb]; exact HCK.out k hlt
              have q2 : wr.cell? ⟨w.heap.size, k, none⟩ = some (.int .u32 yw) := by rw [hyw]; exact HM.out.2.1.cell k (by rw [length_sched]; exact hlt)
              have E1 := kn_bd k
              have E2 := sched_bd x 64 k
              rw [← hyk] at E1
              rw [← hyw] at E2
              unfold W32 at E1
              have hstep : rounds s (sched x 64) (k + 1) = rstep [r0, r1, r2, r3, r4, r5, r6, r7] yk yw := by rw [rounds, hr8, hyk, hyw]
              have HSTEP := Lib.hid hstep; clear hstep
              clear hyk hyw hr8
              have i1 : (k : Int) < 64 := by omega
              have i2 : (8 : Int) ≤ (c : Int) := by omega
              go_wp2_with fail
              go_quiet (fail)
              rename Nat => n1
              go_wp2_with fail
              go_quiet ((go_at_call 25; (first | exact Calls.quiet_of_same (turn_any _ _ (by omega) (by omega) (by omega) (by omega) _) | exact quiet_add_same (turn_any _ _ (by omega) (by omega) (by omega) (by omega) _))))
              rename Nat => n2
              go_wp2_with fail
              go_quiet ((go_at_call 25; (first | exact Calls.quiet_of_same (turn_any _ _ (by omega) (by omega) (by omega) (by omega) _) | exact quiet_add_same (turn_any _ _ (by omega) (by omega) (by omega) (by omega) _))))
              have c0 : ((wr.drewN (n1 + n2)).drewN nq).cell? ⟨g, 0, none⟩ = some (.int .u32 r0) := k0
              have c1 : ((wr.drewN (n1 + n2)).drewN nq).cell? ⟨g, 1, none⟩ = some (.int .u32 r1) := k1
              have c2 : ((wr.drewN (n1 + n2)).drewN nq).cell? ⟨g, 2, none⟩ = some (.int .u32 r2) := k2
              have c3 : ((wr.drewN (n1 + n2)).drewN nq).cell? ⟨g, 3, none⟩ = some (.int .u32 r3) := k3
              have c4 : ((wr.drewN (n1 + n2)).drewN nq).cell? ⟨g, 4, none⟩ = some (.int .u32 r4) := k4
              have c5 : ((wr.drewN (n1 + n2)).drewN nq).cell? ⟨g, 5, none⟩ = some (.int .u32 r5) := k5
              have c6 : ((wr.drewN (n1 + n2)).drewN nq).cell? ⟨g, 6, none⟩ = some (.int .u32 r6) := k6
              have HAq : Hid (Arr ((wr.drewN (n1 + n2)).drewN nq) w.heap.size 38 (sched x 64)) := Lib.hid ((HM.out.2.1.drewN (n1 + n2)).drewN nq)
              have HBq : Hid (Below w.heap.size w ((wr.drewN (n1 + n2)).drewN nq)) := Lib.hid (below_drewN (below_drewN HM.out.2.2 (n1 + n2)) nq)
              clear k0 k1 k2 k3 k4 k5 k6 k7 q1 q2 HM
              generalize (wr.drewN (n1 + n2)).drewN nq = wq at c0 c1 c2 c3 c4 c5 c6 HAq HBq ⊢
              have hwu : ∀ n, IntKind.u32.wrap n = n % 4294967296 := IntKind.wrap_u32
              go_upto_region 18 with (fail)
              refine wp_region_still_tail 26 (by kernel_rfl) (by kernel_rfl) ?_
              simp only [List.take_succ_cons, List.take_zero, List.drop_succ_cons, List.drop_zero]
              repeat still_step
              refine wpStill_nil ?_
              clear hwu c0 c1 c2 c3 c4 c5 c6
              change wpList _ _ _ _ _ wq.drew
              go_wp2_with fail
              go_roundw
              case rel =>
                refine ⟨k + 1, wq.heap.size, 8, by omega, by go_num, rfl, by omega, by omega, Lib.hid ⟨fun j hj => ?_, (HAq.out.below ((Below.refl wq.heap.size wq).drew.alloc (Nat.le_refl _) _) HAq.out.lt), HBq.out.drew.alloc HBq.out.size _⟩⟩
                refine (cell_of_row _ wq.heap.size j _ _ _ (heap_alloc_last _ _)).trans ?_
                rw [HSTEP.out]
                unfold rstep xor3
                match j, hj with
                | 0, _ => refine congrArg some (congrArg (Value.int .u32) ?_); show _ % _ = _ % _; omega
                | 1, _ => rfl
                | 2, _ => rfl
                | 3, _ => rfl
                | 4, _ => refine congrArg some (congrArg (Value.int .u32) ?_); show _ % _ = _ % _; omega
                | 5, _ => rfl
                | 6, _ => rfl
                | 7, _ => rfl
              case measure => simp [intOf]; omega
            · have hk64 : k = 64 := by omega
              have hcl : ∀ j, j < 8 → wr.cell? ⟨g, j, none⟩ = some (.int .u32 ((rounds s (sched x 64) 64).getD j 0)) := by have := HM.out.1; rw [hk64] at this; exact this
              have HCL := Lib.hid hcl; clear hcl
              have hgl : g < wr.heap.size := block_lt_of_cell (HCL.out 0 (by omega))
              have HB3 := Lib.hid HM.out.2.2
              have HK64 := Lib.hid hk64; clear hk64 HM
              have hi1 : ¬ (k : Int) < 64 := by omega
              rename World => W3
              go_wp2_with fail
              go_loopw [19] (fun ti wx => ∃ i : Nat, i ≤ 8 ∧ ti = .int .i64 i ∧ Arr wx W3.heap.size 38 ((comp s x).take i ++ List.replicate (8 - i) 0) ∧ Below W3.heap.size W3 wx)
                (fun ti _ => 8 - (intOf ti).toNat)
              case atStart => exact ⟨0, by omega, rfl, by unfold Arr; rw [heap_alloc_last]; rfl, (Below.refl _ _).alloc (Nat.le_refl _) _⟩
              case round =>
                obtain ⟨i, hi8, rfl, harr, hbx⟩ := hrel
                have hlc := length_comp s x HS.out
                have HLC := Lib.hid hlc; clear hlc
                have hsz3 := HB3.out.size
                by_cases hlt8 : i < 8
                · obtain ⟨a, ha⟩ : ∃ a, a = s.getD i 0 := ⟨_, rfl⟩
                  obtain ⟨b, hb'⟩ : ∃ b, b = (rounds s (sched x 64) 64).getD i 0 := ⟨_, rfl⟩
                  have c0 : wr.cell? ⟨hb, i, none⟩ = some (.int .u32 a) := by rw [ha, hbx.cell (p := ⟨hb, i, none⟩) (by show hb < W3.heap.size; omega), HB3.out.cell (p := ⟨hb, i, none⟩) _hb]; exact HCH.out i hlt8
                  have c1 : wr.cell? ⟨g, i, none⟩ = some (.int .u32 b) := by rw [hb', hbx.cell (p := ⟨g, i, none⟩) hgl]; exact HCL.out i hlt8
                  have hll : ((comp s x).take i ++ List.replicate (8 - i) 0).length = 8 := by rw [List.length_append, List.length_take, HLC.out, List.length_replicate]; omega
                  have k1 : wr.cell? ⟨W3.heap.size, i, none⟩ = some (.int .u32 (((comp s x).take i ++ List.replicate (8 - i) 0).getD i 0)) := harr.cell i (by rw [hll]; exact hlt8)
                  have k2 := harr.frozen i
                  have hset : ((comp s x).take i ++ List.replicate (8 - i) 0).set i ((a + b) % 4294967296) = (comp s x).take (i + 1) ++ List.replicate (8 - (i + 1)) 0 := by
                    rw [List.set_append_right _ _ (by rw [List.length_take, HLC.out]; omega), List.length_take, HLC.out, Nat.min_eq_left (by omega), Nat.sub_self, show 8 - i = (8 - (i + 1)) + 1 from by omega, List.replicate_succ, List.set_cons_zero]
                    rw [List.take_add_one, List.getElem?_eq_getElem (by rw [HLC.out]; exact hlt8), List.append_assoc]
                    have hv : (comp s x)[i]'(by rw [HLC.out]; exact hlt8) = (a + b) % 4294967296 := by
                      unfold comp
                      rw [List.getElem_zipWith, ha, hb']
                      simp only [List.getD_eq_getElem?_getD]
                      rw [List.getElem?_eq_getElem (by rw [HS.out]; exact hlt8), List.getElem?_eq_getElem (by rw [length_rounds s (sched x 64) HS.out 64]; exact hlt8)]; rfl
                    rw [hv]; rfl
                  have HSET := Lib.hid hset; clear hset
                  have B0 : 0 ≤ a ∧ a ≤ 4294967295 := by
                    rw [ha, List.getD_eq_getElem?_getD, List.getElem?_eq_getElem (by rw [HS.out]; exact hlt8)]; exact HSB.out _ (List.getElem_mem _)
                  have B1 : 0 ≤ b ∧ b ≤ 4294967295 := by
                    rw [hb', List.getD_eq_getElem?_getD, List.getElem?_eq_getElem (by rw [length_rounds s (sched x 64) HS.out 64]; exact hlt8)]; exact rounds_bd s (sched x 64) HSB.out 64 _ (List.getElem_mem _)
                  have HA4 := Lib.hid harr; clear harr
                  have HB4 := Lib.hid hbx; clear hbx
                  clear ha hb' hll
                  have i1 : (i : Int) < 8 := by omega
                  have i2 : (0 : Int) ≤ (i : Int) := by omega
                  have hwu : IntKind.u32.wrap (a + b) = (a + b) % 4294967296 := IntKind.wrap_u32 _
                  go_wp2_with fail
                  refine wp_region_still_tail 12 (by kernel_rfl) (by kernel_rfl) ?_
                  simp only [List.take_succ_cons, List.take_zero, List.drop_succ_cons, List.drop_zero]
                  repeat still_step
                  refine wpStill_nil ?_
                  clear hwu c0 c1
                  change wpList _ _ _ _ _ wr.drew
                  go_wp2_with fail
                  go_roundw
                  case rel =>
                    refine ⟨i + 1, by omega, by go_num, ?_, (HB4.out.setCell (Nat.le_refl _) _).drew⟩
                    have := (HA4.out.set i ((a + b) % 4294967296)).drew
                    rw [HSET.out] at this
                    exact this
                  case measure => simp [intOf]; omega
                · have hi8' : i = 8 := by omega
                  have harr8 : Arr wr W3.heap.size 38 (comp s x) := by
                    have := hi8' ▸ harr
                    rw [List.take_of_length_le (by rw [HLC.out]; exact Nat.le_refl _)] at this
                    simpa using this
                  have HA8 := Lib.hid harr8; clear harr8 harr
                  have HB8 := Lib.hid hbx; clear hbx hi8'
                  have i1 : ¬ (i : Int) < 8 := by omega
                  go_wp2_with fail
                  go_ret
                  exact ⟨_, rfl, HA8.out, HB3.out.trans (HB8.out.mono hsz3)⟩
end Go.Proofs.YtlghholonjmeaaaDoor
