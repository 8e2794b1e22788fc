/-
  The reference's Sha.
-/
import Derived.Test.YtlghholonjmeaaaDoorRefA
import Derived.Test.YtlghholonjmeaaaDoorRefM
import Derived.Test.YtlghholonjmeaaaDoorShaH
import Derived.Test.YtlghholonjmeaaaDoorHeld
namespace Go.Proofs.YtlghholonjmeaaaDoor
open Go.RowKit

set_option maxRecDepth 1000000 in
set_option maxHeartbeats 400000 in
theorem keys_any (w : World) : Calls Tryd.prog 18 #[] w fun e w' => e = .returned (.slice (some ⟨w.heap.size, 0, none⟩) 64 64) ∧ Arr w' w.heap.size 38 kn ∧ Below w.heap.size w w' := by
  go_enter Tryd.func18, Tryd.ntmps18
  go_wp2
  go_ret
  exact ⟨rfl, heap_alloc_last _ _, (Below.refl _ _).alloc (Nat.le_refl _) _⟩

set_option maxRecDepth 1000000 in
set_option maxHeartbeats 2000000 in
theorem refSha_any (A : Option Addr) (len cap : Nat) (xs : List Int) (w : World) (hS : S8 w w.heap.size A len cap xs) (_hl : len ≤ 1000) :
    Calls Tryd.prog 9 #[.slice A len cap] w fun e w' => e = .returned (.string (strOfNums (shaL xs))) ∧ Below w.heap.size w w' := by
  have HS := Lib.hid hS; clear hS
  have HLX : Hid (xs.length = len) := Lib.hid HS.out.hlen
  have HE := Lib.hid (Own.made (encInt .u8) 5 w w.heap.size w.heap.size 0 #[] rfl (Nat.le_refl _) (by unfold maxLen; omega) rfl)
  have HWE : Hid (Below w.heap.size w (w.alloc (.cells #[] 5))) := Lib.hid ((Below.refl _ _).alloc (Nat.le_refl _) _)
  go_enter Tryd.func9, Tryd.ntmps9
  go_wp2_with (first
    | (at_builtin; refine wpList_app_src Elem.u8 (encInt .u8) rfl (.tmp 11) (.tmp 12) rfl w.heap.size _ [] rfl HE.out _ len xs rfl HLX.out (HS.out.below HWE.out (Nat.le_refl _)).src ?_ ?_ ?_ ?_; (simp; omega); (unfold maxLen; simp; omega); exact HWE.out.size; intro v1 w1 h1 h2; have H1 := Lib.hid h1; clear h1; have HW1 := Lib.hid (HWE.out.trans h2); clear h2)
    | (at_builtin; refine wpList_app Elem.u8 (encInt .u8) rfl (.tmp 14) (.tmp 15) rfl w.heap.size _ ([] ++ xs) rfl (H1.out.alloc _) ⟨w1.heap.size, 0, none⟩ 1 1 [128] rfl rfl ?_ ?_ ?_ ?_ ?_; exact cells_new _ _ _ rfl; (have := HLX.out; simp; omega); (have := HLX.out; unfold maxLen; simp; omega); (have := HW1.out.size; simp; omega); intro v2 w2 h1 h2; have H2 := Lib.hid h1; clear h1; have HW2 := Lib.hid ((HW1.out.alloc HW1.out.size _).trans h2); clear h2))
  rw [List.nil_append] at H2
  obtain ⟨g2, c2, hv2, _⟩ := H2.out.some (by simp)
  have HV2 := Lib.hid hv2; clear hv2
  go_loopw [3] (fun v wr => ∃ k g c : Nat, k ≤ padZeros len ∧ v = .slice (some ⟨g, 0, none⟩) (len + 1 + k) c ∧ Own8 wr w.heap.size v (xs ++ [128] ++ List.replicate k 0) ∧ Below w.heap.size w wr)
    (fun v _ => 2000 - lenOf v)
  case atStart => exact ⟨0, g2, c2, Nat.zero_le _, by rw [HV2.out]; simp [HLX.out], by simpa using H2.out, HW2.out⟩
  case round =>
    obtain ⟨k, g, c, hk, rfl, hown, hbr⟩ := hrel
    have HO := Lib.hid hown; clear hown
    have HB := Lib.hid hbr; clear hbr
    have hll : (xs ++ [128] ++ List.replicate k 0).length = len + 1 + k := by simp [HLX.out]; omega
    have HLL := Lib.hid hll; clear hll
    have hpz : padZeros len = (119 - len % 64) % 64 := rfl
    have HPZ := Lib.hid hpz; clear hpz
    by_cases hlt : k < padZeros len
    · have hne : (((len + 1 + k : Nat) : Int) % 64 != 56) = true := by rw [bne_iff_ne]; have := HPZ.out; omega
      go_wp2_with (at_builtin; refine wpList_app Elem.u8 (encInt .u8) rfl (.tmp 21) (.tmp 22) rfl w.heap.size (.slice (some ⟨g, 0, none⟩) (len + 1 + k) c) (xs ++ [128] ++ List.replicate k 0) rfl (HO.out.alloc _) ⟨wr.heap.size, 0, none⟩ 1 1 [0] rfl rfl ?_ ?_ ?_ ?_ ?_; exact cells_new _ _ _ rfl; (rw [HLL.out]; have := HPZ.out; omega); (rw [HLL.out]; have := HPZ.out; unfold maxLen; omega); (have := HB.out.size; simp; omega); intro v3 w3 h1 h2; have H5 := Lib.hid h1; clear h1; have H6 := Lib.hid h2; clear h2)
      obtain ⟨g3, c3, hv3, _⟩ := H5.out.some (by simp; omega)
      have HV := Lib.hid hv3; clear hv3
      go_wp2
      go_roundw
      case rel =>
        refine ⟨k + 1, g3, c3, by omega, by rw [HV.out, List.length_append, HLL.out]; rfl, ?_, (HB.out.alloc HB.out.size _).trans H6.out⟩
        have := H5.out
        rw [List.append_assoc, ← List.replicate_succ'] at this
        exact this
      case measure => rw [HV.out, List.length_append, HLL.out]; have := HPZ.out; simp [lenOf]; omega
    · have hkp : k = padZeros len := by omega
      have hne : (((len + 1 + k : Nat) : Int) % 64 != 56) = false := by rw [bne_eq_false_iff_eq]; have := HPZ.out; omega
      have hw8 : IntKind.u64.wrap ((len : Int) * 8) = (len : Int) * 8 := IntWalk.u64_in _ (by omega)
      have HKP := Lib.hid hkp; clear hkp
      have hstart : Own8 wr w.heap.size (.slice (some ⟨g, 0, none⟩) (len + 1 + k) c) (xs ++ [128] ++ List.replicate (padZeros len) 0 ++ be8 ((len : Int) * 8) 0) := by
        have := HO.out
        rw [HKP.out] at this ⊢
        rw [be8, List.append_nil]; exact this
      have HST := Lib.hid hstart; clear hstart
      have hpb : padZeros len ≤ 63 := by have := HPZ.out; omega
      go_wp2_with fail
      have hne' : (((len : Int) + 1 + (k : Int)) % 64 != 56) = false := by rw [bne_eq_false_iff_eq]; have := HPZ.out; have := HKP.out; omega
      simp only [hne']
      clear hw8 hne hne'
      go_loopw [3, 5] (fun v ti wr => ∃ (j : Int) (q : Nat), ti = .int .i64 j ∧ -1 ≤ j ∧ j ≤ 7 ∧ Hid ((q : Int) = 7 - j ∧ Own8 wr w.heap.size v (xs ++ [128] ++ List.replicate (padZeros len) 0 ++ be8 ((len : Int) * 8) q) ∧ Below w.heap.size w wr))
        (fun _ ti _ => (intOf ti + 1).toNat)
      case atStart => exact ⟨7, 0, rfl, by omega, by omega, Lib.hid ⟨by omega, HST.out, HB.out⟩⟩
      case round =>
        obtain ⟨j, q, rfl, hj0, hj7, HM⟩ := hrel
        have hml : (xs ++ [128] ++ List.replicate (padZeros len) 0 ++ be8 ((len : Int) * 8) q).length = len + 1 + padZeros len + q := by simp [HLX.out, length_be8]; omega
        have HML := Lib.hid hml; clear hml
        by_cases hge : 0 ≤ j
        · obtain ⟨i, rfl⟩ := Int.eq_ofNat_of_zero_le hge
          have hq7 : q ≤ 7 := by have := HM.out.1; omega
          have hqi : 7 - q = i := by have := HM.out.1; omega
          have hbe : be8 ((len : Int) * 8) (q + 1) = be8 ((len : Int) * 8) q ++ [(len : Int) * 8 / 2 ^ (8 * i) % 256] := by rw [be8, hqi]
          have HBE := Lib.hid hbe; clear hbe hqi
          go_wp2_with (at_builtin; refine wpList_app Elem.u8 (encInt .u8) rfl (.tmp 32) (.tmp 39) rfl w.heap.size _ (xs ++ [128] ++ List.replicate (padZeros len) 0 ++ be8 ((len : Int) * 8) q) rfl (HM.out.2.1.alloc _) ⟨wr.heap.size, 0, none⟩ 1 1 [(len : Int) * 8 / 2 ^ (8 * i) % 256] rfl rfl ?_ ?_ ?_ ?_ ?_; exact cells_new _ _ _ rfl; (rw [HML.out]; omega); (rw [HML.out]; unfold maxLen; omega); (have := HM.out.2.2.size; simp; omega); intro v3 w3 h1 h2; have H5 := Lib.hid h1; clear h1; have H6 := Lib.hid h2; clear h2)
          go_roundw
          case rel =>
            have hfin : Own8 w3 w.heap.size v3 (xs ++ [128] ++ List.replicate (padZeros len) 0 ++ be8 ((len : Int) * 8) (q + 1)) := by
              have := H5.out
              rw [List.append_assoc, ← HBE.out] at this
              exact this
            exact ⟨(i : Int) - 1, q + 1, rfl, by omega, by omega, Lib.hid ⟨by have := HM.out.1; omega, hfin, (HM.out.2.2.alloc HM.out.2.2.size _).trans H6.out⟩⟩
          case measure => first | (simp [intOf]; done) | (simp [intOf]; omega)
        · have hq8 : q = 8 := by have := HM.out.1; omega
          have hbM : Bytes (padded xs) := by
            unfold padded
            refine ((HS.out.bytes.append (by intro a ha; simp at ha; subst ha; omega)).append (by intro a ha; rw [List.mem_replicate] at ha; obtain ⟨_, rfl⟩ := ha; omega)).append ?_
            rw [be8_is _ (by omega) (by rw [HLX.out]; omega)]
            exact Bytes.append (be4_bd _ (by omega) (by omega)) (be4_bd _ (by omega) (by omega))
          have hown : Own8 wr w.heap.size u3 (padded xs) := by
            have := HM.out.2.1
            rw [hq8] at this
            unfold padded
            rw [HLX.out]; exact this
          have hsum := padded_sum xs (by rw [HLX.out]; omega)
          have h64 := padded_64 xs
          have hpl : (padded xs).length ≤ 2000 := by rw [length_padded, HLX.out]; omega
          have hp0 : 0 < (padded xs).length := by rw [length_padded]; omega
          generalize padded xs = M at hbM hown hsum h64 hpl hp0
          have HSUM := Lib.hid hsum; clear hsum
          have HBM := Lib.hid hbM; clear hbM
          obtain ⟨gm, cm, hv, hgm1, hgm2, hgm3, hgm4⟩ := hown.some hp0
          subst hv
          obtain ⟨L, hL⟩ : ∃ L, L = M.length := ⟨_, rfl⟩
          rw [← hL] at hown h64 hpl hp0 hgm3
          rw [← hL]
          have HL := Lib.hid hL; clear hL
          have HOM := Lib.hid hown; clear hown
          have HBR := Lib.hid HM.out.2.2
          clear hq8 HM HML HST HO HB HKP HPZ H1 H2 HW1 HW2 HV2 HE HWE
          unfold maxLen at hgm4
          go_wp2_with fail
          have hb5 : Below wr.heap.size wr (wr.alloc (.cells #[.int .u32 1779033703, .int .u32 3144134277, .int .u32 1013904242, .int .u32 2773480762, .int .u32 1359893119, .int .u32 2600822924, .int .u32 528734635, .int .u32 1541459225] 38)) := (Below.refl _ _).alloc (Nat.le_refl _) _
          have har : Arr (wr.alloc (.cells #[.int .u32 1779033703, .int .u32 3144134277, .int .u32 1013904242, .int .u32 2773480762, .int .u32 1359893119, .int .u32 2600822924, .int .u32 528734635, .int .u32 1541459225] 38)) wr.heap.size 38 iv := heap_alloc_last _ _
          generalize (wr.alloc (.cells #[.int .u32 1779033703, .int .u32 3144134277, .int .u32 1013904242, .int .u32 2773480762, .int .u32 1359893119, .int .u32 2600822924, .int .u32 528734635, .int .u32 1541459225] 38)) = W0 at hb5 har ⊢
          refine (keys_any W0).mono ?_
          rintro e w5 ⟨rfl, h1, h2⟩
          have HK := Lib.hid h1; clear h1
          have HAR := Lib.hid (har.below h2 har.lt); clear har
          have HB5 := Lib.hid (hb5.trans (h2.mono hb5.size)); clear h2 hb5
          have HOM5 := Lib.hid (HOM.out.below HB5.out (Nat.le_refl _))
          have HBW5 := Lib.hid (HBR.out.trans (HB5.out.mono HBR.out.size))
          have hkl := HK.out.lt
          have hgm5 : gm < w5.heap.size := Nat.lt_of_lt_of_le hgm2 HB5.out.size
          clear HOM
          clear hge hj0 hj7
          go_wp2_with fail
          go_loopw [6, 8] (fun th ti wr => ∃ (q mm g : Nat), ti = .int .i64 (mm : Int) ∧ th = .slice (some ⟨g, 0, none⟩) 8 8 ∧ mm ≤ L ∧ Hid (mm = 64 * q ∧ Arr wr g 38 (comps iv (fn M) q) ∧ Below w5.heap.size w5 wr))
            (fun _ ti _ => L - (intOf ti).toNat)
          case atStart => exact ⟨0, 0, _, rfl, rfl, by omega, Lib.hid ⟨rfl, by rw [comps]; exact HAR.out, Below.refl _ _⟩⟩
          case round =>
            obtain ⟨q, mm, g, rfl, rfl, hmL, HM⟩ := hrel
            have hcl8 := length_comps iv (fn M) rfl q
            have hcb8 := comps_bd iv (fn M) iv_bd q
            have hgl := HM.out.2.1.lt
            have hs5 := HM.out.2.2.size
            by_cases hlt : mm < L
            · have h64' : mm + 64 ≤ L := by have := HM.out.1; omega
              have hmi : (mm : Int) < (L : Int) := by omega
              have hsl : ∀ w, (Instr.slice 22 (.slice (some ⟨gm, 0, none⟩) L cm) (some (.int .i64 (mm : Int))) (some (.int .i64 ((mm : Int) + 64))) none).run Tryd.prog w = .ok (.slice (some ⟨gm, mm, none⟩) 64 (cm - mm)) w := by
                intro w
                have := run_cut8 gm 0 L cm mm (mm + 64) (by omega) (by omega) (by omega) w
                rw [Nat.zero_add, Nat.add_sub_cancel_left] at this
                exact this
              have hcell : ∀ j, j < 64 → wr.cell? ⟨gm, mm + j, none⟩ = some (.int .u8 (fn M (64 * q + j))) := by
                intro j hj
                rw [HM.out.2.2.cell (p := ⟨gm, mm + j, none⟩) hgm5, ← HM.out.1]
                have h := HOM5.out
                exact h.intCell (mm + j) (by rw [← HL.out]; omega)
              have hck : ∀ j, j < 64 → wr.cell? ⟨W0.heap.size, j, none⟩ = some (.int .u32 (kn.getD j 0)) := by
                intro j hj
                rw [HM.out.2.2.cell (p := ⟨W0.heap.size, j, none⟩) hkl]
                exact HK.out.cell j hj
              have hR := round_any g 8 gm mm (cm - mm) W0.heap.size 64 (comps iv (fn M) q) (fun j => fn M (64 * q + j)) wr (by omega) (by omega) (by omega) hgl (by omega) (by omega) hcl8 hcb8 (fun j => fn_bd _ HBM.out _) (fun j hj => HM.out.2.1.cell j (by rw [hcl8]; exact hj)) hcell hck
              have HR := Lib.hid hR; clear hR hcell hck hcl8 hcb8
              have i1 : (mm : Int) ≤ (mm : Int) + 64 := by omega
              have i2 : (mm : Int) + 64 ≤ (cm : Int) := by omega
              go_wp2_with fail
              refine HR.out.mono ?_
              rintro e w6 ⟨g', rfl, h1, h2⟩
              have H61 := Lib.hid h1; clear h1
              have H62 := Lib.hid h2; clear h2
              go_wp2_with fail
              go_roundw
              case rel => exact ⟨q + 1, mm + 64, g', by go_num, rfl, by omega, Lib.hid ⟨by have := HM.out.1; omega, by rw [comps]; exact H61.out, HM.out.2.2.trans (H62.out.mono hs5)⟩⟩
              case measure => simp [intOf]; omega
            · have hmm : mm = L := by omega
              have hmi : ¬ (mm : Int) < (L : Int) := by omega
              have hqL : M.length / 64 = q := by have := HM.out.1; have := HL.out; omega
              have hF : stText (comps iv (fn M) q) = shaL xs := by have := HSUM.out; rw [hqL] at this; exact this
              obtain ⟨F, hFF⟩ : ∃ F, F = comps iv (fn M) q := ⟨_, rfl⟩
              have harF : Arr wr g 38 F := by rw [hFF]; exact HM.out.2.1
              rw [← hFF] at hF hcl8 hcb8
              have HF := Lib.hid hF; clear hF hFF hqL hmm
              have HAF := Lib.hid harF; clear harF
              have HBF := Lib.hid (HBW5.out.trans (HM.out.2.2.mono HBW5.out.size))
              have HF8 := Lib.hid hcl8; clear hcl8
              have HFB := Lib.hid hcb8; clear hcb8
              clear HM
              rename World => W4
              go_wp2_with fail
              clear hmi
              go_loopw [9, 10] (fun tv ti wr => ∃ i : Nat, i ≤ 8 ∧ ti = .int .i64 (i : Int) ∧ Own8 wr W4.heap.size tv (stText (F.take i)) ∧ Below W4.heap.size W4 wr)
                (fun _ ti _ => 8 - (intOf ti).toNat)
              case atStart => exact ⟨0, by omega, rfl, Own.nil _ _ _ _, Below.refl _ _⟩
              case round =>
                obtain ⟨i, hi8, rfl, hown, hbx⟩ := hrel
                have hsl : (stText (F.take i)).length ≤ 32 := by rw [length_stText, List.length_take, HF8.out]; omega
                have HSL := Lib.hid hsl; clear hsl
                have HO4 := Lib.hid hown; clear hown
                have HB4 := Lib.hid hbx; clear hbx
                by_cases hlt8 : i < 8
                · obtain ⟨a, ha⟩ : ∃ a, a = F.getD i 0 := ⟨_, rfl⟩
                  have c0 : wr.cell? ⟨g, i, none⟩ = some (.int .u32 a) := by rw [ha, HB4.out.cell (p := ⟨g, i, none⟩) HAF.out.lt]; exact HAF.out.cell i (by rw [HF8.out]; exact hlt8)
                  have B0 : 0 ≤ a ∧ a ≤ 4294967295 := by
                    rw [ha, List.getD_eq_getElem?_getD, List.getElem?_eq_getElem (by rw [HF8.out]; exact hlt8)]; exact HFB.out _ (List.getElem_mem _)
                  have hst : stText (F.take (i + 1)) = stText (F.take i) ++ be4 a := by
                    rw [List.take_add_one, List.getElem?_eq_getElem (by rw [HF8.out]; exact hlt8)]
                    unfold stText
                    rw [List.flatMap_append]
                    have : F[i]'(by rw [HF8.out]; exact hlt8) = a := by rw [ha, List.getD_eq_getElem?_getD, List.getElem?_eq_getElem (by rw [HF8.out]; exact hlt8)]; rfl
                    rw [this]; simp
                  have HSTX := Lib.hid hst; clear hst ha
                  have i1 : (i : Int) < 8 := by omega
                  have i2 : (0 : Int) ≤ (i : Int) := by omega
                  have hw8 : ∀ n, IntKind.u8.wrap n = n % 256 := IntKind.wrap_u8
                  go_wp2_with fail
                  have hld : ∀ wS, Below W4.heap.size wr.drew wS → wS.cell? ⟨g, i, none⟩ = some (.int .u32 a) := fun wS h => (h.cell (p := ⟨g, i, none⟩) HAF.out.lt).trans c0
                  refine kept_start_at (W4.heap.size) (by kernel_rfl) ?_
                  show wpAnyH _ _ _ _ _ 27 #[false, false, false, false, false, false, false, false, false, false, false, false, false, false, false, false, false, false, false, false, false, false, false, false, false, false, false] _ _
                  refine kept_take (i := 0) (d := some 61) (fuel := 26) (listed' := #[true, false, false, false, false, false, false, false, false, false, false, false, false, false, false, false, false, false, false, false, false, false, false, false, false, false, false]) (v := ?_) rfl rfl (by kernel_rfl) (by kernel_rfl) (by kernel_rfl) rfl (fun _ _ _ h => h) (by rfl) ?_ ?_
                  rotate_left
                  · (intro wS hSw; go_simp; try (with_reducible rfl))
                  simp only [Act.put, List.setIfInBounds_toArray, List.set_cons_zero, List.set_cons_succ]
                  refine kept_take (i := 1) (d := some 62) (fuel := 25) (listed' := #[true, true, false, false, false, false, false, false, false, false, false, false, false, false, false, false, false, false, false, false, false, false, false, false, false, false, false]) (v := ?_) rfl rfl (by kernel_rfl) (by kernel_rfl) (by kernel_rfl) rfl (fun _ _ _ h => h) (by rfl) ?_ ?_
                  rotate_left
                  · (intro wS hSw; go_simp; try (with_reducible rfl))
                  simp only [Act.put, List.setIfInBounds_toArray, List.set_cons_zero, List.set_cons_succ]
                  refine kept_take (i := 2) (d := some 63) (fuel := 24) (listed' := #[true, true, true, false, false, false, false, false, false, false, false, false, false, false, false, false, false, false, false, false, false, false, false, false, false, false, false]) (v := ?_) rfl rfl (by kernel_rfl) (by kernel_rfl) (by kernel_rfl) rfl (fun _ _ _ h => h) (by rfl) ?_ ?_
                  rotate_left
                  · (intro wS hSw; go_simp; try (with_reducible rfl))
                  simp only [Act.put, List.setIfInBounds_toArray, List.set_cons_zero, List.set_cons_succ]
                  refine kept_take (i := 3) (d := some 64) (fuel := 23) (listed' := #[true, true, true, true, false, false, false, false, false, false, false, false, false, false, false, false, false, false, false, false, false, false, false, false, false, false, false]) (v := ?_) rfl rfl (by kernel_rfl) (by kernel_rfl) (by kernel_rfl) rfl (fun _ _ _ h => h) (by rfl) ?_ ?_
                  rotate_left
                  · (intro wS hSw; go_simp; try (with_reducible rfl))
                  simp only [Act.put, List.setIfInBounds_toArray, List.set_cons_zero, List.set_cons_succ]
                  refine kept_take (i := 4) (d := some 65) (fuel := 22) (listed' := #[true, true, true, true, true, false, false, false, false, false, false, false, false, false, false, false, false, false, false, false, false, false, false, false, false, false, false]) (v := ?_) rfl rfl (by kernel_rfl) (by kernel_rfl) (by kernel_rfl) rfl (fun _ _ _ h => h) (by rfl) ?_ ?_
                  rotate_left
                  · (intro wS hSw; have hz := hld wS hSw; go_simp; try (with_reducible rfl))
                  simp only [Act.put, List.setIfInBounds_toArray, List.set_cons_zero, List.set_cons_succ]
                  refine kept_take (i := 5) (d := some 66) (fuel := 21) (listed' := #[true, true, true, true, true, true, false, false, false, false, false, false, false, false, false, false, false, false, false, false, false, false, false, false, false, false, false]) (v := ?_) rfl rfl (by kernel_rfl) (by kernel_rfl) (by kernel_rfl) rfl (fun _ _ _ h => h) (by rfl) ?_ ?_
                  rotate_left
                  · (intro wS hSw; go_simp; try (with_reducible rfl))
                  simp only [Act.put, List.setIfInBounds_toArray, List.set_cons_zero, List.set_cons_succ]
                  refine kept_take (i := 6) (d := some 67) (fuel := 20) (listed' := #[true, true, true, true, true, true, true, false, false, false, false, false, false, false, false, false, false, false, false, false, false, false, false, false, false, false, false]) (v := ?_) rfl rfl (by kernel_rfl) (by kernel_rfl) (by kernel_rfl) rfl (fun _ _ _ h => h) (by rfl) ?_ ?_
                  rotate_left
                  · (intro wS hSw; go_simp; try (with_reducible rfl))
                  simp only [Act.put, List.setIfInBounds_toArray, List.set_cons_zero, List.set_cons_succ]
                  refine kept_take (i := 7) (d := some 68) (fuel := 19) (listed' := #[true, true, true, true, true, true, true, true, false, false, false, false, false, false, false, false, false, false, false, false, false, false, false, false, false, false, false]) (v := ?_) rfl rfl (by kernel_rfl) (by kernel_rfl) (by kernel_rfl) rfl (fun _ _ _ h => h) (by rfl) ?_ ?_
                  rotate_left
                  · (intro wS hSw; go_simp; try (with_reducible rfl))
                  simp only [Act.put, List.setIfInBounds_toArray, List.set_cons_zero, List.set_cons_succ]
                  refine kept_take (i := 8) (d := some 69) (fuel := 18) (listed' := #[true, true, true, true, true, true, true, true, true, false, false, false, false, false, false, false, false, false, false, false, false, false, false, false, false, false, false]) (v := ?_) rfl rfl (by kernel_rfl) (by kernel_rfl) (by kernel_rfl) rfl (fun _ _ _ h => h) (by rfl) ?_ ?_
                  rotate_left
                  · (intro wS hSw; go_simp; try (with_reducible rfl))
                  simp only [Act.put, List.setIfInBounds_toArray, List.set_cons_zero, List.set_cons_succ]
                  refine kept_take (i := 9) (d := some 70) (fuel := 17) (listed' := #[true, true, true, true, true, true, true, true, true, true, false, false, false, false, false, false, false, false, false, false, false, false, false, false, false, false, false]) (v := ?_) rfl rfl (by kernel_rfl) (by kernel_rfl) (by kernel_rfl) rfl (fun _ _ _ h => h) (by rfl) ?_ ?_
                  rotate_left
                  · (intro wS hSw; go_simp; try (with_reducible rfl))
                  simp only [Act.put, List.setIfInBounds_toArray, List.set_cons_zero, List.set_cons_succ]
                  refine kept_take (i := 10) (d := some 71) (fuel := 16) (listed' := #[true, true, true, true, true, true, true, true, true, true, true, false, false, false, false, false, false, false, false, false, false, false, false, false, false, false, false]) (v := ?_) rfl rfl (by kernel_rfl) (by kernel_rfl) (by kernel_rfl) rfl (fun _ _ _ h => h) (by rfl) ?_ ?_
                  rotate_left
                  · (intro wS hSw; have hz := hld wS hSw; go_simp; try (with_reducible rfl))
                  simp only [Act.put, List.setIfInBounds_toArray, List.set_cons_zero, List.set_cons_succ]
                  refine kept_take (i := 11) (d := some 72) (fuel := 15) (listed' := #[true, true, true, true, true, true, true, true, true, true, true, true, false, false, false, false, false, false, false, false, false, false, false, false, false, false, false]) (v := ?_) rfl rfl (by kernel_rfl) (by kernel_rfl) (by kernel_rfl) rfl (fun _ _ _ h => h) (by rfl) ?_ ?_
                  rotate_left
                  · (intro wS hSw; go_simp; try (with_reducible rfl))
                  simp only [Act.put, List.setIfInBounds_toArray, List.set_cons_zero, List.set_cons_succ]
                  refine kept_take (i := 12) (d := some 73) (fuel := 14) (listed' := #[true, true, true, true, true, true, true, true, true, true, true, true, true, false, false, false, false, false, false, false, false, false, false, false, false, false, false]) (v := ?_) rfl rfl (by kernel_rfl) (by kernel_rfl) (by kernel_rfl) rfl (fun _ _ _ h => h) (by rfl) ?_ ?_
                  rotate_left
                  · (intro wS hSw; go_simp; try (with_reducible rfl))
                  simp only [Act.put, List.setIfInBounds_toArray, List.set_cons_zero, List.set_cons_succ]
                  refine kept_take (i := 13) (d := some 74) (fuel := 13) (listed' := #[true, true, true, true, true, true, true, true, true, true, true, true, true, true, false, false, false, false, false, false, false, false, false, false, false, false, false]) (v := ?_) rfl rfl (by kernel_rfl) (by kernel_rfl) (by kernel_rfl) rfl (fun _ _ _ h => h) (by rfl) ?_ ?_
                  rotate_left
                  · (intro wS hSw; go_simp; try (with_reducible rfl))
                  simp only [Act.put, List.setIfInBounds_toArray, List.set_cons_zero, List.set_cons_succ]
                  refine kept_take (i := 14) (d := some 75) (fuel := 12) (listed' := #[true, true, true, true, true, true, true, true, true, true, true, true, true, true, true, false, false, false, false, false, false, false, false, false, false, false, false]) (v := ?_) rfl rfl (by kernel_rfl) (by kernel_rfl) (by kernel_rfl) rfl (fun _ _ _ h => h) (by rfl) ?_ ?_
                  rotate_left
                  · (intro wS hSw; go_simp; try (with_reducible rfl))
                  simp only [Act.put, List.setIfInBounds_toArray, List.set_cons_zero, List.set_cons_succ]
                  refine kept_take (i := 15) (d := some 76) (fuel := 11) (listed' := #[true, true, true, true, true, true, true, true, true, true, true, true, true, true, true, true, false, false, false, false, false, false, false, false, false, false, false]) (v := ?_) rfl rfl (by kernel_rfl) (by kernel_rfl) (by kernel_rfl) rfl (fun _ _ _ h => h) (by rfl) ?_ ?_
                  rotate_left
                  · (intro wS hSw; go_simp; try (with_reducible rfl))
                  simp only [Act.put, List.setIfInBounds_toArray, List.set_cons_zero, List.set_cons_succ]
                  refine kept_take (i := 16) (d := some 77) (fuel := 10) (listed' := #[true, true, true, true, true, true, true, true, true, true, true, true, true, true, true, true, true, false, false, false, false, false, false, false, false, false, false]) (v := ?_) rfl rfl (by kernel_rfl) (by kernel_rfl) (by kernel_rfl) rfl (fun _ _ _ h => h) (by rfl) ?_ ?_
                  rotate_left
                  · (intro wS hSw; have hz := hld wS hSw; go_simp; try (with_reducible rfl))
                  simp only [Act.put, List.setIfInBounds_toArray, List.set_cons_zero, List.set_cons_succ]
                  refine kept_take (i := 17) (d := some 78) (fuel := 9) (listed' := #[true, true, true, true, true, true, true, true, true, true, true, true, true, true, true, true, true, true, false, false, false, false, false, false, false, false, false]) (v := ?_) rfl rfl (by kernel_rfl) (by kernel_rfl) (by kernel_rfl) rfl (fun _ _ _ h => h) (by rfl) ?_ ?_
                  rotate_left
                  · (intro wS hSw; go_simp; try (with_reducible rfl))
                  simp only [Act.put, List.setIfInBounds_toArray, List.set_cons_zero, List.set_cons_succ]
                  refine kept_take (i := 18) (d := some 79) (fuel := 8) (listed' := #[true, true, true, true, true, true, true, true, true, true, true, true, true, true, true, true, true, true, true, false, false, false, false, false, false, false, false]) (v := ?_) rfl rfl (by kernel_rfl) (by kernel_rfl) (by kernel_rfl) rfl (fun _ _ _ h => h) (by rfl) ?_ ?_
                  rotate_left
                  · (intro wS hSw; go_simp; try (with_reducible rfl))
                  simp only [Act.put, List.setIfInBounds_toArray, List.set_cons_zero, List.set_cons_succ]
                  refine kept_take (i := 19) (d := some 80) (fuel := 7) (listed' := #[true, true, true, true, true, true, true, true, true, true, true, true, true, true, true, true, true, true, true, true, false, false, false, false, false, false, false]) (v := ?_) rfl rfl (by kernel_rfl) (by kernel_rfl) (by kernel_rfl) rfl (fun _ _ _ h => h) (by rfl) ?_ ?_
                  rotate_left
                  · (intro wS hSw; go_simp; try (with_reducible rfl))
                  simp only [Act.put, List.setIfInBounds_toArray, List.set_cons_zero, List.set_cons_succ]
                  refine kept_take (i := 20) (d := some 81) (fuel := 6) (listed' := #[true, true, true, true, true, true, true, true, true, true, true, true, true, true, true, true, true, true, true, true, true, false, false, false, false, false, false]) (v := ?_) rfl rfl (by kernel_rfl) (by kernel_rfl) (by kernel_rfl) rfl (fun _ _ _ h => h) (by rfl) ?_ ?_
                  rotate_left
                  · (intro wS hSw; go_simp; try (with_reducible rfl))
                  simp only [Act.put, List.setIfInBounds_toArray, List.set_cons_zero, List.set_cons_succ]
                  refine kept_take (i := 21) (d := some 82) (fuel := 5) (listed' := #[true, true, true, true, true, true, true, true, true, true, true, true, true, true, true, true, true, true, true, true, true, true, false, false, false, false, false]) (v := ?_) rfl rfl (by kernel_rfl) (by kernel_rfl) (by kernel_rfl) rfl (fun _ _ _ h => h) (by rfl) ?_ ?_
                  rotate_left
                  · (intro wS hSw; go_simp; try (with_reducible rfl))
                  simp only [Act.put, List.setIfInBounds_toArray, List.set_cons_zero, List.set_cons_succ]
                  refine kept_take (i := 22) (d := some 83) (fuel := 4) (listed' := #[true, true, true, true, true, true, true, true, true, true, true, true, true, true, true, true, true, true, true, true, true, true, true, false, false, false, false]) (v := ?_) rfl rfl (by kernel_rfl) (by kernel_rfl) (by kernel_rfl) rfl (fun _ _ _ h => h) (by rfl) ?_ ?_
                  rotate_left
                  · (intro wS hSw; have hz := hld wS hSw; go_simp; try (with_reducible rfl))
                  simp only [Act.put, List.setIfInBounds_toArray, List.set_cons_zero, List.set_cons_succ]
                  refine kept_take (i := 23) (d := some 84) (fuel := 3) (listed' := #[true, true, true, true, true, true, true, true, true, true, true, true, true, true, true, true, true, true, true, true, true, true, true, true, false, false, false]) (v := ?_) rfl rfl (by kernel_rfl) (by kernel_rfl) (by kernel_rfl) rfl (fun _ _ _ h => h) (by rfl) ?_ ?_
                  rotate_left
                  · (intro wS hSw; go_simp; try (with_reducible rfl))
                  simp only [Act.put, List.setIfInBounds_toArray, List.set_cons_zero, List.set_cons_succ]
                  refine kept_call_at (i := 24) (d := some 85) (fuel := 2) (listed' := #[true, true, true, true, true, true, true, true, true, true, true, true, true, true, true, true, true, true, true, true, true, true, true, true, true, false, false]) rfl rfl (by kernel_rfl) rfl (by rfl) (fun K hK => ?_)
                  go_simp
                  refine hK.out _ _ ((Below.refl W4.heap.size wr.drew).alloc HB4.out.size _) ?_
                  clear hK K
                  simp only [Act.put, List.setIfInBounds_toArray, List.set_cons_zero, List.set_cons_succ]
                  refine kept_call_at (i := 25) (d := some 86) (fuel := 1) (listed' := #[true, true, true, true, true, true, true, true, true, true, true, true, true, true, true, true, true, true, true, true, true, true, true, true, true, true, false]) rfl rfl (by kernel_rfl) rfl (by rfl) (fun K hK => ?_)
                  refine wp_app Elem.u8 (encInt .u8) (.tmp 61) (.tmp 85) rfl W4.heap.size _ (stText (F.take i)) rfl (HO4.out.drew.alloc _) ⟨wr.heap.size, 0, none⟩ 4 4 [a / 16777216 % 256, a / 65536 % 256, a / 256 % 256, a % 256] rfl rfl ?_ ?_ ?_ ?_ ?_
                  · exact cells_new (w := wr.drew) _ _ _ rfl
                  · have := HSL.out; omega
                  · have := HSL.out; unfold maxLen; omega
                  · have := HB4.out.size; simp; omega
                  intro v7 w7 h1 h2
                  have H71 := Lib.hid h1; clear h1
                  have H72 := Lib.hid ((HB4.out.drew.alloc HB4.out.size _).trans h2)
                  have hstep := h2
                  refine hK.out _ _ hstep ?_
                  clear hK K
                  simp only [Act.put, List.setIfInBounds_toArray, List.set_cons_zero, List.set_cons_succ]
                  refine kept_take (i := 26) (d := some 9) (fuel := 0) (listed' := #[true, true, true, true, true, true, true, true, true, true, true, true, true, true, true, true, true, true, true, true, true, true, true, true, true, true, true]) (v := ?_) rfl rfl (by kernel_rfl) (by kernel_rfl) (by kernel_rfl) rfl (fun _ _ _ h => h) (by rfl) ?_ ?_
                  rotate_left
                  · (intro wS hSw; go_simp; try (with_reducible rfl))
                  simp only [Act.put, List.setIfInBounds_toArray, List.set_cons_zero, List.set_cons_succ]
                  refine wpAnyH_done (by kernel_rfl) ?_ _
                  go_wp2_with fail
                  go_roundw
                  case rel =>
                    refine ⟨i + 1, by omega, by go_num, ?_, H72.out⟩
                    rw [HSTX.out]
                    have h := H71.out
                    rw [show a / 16777216 % 256 = a / 16777216 from by omega] at h
                    exact h
                  case measure => simp [intOf]; omega
                · have hi1 : ¬ (i : Int) < 8 := by omega
                  have hcv := run_str8 HO4.out
                  have hi8' : i = 8 := by omega
                  have HI8 := Lib.hid hi8'; clear hi8'
                  go_wp2_with fail
                  go_ret
                  refine ⟨?_, HBF.out.trans (HB4.out.mono HBF.out.size)⟩
                  rw [← HF.out, HI8.out, List.take_of_length_le (by rw [HF8.out]; exact Nat.le_refl _)]; rfl
end Go.Proofs.YtlghholonjmeaaaDoor
