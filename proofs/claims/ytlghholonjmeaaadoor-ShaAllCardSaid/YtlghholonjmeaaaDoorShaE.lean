/-
  (*Hash).ending: what is left of the message, with its padding.
-/
import Derived.Test.YtlghholonjmeaaaDoorShaD
namespace Go.Proofs.YtlghholonjmeaaaDoor
open Go.RowKit

/-- A Hash: its state, the bytes of its last block, how many were written. -/
def hashCells (st rest : List Int) (size : Int) : List Value := U st ++ (rest.map (Value.int .u8) ++ [.int .u64 size])
def HashAt (w : World) (b : Nat) (st rest : List Int) (size : Int) : Prop := st.length = 8 ∧ rest.length = 64 ∧ w.heap[b]? = some (.cells (hashCells st rest size).toArray 43)
theorem HashAt.cell {w : World} {b : Nat} {st rest : List Int} {size : Int} (h : HashAt w b st rest size) (j : Nat) : w.cell? ⟨b, j, none⟩ = (hashCells st rest size)[j]? := by
  rw [cell_of_row w b j _ _ _ h.2.2]; simp
theorem HashAt.size {w : World} {b : Nat} {st rest : List Int} {size : Int} (h : HashAt w b st rest size) : w.cell? ⟨b, 72, none⟩ = some (.int .u64 size) := by
  rw [h.cell]; unfold hashCells
  rw [List.getElem?_append_right (by rw [length_U, h.1]; omega), length_U, h.1, List.getElem?_append_right (by rw [List.length_map, h.2.1]; omega), List.length_map, h.2.1]; rfl
theorem HashAt.rest {w : World} {b : Nat} {st rest : List Int} {size : Int} (h : HashAt w b st rest size) (j : Nat) (hj : j < 64) : w.cell? ⟨b, 8 + j, none⟩ = some (.int .u8 (rest.getD j 0)) := by
  rw [h.cell]; unfold hashCells
  rw [List.getElem?_append_right (by rw [length_U, h.1]; omega), length_U, h.1, List.getElem?_append_left (by rw [List.length_map, h.2.1]; omega), Nat.add_sub_cancel_left]
  exact getElem?_map_int .u8 rest j (by rw [h.2.1]; exact hj)
theorem HashAt.state {w : World} {b : Nat} {st rest : List Int} {size : Int} (h : HashAt w b st rest size) (j : Nat) (hj : j < 8) : w.cell? ⟨b, j, none⟩ = some (.int .u32 (st.getD j 0)) := by
  rw [h.cell]; unfold hashCells
  rw [List.getElem?_append_left (by rw [length_U, h.1]; omega)]
  exact getElem?_map_int .u32 st j (by rw [h.1]; exact hj)
theorem HashAt.frozen {w : World} {b : Nat} {st rest : List Int} {size : Int} (h : HashAt w b st rest size) (j : Nat) : w.frozen? ⟨b, j, none⟩ = false := frozen_of_row w b j _ _ h.2.2
theorem HashAt.lt {w : World} {b : Nat} {st rest : List Int} {size : Int} (h : HashAt w b st rest size) : b < w.heap.size := (Array.getElem?_eq_some_iff.1 h.2.2).1
theorem HashAt.below {w w' : World} {B b : Nat} {st rest : List Int} {size : Int} (h : HashAt w b st rest size) (hb : Below B w w') (hlt : b < B) : HashAt w' b st rest size :=
  ⟨h.1, h.2.1, by rw [hb.block b hlt]; exact h.2.2⟩

theorem HashAt.setState {w : World} {b : Nat} {st rest : List Int} {size : Int} (h : HashAt w b st rest size) (j : Nat) (hj : j < 8) (v : Int) : HashAt (w.setCell ⟨b, j, none⟩ (.int .u32 v)) b (st.set j v) rest size := by
  refine ⟨by rw [List.length_set]; exact h.1, h.2.1, ?_⟩
  rw [heap_setCell_same w b j _ _ _ h.2.2, List.setIfInBounds_toArray]
  unfold hashCells
  rw [List.set_append_left _ _ (by rw [length_U, h.1]; exact hj)]
  unfold U
  rw [List.map_set]
theorem HashAt.setSize {w : World} {b : Nat} {st rest : List Int} {size : Int} (h : HashAt w b st rest size) (v : Int) : HashAt (w.setCell ⟨b, 72, none⟩ (.int .u64 v)) b st rest v := by
  refine ⟨h.1, h.2.1, ?_⟩
  rw [heap_setCell_same w b 72 _ _ _ h.2.2, List.setIfInBounds_toArray]
  unfold hashCells
  rw [List.set_append_right _ _ (by rw [length_U, h.1]; omega), length_U, h.1, List.set_append_right _ _ (by rw [List.length_map, h.2.1]; omega), List.length_map, h.2.1]; rfl
/-- Bytes copied into the last block. -/
theorem HashAt.copied {w : World} {b : Nat} {st rest : List Int} {size : Int} (h : HashAt w b st rest size) (u : Nat) (xs : List Int) (hu : u + xs.length ≤ 64) :
    HashAt (w.setRow b ((hashCells st rest size).take (8 + u) ++ (xs.map (Value.int .u8) ++ (hashCells st rest size).drop (8 + u + (xs.map (Value.int .u8)).length))).toArray) b st (rest.take u ++ xs ++ rest.drop (u + xs.length)) size := by
  refine ⟨h.1, ?_, ?_⟩
  · have := h.2.1; simp; omega
  · rw [setRow_heap w b _ _ _ _ h.2.2]
    congr 2
    congr 1
    unfold hashCells
    rw [List.take_append, List.drop_append, length_U, h.1]
    rw [List.take_of_length_le (by rw [length_U, h.1]; omega), List.drop_eq_nil_of_le (by rw [length_U, h.1]; omega)]
    rw [List.length_map, Nat.add_sub_cancel_left, List.nil_append]
    have e : 8 + u + xs.length - 8 = u + xs.length := by omega
    rw [e, List.take_append_of_le_length (by rw [List.length_map, h.2.1]; omega), List.drop_append_of_le_length (by rw [List.length_map, h.2.1]; omega)]
    simp [List.map_take, List.map_drop]
theorem HashAt.drew {w : World} {b : Nat} {st rest : List Int} {size : Int} (h : HashAt w b st rest size) : HashAt w.drew b st rest size := h
theorem HashAt.drewN {w : World} {b : Nat} {st rest : List Int} {size : Int} (h : HashAt w b st rest size) (n : Nat) : HashAt (w.drewN n) b st rest size := h

def padZeros (n : Nat) : Nat := (119 - n % 64) % 64
/-- The message's end: what is left, 128, noughts, how many bits. -/
def endBytes (left : List Int) (size : Int) : List Int :=
  left ++ [128] ++ List.replicate (padZeros left.length) 0 ++ be4 (IntKind.u64.wrap (size * 8) / 4294967296 % 4294967296) ++ be4 (IntKind.u64.wrap (size * 8) % 4294967296)

set_option maxRecDepth 100000 in
set_option maxHeartbeats 400000 in
theorem ending_any (b : Nat) (st rest : List Int) (size : Int) (w : World) (hh : HashAt w b st rest size) (_h0 : 0 ≤ size) (_h1 : size ≤ 18446744073709551615) :
    Calls Tryd.prog 22 #[.pointer (some ⟨b, 0, none⟩)] w fun e w' => ∃ v, e = .returned v ∧ Own8 w' w.heap.size v (endBytes (rest.take (size % 64).toNat) size) ∧ Below w.heap.size w w' := by
  have hsz := hh.size
  have hbl := hh.lt
  have hmk : ∀ w, (Instr.makeSlice 22 (.int .i64 0) (.int .i64 128)).run Tryd.prog w = .ok (.slice (some ⟨w.heap.size, 0, none⟩) 0 128) (w.alloc (.cells (zrow 128) 5)) := fun _ => by kernel_rfl
  obtain ⟨u, hu⟩ : ∃ u : Nat, size % 64 = (u : Int) := ⟨(size % 64).toNat, by omega⟩
  have hu64 : u < 64 := by omega
  have hui : (u : Int) ≤ 64 := by omega
  have huj : (0 : Int) ≤ (u : Int) := by omega
  have HH := Lib.hid hh; clear hh
  have hut : (rest.take (size % 64).toNat) = rest.take u := by rw [hu]; rfl
  rw [hut]; clear hut
  have hlr : (rest.take u).length = u := by rw [List.length_take, HH.out.2.1]; omega
  have HLR := Lib.hid hlr; clear hlr
  have hcells : ∀ (j : Nat) (y : Value), ((encInt .u8).all (rest.take u))[j]? = some y → w.cell? ⟨b, 8 + j, none⟩ = some y := by
    intro j y hy
    rw [all_encInt] at hy
    have hj : j < u := by
      have := (List.getElem?_eq_some_iff.1 hy).1
      rw [List.length_map, HLR.out] at this; exact this
    rw [getElem?_map_int _ _ _ (by rw [HLR.out]; exact hj)] at hy
    rw [HH.out.rest j (by omega), ← hy]
    congr 2
    simp only [List.getD_eq_getElem?_getD]
    rw [List.getElem?_take_of_lt hj]
  have HC := Lib.hid hcells; clear hcells
  go_enter Tryd.func22, Tryd.ntmps22
  go_wp2
  go_region_law (refine step_app Elem.u8 (encInt .u8) rfl (.tmp 12) (.tmp 17) rfl w.heap.size (.slice (some ⟨w.heap.size, 0, none⟩) 0 128) [] rfl ?_ ⟨b, 8, none⟩ u 64 (rest.take u) rfl HLR.out ?_ ?_ ?_ ?_ ?_; exact Own.made (encInt .u8) 5 w w.heap.size w.heap.size 128 (zrow 128) rfl (Nat.le_refl _) (by unfold maxLen; omega) rfl; (intro j y hy; rw [Addr.add_mid]; exact (Below.cell (B := w.heap.size) (w := w) (by go_grown) hbl).trans (HC.out j y hy)); (simp; omega); (simp [maxLen]; omega); (simp); intro v1 w1 h1 h2; have H1 := Lib.hid h1; clear h1; have H2 := Lib.hid h2; clear h2)
  have hb1 : Below w.heap.size w w1 := by refine Below.trans ?_ H2.out; go_grown
  have HB1 := Lib.hid hb1; clear hb1
  go_wp2_with (at_builtin; refine wpList_app Elem.u8 (encInt .u8) rfl (.tmp 19) (.tmp 20) rfl w.heap.size v1 (rest.take u) rfl (H1.out.alloc _) ⟨w1.heap.size, 0, none⟩ 1 1 [128] rfl rfl ?_ ?_ ?_ ?_ ?_; exact cells_new _ _ _ rfl; (rw [HLR.out]; omega); (rw [HLR.out]; unfold maxLen; omega); (have := HB1.out.size; simp; omega); intro v2 w2 h1 h2; have H3 := Lib.hid h1; clear h1; have H4 := Lib.hid h2; clear h2)
  obtain ⟨g2, c2, hv2, _⟩ := H3.out.some (by simp)
  have HV2 := Lib.hid hv2; clear hv2
  have hb2 : Below w.heap.size w w2 := (HB1.out.alloc HB1.out.size _).trans H4.out
  have HB2 := Lib.hid hb2; clear hb2
  go_loopw [4] (fun v wr => ∃ k g c : Nat, k ≤ padZeros u ∧ v = .slice (some ⟨g, 0, none⟩) (u + 1 + k) c ∧ Own8 wr w.heap.size v (rest.take u ++ [128] ++ List.replicate k 0) ∧ Below w.heap.size w wr)
    (fun v _ => 200 - lenOf v)
  case atStart => exact ⟨0, g2, c2, Nat.zero_le _, by rw [HV2.out]; simp [HLR.out], by simpa using H3.out, HB2.out⟩
  case round =>
    obtain ⟨k, g, c, hk, rfl, hown, hbr⟩ := hrel
    have HO := Lib.hid hown; clear hown
    have HB := Lib.hid hbr; clear hbr
    have hll : (rest.take u ++ [128] ++ List.replicate k 0).length = u + 1 + k := by simp [HLR.out]; omega
    have HLL := Lib.hid hll; clear hll
    have hpz : padZeros u = (119 - u % 64) % 64 := rfl
    have HPZ := Lib.hid hpz; clear hpz
    by_cases hlt : k < padZeros u
    · have hne : (((u + 1 + k : Nat) : Int) % 64 != 56) = true := by rw [bne_iff_ne]; have := HPZ.out; omega
      go_wp2_with (at_builtin; refine wpList_app Elem.u8 (encInt .u8) rfl (.tmp 26) (.tmp 27) rfl w.heap.size (.slice (some ⟨g, 0, none⟩) (u + 1 + k) c) (rest.take u ++ [128] ++ List.replicate k 0) rfl (HO.out.alloc _) ⟨wr.heap.size, 0, none⟩ 1 1 [0] rfl rfl ?_ ?_ ?_ ?_ ?_; exact cells_new _ _ _ rfl; (rw [HLL.out]; have := HPZ.out; omega); (rw [HLL.out]; have := HPZ.out; unfold maxLen; omega); (have := HB.out.size; simp; omega); intro v3 w3 h1 h2; have H5 := Lib.hid h1; clear h1; have H6 := Lib.hid h2; clear h2)
      obtain ⟨g3, c3, hv3, _⟩ := H5.out.some (by simp; omega)
      have HV := Lib.hid hv3; clear hv3
      go_wp2
      go_roundw
      case rel =>
        refine ⟨k + 1, g3, c3, by omega, by rw [HV.out, List.length_append, HLL.out]; rfl, ?_, (HB.out.alloc HB.out.size _).trans H6.out⟩
        have := H5.out
        rw [List.append_assoc] at this
        rw [List.replicate_succ']; exact this
      case measure => rw [HV.out, List.length_append, HLL.out]; simp [lenOf]; have := HPZ.out; omega
    · have hkk : k = padZeros u := by omega
      have hne : (((u + 1 + k : Nat) : Int) % 64 != 56) = false := by
        have : ((u + 1 + k : Nat) : Int) % 64 = 56 := by have := HPZ.out; omega
        rw [this]; rfl
      have hs2 : wr.cell? ⟨b, 72, none⟩ = some (.int .u64 size) := (HB.out.cell (p := ⟨b, 72, none⟩) hbl).trans hsz
      have HK := Lib.hid hkk; clear hkk
      go_wp2_with fail
      refine (appendWord_any w.heap.size _ _ _ (by omega) (by omega) _ HO.out HB.out.size (by rw [HLL.out]; have := HPZ.out; omega)).mono ?_
      rintro e w5 ⟨v5, rfl, h1, h2⟩
      have H5 := Lib.hid h1; clear h1
      have H6 := Lib.hid h2; clear h2
      go_wp2_with fail
      refine (appendWord_any w.heap.size _ _ _ (by omega) (by omega) _ H5.out (Nat.le_trans HB.out.size H6.out.size) (by rw [List.length_append, HLL.out]; have := HPZ.out; simp [be4]; omega)).mono ?_
      rintro e w6 ⟨v6, rfl, h1, h2⟩
      have H7 := Lib.hid h1; clear h1
      have H8 := Lib.hid h2; clear h2
      go_wp2
      go_ret
      refine ⟨v6, rfl, ?_, (HB.out.trans H6.out).trans H8.out⟩
      have := H7.out
      rw [HK.out] at this
      unfold endBytes
      rw [HLR.out]; exact this
end Go.Proofs.YtlghholonjmeaaaDoor
