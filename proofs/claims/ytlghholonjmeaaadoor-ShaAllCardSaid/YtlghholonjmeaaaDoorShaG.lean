/-
  (*Hash).Sum, Sum, New; of nil.
-/
import Derived.Test.YtlghholonjmeaaaDoorShaF
namespace Go.Proofs.YtlghholonjmeaaaDoor
open Go.RowKit

theorem write_nil (v : Value) (w : World) : Calls Tryd.prog 12 #[.pointer none, v] w fun e w' => e = .returned (.tuple #[]) ∧ w = w' := by
  go_enter Tryd.func12, Tryd.ntmps12
  go_wp2
  first | (refine bodyPost_end (results_none rfl _ _ _) rfl ?_) | (refine bodyPost_ret (results_none rfl _ _ _) rfl ?_)
  exact ⟨rfl, rfl⟩
theorem write_empty (b : Nat) (a : Option Addr) (cap : Nat) (w : World) : Calls Tryd.prog 12 #[.pointer (some ⟨b, 0, none⟩), .slice a 0 cap] w fun e w' => e = .returned (.tuple #[]) ∧ w = w' := by
  go_enter Tryd.func12, Tryd.ntmps12
  go_wp2
  first | (refine bodyPost_end (results_none rfl _ _ _) rfl ?_) | (refine bodyPost_ret (results_none rfl _ _ _) rfl ?_)
  exact ⟨rfl, rfl⟩
theorem msum_nil (w : World) : Calls Tryd.prog 13 #[.pointer none] w fun e w' => e = .returned (.string ⟨#[]⟩) ∧ w = w' := by
  go_enter Tryd.func13, Tryd.ntmps13
  go_wp2
  go_ret
  exact ⟨rfl, rfl⟩

theorem length_endBytes (l : List Int) (n : Int) : (endBytes l n).length = l.length + 1 + padZeros l.length + 8 := by
  unfold endBytes; simp [be4]; omega
theorem be4_bd (x : Int) (h0 : 0 ≤ x) (h1 : x ≤ 4294967295) : ∀ a ∈ be4 x, 0 ≤ a ∧ a ≤ 255 := by
  unfold be4; simp only [List.mem_cons, List.not_mem_nil, or_false, forall_eq_or_imp, forall_eq]; omega
theorem fn_bd (l : List Int) (h : ∀ a ∈ l, 0 ≤ a ∧ a ≤ 255) (j : Nat) : 0 ≤ fn l j ∧ fn l j ≤ 255 := by
  unfold fn; rw [List.getD_eq_getElem?_getD]
  cases hj : l[j]? with
  | none => simp
  | some a => exact h a (List.mem_of_getElem? hj)
theorem endBytes_bd (l : List Int) (n : Int) (h : ∀ a ∈ l, 0 ≤ a ∧ a ≤ 255) : ∀ a ∈ endBytes l n, 0 ≤ a ∧ a ≤ 255 := by
  intro a ha
  unfold endBytes at ha
  simp only [List.mem_append, List.mem_singleton, List.mem_replicate] at ha
  rcases ha with (((ha | ha) | ha) | ha) | ha
  · exact h a ha
  · subst ha; decide
  · obtain ⟨_, rfl⟩ := ha; decide
  · exact be4_bd _ (by omega) (by omega) a ha
  · exact be4_bd _ (by omega) (by omega) a ha

set_option maxRecDepth 100000 in
set_option maxHeartbeats 1000000 in
theorem msum_any (b : Nat) (m : List Int) (w : World) (hh : Holds w b m) (ht : Tables w) (_hm : m.length ≤ 1000000000000) (hmb : ∀ a ∈ m, 0 ≤ a ∧ a ≤ 255) :
    Calls Tryd.prog 13 #[.pointer (some ⟨b, 0, none⟩)] w fun e w' => e = .returned (.string (strOfNums (shaL m))) ∧ Below w.heap.size w w' := by
  obtain ⟨st, rest, hH, hst, hrest, hstb⟩ := hh.ex
  clear hh
  obtain ⟨s0, s1, s2, s3, s4, s5, s6, s7, hs8⟩ := eight hH.1
  subst hs8
  have k0 := hH.state 0 (by omega)
  have k1 := hH.state 1 (by omega)
  have k2 := hH.state 2 (by omega)
  have k3 := hH.state 3 (by omega)
  have k4 := hH.state 4 (by omega)
  have k5 := hH.state 5 (by omega)
  have k6 := hH.state 6 (by omega)
  have k7 := hH.state 7 (by omega)
  have c0 := ht.c0 0 (by omega)
  have c1 := ht.c0 1 (by omega)
  have c2 := ht.c0 2 (by omega)
  have c3 := ht.c0 3 (by omega)
  have c4 := ht.c0 4 (by omega)
  have c5 := ht.c0 5 (by omega)
  have c6 := ht.c0 6 (by omega)
  have c7 := ht.c0 7 (by omega)
  have hg0 := ht.g0
  simp only [iv, List.getD_cons_zero, List.getD_cons_succ] at k0 k1 k2 k3 k4 k5 k6 k7 c0 c1 c2 c3 c4 c5 c6 c7
  have hsz := hH.size
  have hbl := hH.lt
  have HH := Lib.hid hH; clear hH
  have HST := Lib.hid hst; clear hst
  have HREST := Lib.hid hrest; clear hrest
  have HT := Lib.hid ht; clear ht
  have HMB := Lib.hid hmb; clear hmb
  clear hstb
  go_enter Tryd.func13, Tryd.ntmps13
  go_upto_if 14 with (fail)
  go_cut [] (fun wx => Arr wx w.heap.size 39 (stOf m) ∧ Below w.heap.size w wx ∧ wx.heap.size = w.heap.size + 1)
  case first =>
    by_cases hz : m.length = 0
    · have hzb : ((m.length : Int) == 0) = true := beq_iff_eq.2 (by omega)
      have HZ := Lib.hid hz; clear hz
      go_wp2
      go_meet
      case rel => exact ⟨by rw [stOf_short m (by rw [HZ.out]; omega)]; exact heap_alloc_last _ _, (Below.refl _ _).alloc (Nat.le_refl _) _, by simp⟩
    · have hzb : ((m.length : Int) == 0) = false := beq_eq_false_iff_ne.2 (by omega)
      have HZ := Lib.hid hz; clear hz
      go_wp2
      go_meet
      case rel => exact ⟨by rw [← HST.out (Nat.pos_of_ne_zero HZ.out)]; exact heap_alloc_last _ _, (Below.refl _ _).alloc (Nat.le_refl _) _, by simp⟩
  case rest =>
    obtain ⟨ha, hb, hs⟩ := hcut
    clear k0 k1 k2 k3 k4 k5 k6 k7 c0 c1 c2 c3 c4 c5 c6 c7 hsz
    have hwc : w.heap.size < wc.heap.size := by omega
    have HA := Lib.hid ha; clear ha
    have HB := Lib.hid hb; clear hb
    have HS := Lib.hid hs; clear hs
    obtain ⟨t0, t1, t2, t3, t4, t5, t6, t7, ht8⟩ := eight (length_stOf m)
    have q0 := HA.out.cell 0 (by rw [length_stOf]; omega)
    have q1 := HA.out.cell 1 (by rw [length_stOf]; omega)
    have q2 := HA.out.cell 2 (by rw [length_stOf]; omega)
    have q3 := HA.out.cell 3 (by rw [length_stOf]; omega)
    have q4 := HA.out.cell 4 (by rw [length_stOf]; omega)
    have q5 := HA.out.cell 5 (by rw [length_stOf]; omega)
    have q6 := HA.out.cell 6 (by rw [length_stOf]; omega)
    have q7 := HA.out.cell 7 (by rw [length_stOf]; omega)
    rw [ht8] at q0 q1 q2 q3 q4 q5 q6 q7
    simp only [List.getD_cons_zero, List.getD_cons_succ] at q0 q1 q2 q3 q4 q5 q6 q7
    have hleft : rest.take ((m.length : Int) % 64).toNat = leftOf m := by
      have e : ((m.length : Int) % 64).toNat = m.length % 64 := by omega
      rw [e]; exact HREST.out
    have hE : ∀ n, Calls Tryd.prog 22 #[.pointer (some ⟨b, 0, none⟩)] (wc.drewN n) fun e w' => ∃ v g c, e = .returned v ∧ v = .slice (some ⟨g, 0, none⟩) (endBytes (leftOf m) m.length).length c ∧ Own8 w' wc.heap.size v (endBytes (leftOf m) m.length) ∧ Below wc.heap.size wc w' := by
      intro n
      refine (ending_any b _ rest m.length (wc.drewN n) ((HH.out.below HB.out hbl).drewN n) (by omega) (by omega)).mono ?_
      rintro e w' ⟨v, rfl, h1, h2⟩
      rw [hleft] at h1
      obtain ⟨g, c, hv, _⟩ := h1.some (by rw [length_endBytes]; omega)
      exact ⟨v, g, c, rfl, hv, h1, (below_drewN (Below.refl _ _) n).trans h2⟩
    obtain ⟨d0, d1, d2, d3, d4, d5, d6, d7, hd8⟩ := eight (length_comps (stOf m) (fn (endBytes (leftOf m) m.length)) (length_stOf m) ((endBytes (leftOf m) m.length).length / 64))
    have hX : ∀ (W : World) (g c : Nat), Own8 W wc.heap.size (.slice (some ⟨g, 0, none⟩) (endBytes (leftOf m) m.length).length c) (endBytes (leftOf m) m.length) → Below wc.heap.size wc W →
        Calls Tryd.prog 20 #[.agg #[.int .u32 t0, .int .u32 t1, .int .u32 t2, .int .u32 t3, .int .u32 t4, .int .u32 t5, .int .u32 t6, .int .u32 t7], .slice (some ⟨g, 0, none⟩) (endBytes (leftOf m) m.length).length c] W fun e w' => e = .returned (.agg #[.int .u32 d0, .int .u32 d1, .int .u32 d2, .int .u32 d3, .int .u32 d4, .int .u32 d5, .int .u32 d6, .int .u32 d7]) ∧ Below W.heap.size W w' := by
      intro W g c ho hbw
      have hlen : (endBytes (leftOf m) m.length).length ≤ 200 := by rw [length_endBytes, length_leftOf]; unfold padZeros; omega
      have hsh := ho.shape
      have hgW : g < W.heap.size ∧ (endBytes (leftOf m) m.length).length ≤ c := by
        rcases hsh with ⟨h1, _⟩ | ⟨g', c', h1, _, h2, h3, _⟩
        · cases h1
        · cases h1; exact ⟨h2, h3⟩
      have htw := (HT.out.below HB.out HT.out.g0 HT.out.g1).below hbw (Nat.lt_trans HT.out.g0 hwc) (Nat.lt_trans HT.out.g1 hwc)
      have hend : ∀ a ∈ endBytes (leftOf m) m.length, 0 ≤ a ∧ a ≤ 255 := endBytes_bd _ _ (fun a ha => HMB.out a (List.mem_of_mem_drop ha))
      have := mixBlocks_any g 0 _ c (fn (endBytes (leftOf m) m.length)) (stOf m) W hgW.2 (by omega) hgW.1 (fn_bd _ hend) (fun j hj => by rw [Nat.zero_add]; exact ho.intCell j hj) (length_stOf m) (stOf_bd m) htw.g1 htw.c1
      rw [hd8, ht8] at this
      exact this
    have hY : ∀ (W : World), Calls Tryd.prog 21 #[.agg #[.int .u32 d0, .int .u32 d1, .int .u32 d2, .int .u32 d3, .int .u32 d4, .int .u32 d5, .int .u32 d6, .int .u32 d7]] W fun e w' => e = .returned (.string (strOfNums (shaL m))) ∧ Below W.heap.size W w' := by
      intro W
      have := stateText_any (comps (stOf m) (fn (endBytes (leftOf m) m.length)) ((endBytes (leftOf m) m.length).length / 64)) W (length_comps _ _ (length_stOf m) _) (comps_bd _ _ (stOf_bd m) _)
      have e : stText (comps (stOf m) (fn (endBytes (leftOf m) m.length)) ((endBytes (leftOf m) m.length).length / 64)) = shaL m := rfl
      rw [e, hd8] at this
      exact this
    have HE := Lib.hid hE; clear hE
    have HX := Lib.hid hX; clear hX
    have HY := Lib.hid hY; clear hY
    have HT8 := Lib.hid ht8; clear ht8
    clear hd8 hleft
    go_wp2_with fail
    go_region_with (first
      | (go_at_call 22; refine (HE.out _).mono ?_; rintro e w5 ⟨v5, g5, c5, rfl, rfl, h1, h2⟩; have HA5 := HA.out.below h2 hwc; have q0 := HA5.cell 0 (by rw [length_stOf]; omega); have q1 := HA5.cell 1 (by rw [length_stOf]; omega); have q2 := HA5.cell 2 (by rw [length_stOf]; omega); have q3 := HA5.cell 3 (by rw [length_stOf]; omega); have q4 := HA5.cell 4 (by rw [length_stOf]; omega); have q5 := HA5.cell 5 (by rw [length_stOf]; omega); have q6 := HA5.cell 6 (by rw [length_stOf]; omega); have q7 := HA5.cell 7 (by rw [length_stOf]; omega); rw [HT8.out] at q0 q1 q2 q3 q4 q5 q6 q7; simp only [List.getD_cons_zero, List.getD_cons_succ] at q0 q1 q2 q3 q4 q5 q6 q7; clear HA5; have H1 := Lib.hid h1; clear h1; have H2 := Lib.hid h2; clear h2)
      | (go_at_call 20; refine (HX.out _ _ _ H1.out H2.out).mono ?_; rintro e w6 ⟨rfl, h1⟩; have H3 := Lib.hid h1; clear h1)
      | (go_at_call 21; refine (HY.out _).mono ?_; rintro e w7 ⟨rfl, h1⟩; have H4 := Lib.hid h1; clear h1))
    all_goals go_wp2_with fail
    all_goals go_ret
    all_goals
      have hs5 := H2.out.size
      have hs6 := H3.out.size
      exact ⟨rfl, ((HB.out.trans (H2.out.mono (by omega))).trans (H3.out.mono (by omega))).trans (H4.out.mono (by omega))⟩

/-- A Hash to which nothing was written. -/
theorem holds_zero (w : World) (b : Nat) (h : w.heap[b]? = some (.cells (hashCells (List.replicate 8 0) (List.replicate 64 0) 0).toArray 43)) : Holds w b [] :=
  ⟨_, _, ⟨rfl, rfl, h⟩, fun h => absurd h (by decide), rfl, by intro a ha; simp at ha; subst ha; unfold W32; omega⟩

def zhash : Array Value := (hashCells (List.replicate 8 0) (List.replicate 64 0) 0).toArray
theorem zeroHash (w : World) : (zeroValue 43).run Tryd.prog w = .ok (.agg zhash) w := by kernel_rfl

set_option maxRecDepth 100000 in
set_option maxHeartbeats 400000 in
theorem new_any (w : World) : Calls Tryd.prog 11 #[] w fun e w' => e = .returned (.pointer (some ⟨w.heap.size, 0, none⟩)) ∧ Holds w' w.heap.size [] ∧ Below w.heap.size w w' := by
  have hz := zeroHash
  go_enter Tryd.func11, Tryd.ntmps11
  go_wp2
  go_ret
  exact ⟨rfl, holds_zero _ _ (heap_alloc_last _ _), (Below.refl _ _).alloc (Nat.le_refl _) _⟩
set_option maxRecDepth 100000 in
set_option maxHeartbeats 400000 in
theorem sum_empty (a : Option Addr) (cap : Nat) (w : World) (ht : Tables w) : Calls Tryd.prog 8 #[.slice a 0 cap] w fun e w' => e = .returned (.string (strOfNums (shaL []))) ∧ Below w.heap.size w w' := by
  have hz := zeroHash
  have HT := Lib.hid ht; clear ht
  go_enter Tryd.func8, Tryd.ntmps8
  go_wp2_with fail
  refine (write_empty w.heap.size a cap _).mono ?_
  rintro e w1 ⟨rfl, rfl⟩
  go_wp2_with fail
  have hb : Below w.heap.size w (w.alloc (.cells zhash 43)) := (Below.refl _ _).alloc (Nat.le_refl _) _
  refine (msum_any w.heap.size [] _ (holds_zero _ _ (heap_alloc_last _ _)) (HT.out.below hb HT.out.g0 HT.out.g1) (by decide) (by simp)).mono ?_
  rintro e w2 ⟨rfl, h2⟩
  have H2 := Lib.hid h2; clear h2
  have HB := Lib.hid hb; clear hb
  go_wp2_with fail
  go_ret
  exact ⟨rfl, HB.out.trans (H2.out.mono (by simp))⟩
set_option maxRecDepth 100000 in
set_option maxHeartbeats 400000 in
theorem sum_any (pb po len cap : Nat) (ys : List Int) (w : World) (ht : Tables w) (_hpb : pb < w.heap.size) (hl : ys.length = len) (_hpos : 0 < len) (_hlc : len ≤ cap) (_hcm : cap ≤ 9223372036854775807) (_hmm : len ≤ 1000000000000)
    (hc : ∀ j, j < len → w.cell? ⟨pb, po + j, none⟩ = some (.int .u8 (fn ys j))) (hyb : ∀ a ∈ ys, 0 ≤ a ∧ a ≤ 255) :
    Calls Tryd.prog 8 #[.slice (some ⟨pb, po, none⟩) len cap] w fun e w' => e = .returned (.string (strOfNums (shaL ys))) ∧ Below w.heap.size w w' := by
  have hz := zeroHash
  have HT := Lib.hid ht; clear ht
  have HL := Lib.hid hl; clear hl
  have HC := Lib.hid hc; clear hc
  have HY := Lib.hid hyb; clear hyb
  go_enter Tryd.func8, Tryd.ntmps8
  go_wp2_with fail
  have hb : Below w.heap.size w (w.alloc (.cells zhash 43)) := (Below.refl _ _).alloc (Nat.le_refl _) _
  have htw := HT.out.below hb HT.out.g0 HT.out.g1
  have hg0 := HT.out.g0
  have hg1 := HT.out.g1
  refine (write_any w.heap.size pb po len cap [] ys _ (holds_zero _ _ (heap_alloc_last _ _)) htw (by simp; omega) (by omega) (by omega) (by omega) HL.out _hpos _hlc _hcm (by simpa using _hmm)
    (fun j hj => (hb.cell (p := ⟨pb, po + j, none⟩) _hpb).trans (HC.out j hj)) (fn_bd _ HY.out) (fn_bd _ (by simp))).mono ?_
  rintro e w1 ⟨rfl, h1, h2⟩
  rw [List.nil_append] at h1
  have hb2 : Below w.heap.size w w1 := hb.grown h2 (by simp) (fun k hk => by cases hk; exact Nat.le_refl _)
  have ht1 := HT.out.below hb2 hg0 hg1
  have H1 := Lib.hid h1; clear h1
  have HB2 := Lib.hid hb2; clear hb2
  have HT1 := Lib.hid ht1; clear ht1
  clear htw hb h2
  go_wp2_with fail
  refine (msum_any w.heap.size ys _ H1.out HT1.out (by rw [HL.out]; exact _hmm) HY.out).mono ?_
  rintro e w2 ⟨rfl, h2⟩
  have H2 := Lib.hid h2; clear h2
  go_wp2_with fail
  go_ret
  exact ⟨rfl, HB2.out.trans (H2.out.mono HB2.out.size)⟩
end Go.Proofs.YtlghholonjmeaaaDoor
