/-
  Texts of layers, put together.
-/
import Derived.Test.YtdfpalocnijefaaGreatDoorMX3
import Derived.OpenShut
import Derived.ProofKit
import Derived.ChangeArms
import Derived.Deep.Slices
import Derived.ChangeSlices
/-
  Layer 5, the program: Tree.
-/
namespace Go.Proofs.YtdfpalocnijefaaGreatDoor
open Go.RowKit

/-- A slice of nodes that reads as these, each with its kids' slice, below block B. -/
def SN (w : World) (B : Nat) (v : Value) (vs : List (Nd × Value)) : Prop :=
  (∃ A cap, v = .slice A vs.length cap ∧ (vs = [] ∨ ∃ pb po, A = some ⟨pb, po, none⟩ ∧ pb < B ∧ ∀ (i : Nat) (n : Nd) (k : Value), vs[i]? = some (n, k) → ∀ j, j < 14 → w.cell? ⟨pb, po + i * 14 + j, none⟩ = (nodA n k).toList[j]?)) ∧ ∀ p ∈ vs, SI w B p.2 p.1.kids
/-- Sizes that are no trouble. -/
def SZ (vs : List (Nd × Value)) : Prop := vs.length ≤ 1000 ∧ ∀ p ∈ vs, p.1.text.size ≤ 1000000 ∧ p.1.ref.sh.size ≤ 1000000 ∧ p.1.to.sh.size ≤ 1000000
set_option maxRecDepth 100000 in
set_option maxHeartbeats 16000000 in
theorem ptree_any (w : World) (v : Value) (vs : List (Nd × Value)) (hv : Vars w) (h : SN w w.heap.size v vs) (hz : SZ vs) : Calls Tryz.prog 15 #[v] w fun e w' => e = .returned (.bool (treeB (vs.map (·.1)))) ∧ Below w.heap.size w w' := by
  obtain ⟨⟨A, cap, rfl, hat⟩, hkid⟩ := h
  obtain ⟨hlen, hsz⟩ := hz
  obtain ⟨nl, hnl⟩ : ∃ nl, vs.length = nl := ⟨_, rfl⟩
  rw [hnl] at hlen ⊢
  have HV := Lib.hid hv; have HAT := Lib.hid hat; have HKID := Lib.hid hkid; have HSZ := Lib.hid hsz; have HNL := Lib.hid hnl
  obtain ⟨eb, hEB, EL⟩ := Elem.kid
  have HEL := Lib.hid EL
  clear hv hat hkid hsz hnl EL
  go_enter Tryz.func15, Tryz.ntmps15
  go_upto_region 3 with (fail)
  go_loopw [3, 9] (fun rv iv wr => ∃ (i : Nat) (st : List Int) (rk : Value), i ≤ nl ∧ st.length ≤ i ∧ rk = rv ∧ iv = .int .i64 (i : Int) ∧ Hid (treeB (vs.map (·.1)) = treeF st i ((vs.map (·.1)).drop i)) ∧ Hid (Own (encInt .i64) 3 wr w.heap.size rk st) ∧ Hid (Below w.heap.size w wr))
    (fun _ iv _ => nl - (intOf iv).toNat)
  case atStart => exact ⟨0, [], .slice none 0 0, Nat.zero_le _, Nat.le_refl _, rfl, rfl, Lib.hid rfl, Lib.hid (Own.nil _ _ _ _), Lib.hid (Below.refl _ _)⟩
  case round =>
    obtain ⟨i, st, rk, hi, hsi, rfl, rfl, HT, HO, HB⟩ := hrel
    by_cases hlt : i < nl
    · have hii : (i : Int) < (nl : Int) := by omega
      obtain ⟨⟨n, k⟩, hnk⟩ : ∃ q, vs[i]? = some q := ⟨_, List.getElem?_eq_getElem (by rw [HNL.out]; exact hlt)⟩
      have hmem := List.mem_of_getElem? hnk
      obtain ⟨hz1, hz2, hz3⟩ := HSZ.out _ hmem
      have HZ1 := Lib.hid hz1; have HZ2 := Lib.hid hz2; have HZ3 := Lib.hid hz3
      clear hz1 hz2 hz3
      have hski : SI w w.heap.size k n.kids := HKID.out _ hmem
      obtain ⟨Ak, ck, hk, hkc, hkm, _⟩ := id hski
      obtain ⟨m, hm⟩ : ∃ m, n.kids.length = m := ⟨_, rfl⟩
      rw [hm] at hk hkc
      subst hk
      have hmm : m ≤ maxLen := Nat.le_trans hkc hkm
      have hmx : m ≤ 9223372036854775807 := by unfold maxLen at hmm; omega
      have HMM := Lib.hid hmm
      have HM := Lib.hid hm
      have HSK := Lib.hid hski
      have HD := Lib.hid (show (vs.map (·.1)).drop i = n :: (vs.map (·.1)).drop (i + 1) by
        have hl : i < (vs.map (·.1)).length := by rw [List.length_map, HNL.out]; exact hlt
        rw [List.drop_eq_getElem_cons hl]
        congr 1
        have h1 : (vs.map (·.1))[i]? = some n := by rw [List.getElem?_map, hnk]; rfl
        rw [List.getElem?_eq_getElem hl] at h1; exact Option.some.inj h1)
      rcases HAT.out with e | ⟨pb, po, rfl, hpb, hcells⟩
      · exfalso; rw [e] at hnk; simp at hnk
      have hcell := hcells i n _ hnk
      have k0 : wr.cell? ⟨pb, po + i * 14, none⟩ = some (.int .i64 n.kind) := (HB.out.cell (p := ⟨pb, po + i * 14, none⟩) hpb).trans (hcell 0 (by omega))
      have k1 : wr.cell? ⟨pb, po + i * 14 + 1, none⟩ = some (.int .i64 n.num) := (HB.out.cell (p := ⟨pb, po + i * 14 + 1, none⟩) hpb).trans (hcell 1 (by omega))
      have k2 : wr.cell? ⟨pb, po + i * 14 + 2, none⟩ = some (.string n.text) := (HB.out.cell (p := ⟨pb, po + i * 14 + 2, none⟩) hpb).trans (hcell 2 (by omega))
      have k3 : wr.cell? ⟨pb, po + i * 14 + 3, none⟩ = some (.string n.ref.sh) := (HB.out.cell (p := ⟨pb, po + i * 14 + 3, none⟩) hpb).trans (hcell 3 (by omega))
      have k4 : wr.cell? ⟨pb, po + i * 14 + 4, none⟩ = some (.int .i64 n.ref.c) := (HB.out.cell (p := ⟨pb, po + i * 14 + 4, none⟩) hpb).trans (hcell 4 (by omega))
      have k5 : wr.cell? ⟨pb, po + i * 14 + 5, none⟩ = some (.int .i64 n.ref.r) := (HB.out.cell (p := ⟨pb, po + i * 14 + 5, none⟩) hpb).trans (hcell 5 (by omega))
      have k6 : wr.cell? ⟨pb, po + i * 14 + 6, none⟩ = some (.bool n.ref.ac) := (HB.out.cell (p := ⟨pb, po + i * 14 + 6, none⟩) hpb).trans (hcell 6 (by omega))
      have k7 : wr.cell? ⟨pb, po + i * 14 + 7, none⟩ = some (.bool n.ref.ar) := (HB.out.cell (p := ⟨pb, po + i * 14 + 7, none⟩) hpb).trans (hcell 7 (by omega))
      have k8 : wr.cell? ⟨pb, po + i * 14 + 8, none⟩ = some (.string n.to.sh) := (HB.out.cell (p := ⟨pb, po + i * 14 + 8, none⟩) hpb).trans (hcell 8 (by omega))
      have k9 : wr.cell? ⟨pb, po + i * 14 + 9, none⟩ = some (.int .i64 n.to.c) := (HB.out.cell (p := ⟨pb, po + i * 14 + 9, none⟩) hpb).trans (hcell 9 (by omega))
      have k10 : wr.cell? ⟨pb, po + i * 14 + 10, none⟩ = some (.int .i64 n.to.r) := (HB.out.cell (p := ⟨pb, po + i * 14 + 10, none⟩) hpb).trans (hcell 10 (by omega))
      have k11 : wr.cell? ⟨pb, po + i * 14 + 11, none⟩ = some (.bool n.to.ac) := (HB.out.cell (p := ⟨pb, po + i * 14 + 11, none⟩) hpb).trans (hcell 11 (by omega))
      have k12 : wr.cell? ⟨pb, po + i * 14 + 12, none⟩ = some (.bool n.to.ar) := (HB.out.cell (p := ⟨pb, po + i * 14 + 12, none⟩) hpb).trans (hcell 12 (by omega))
      have k13 : wr.cell? ⟨pb, po + i * 14 + 13, none⟩ = some (.slice Ak m ck) := (HB.out.cell (p := ⟨pb, po + i * 14 + 13, none⟩) hpb).trans (hcell 13 (by omega))
      clear hcell hcells hnk hmem hski hm hkc hkm hmm
      have hL : st.length ≤ 1000 := by omega
      rcases HO.out.shape with ⟨rfl, hst⟩ | ⟨rg, rcap, rfl, hrg, hrl, hrc, hrm⟩
      · have hst0 : st.length = 0 := by rw [hst]; rfl
        by_cases hm0 : m = 0
        rotate_left
        · have hneg : -(m : Int) < 0 := by omega
          have hml : ¬ m ≤ st.length := by omega
          have HT2 := Lib.hid (show treeB (vs.map (·.1)) = false by rw [HT.out, HD.out, treeF_cons, HM.out, decide_eq_false hml, Bool.false_and, Bool.and_false])
          have hmp : 0 < m := by omega
          clear hml hst0 hst hm0
          have hB3 : Below wr.heap.size wr (wr.alloc (.cells #[.int .i64 n.kind, .int .i64 n.num, .string n.text, .string n.ref.sh, .int .i64 n.ref.c, .int .i64 n.ref.r, .bool n.ref.ac, .bool n.ref.ar, .string n.to.sh, .int .i64 n.to.c, .int .i64 n.to.r, .bool n.to.ac, .bool n.to.ar, .slice Ak m ck] 38)) := (Below.refl _ _).alloc (Nat.le_refl _) _
          have HN3 : NdAt (wr.alloc (.cells #[.int .i64 n.kind, .int .i64 n.num, .string n.text, .string n.ref.sh, .int .i64 n.ref.c, .int .i64 n.ref.r, .bool n.ref.ac, .bool n.ref.ar, .string n.to.sh, .int .i64 n.to.c, .int .i64 n.to.r, .bool n.to.ac, .bool n.to.ar, .slice Ak m ck] 38)) wr.heap.size n (.slice Ak m ck) := NdAt.new wr n _
          have HB3 := Lib.hid (HB.out.trans (hB3.mono HB.out.size))
          have HO3 := Lib.hid (HO.out.alloc (.cells #[.int .i64 n.kind, .int .i64 n.num, .string n.text, .string n.ref.sh, .int .i64 n.ref.c, .int .i64 n.ref.r, .bool n.ref.ac, .bool n.ref.ar, .string n.to.sh, .int .i64 n.to.c, .int .i64 n.to.r, .bool n.to.ac, .bool n.to.ar, .slice Ak m ck] 38))
          clear hB3
          go_upto_region 6 with (fail)
          generalize hb3 : wr.heap.size = b3 at HN3 ⊢
          generalize wr.alloc (.cells #[.int .i64 n.kind, .int .i64 n.num, .string n.text, .string n.ref.sh, .int .i64 n.ref.c, .int .i64 n.ref.r, .bool n.ref.ac, .bool n.ref.ar, .string n.to.sh, .int .i64 n.to.c, .int .i64 n.to.r, .bool n.to.ac, .bool n.to.ar, .slice Ak m ck] 38) = w3 at HN3 HB3 HO3 ⊢
          clear hb3 k0 k1 k2 k3 k4 k5 k6 k7 k8 k9 k10 k11 k12 k13 HO
          have HN3 := Lib.hid HN3
          refine wp_region_held_drew (S := fun W => Below w3.heap.size w3 W) (by kernel_rfl) (Below.drew (Below.refl w3.heap.size w3)) (fun _ => ?_)
          show wpAnyH _ _ _ _ _ 16 #[false, false, false, false, false, false, false, false, false, false, false, false, false, false, false, false] _ _
          refine held_take (i := 0) (d := some 20) (fuel := 15) (listed' := #[true, false, false, false, false, false, false, false, false, false, false, false, false, false, false, false]) (v := ?_) rfl rfl (by kernel_rfl) (by kernel_rfl) (by kernel_rfl) rfl (fun _ _ _ h => h) (by rfl) ?_ (Below.drew (Below.refl w3.heap.size w3)) ?_
          rotate_left
          · (intro wS hSw; go_simp; try (with_reducible rfl))
          simp only [Act.put, List.setIfInBounds_toArray, List.set_cons_zero, List.set_cons_succ]
          refine held_take (i := 1) (d := some 21) (fuel := 14) (listed' := #[true, true, false, false, false, false, false, false, false, false, false, false, false, false, false, false]) (v := ?_) rfl rfl (by kernel_rfl) (by kernel_rfl) (by kernel_rfl) rfl (fun _ _ _ h => h) (by rfl) ?_ (Below.drew (Below.refl w3.heap.size w3)) ?_
          rotate_left
          · (intro wS hSw; go_simp; try (with_reducible rfl))
          simp only [Act.put, List.setIfInBounds_toArray, List.set_cons_zero, List.set_cons_succ]
          refine held_take (i := 2) (d := some 22) (fuel := 13) (listed' := #[true, true, true, false, false, false, false, false, false, false, false, false, false, false, false, false]) (v := ?_) rfl rfl (by kernel_rfl) (by kernel_rfl) (by kernel_rfl) rfl (fun _ _ _ h => h) (by rfl) ?_ (Below.drew (Below.refl w3.heap.size w3)) ?_
          rotate_left
          · (intro wS hSw; go_simp; try (with_reducible rfl))
          simp only [Act.put, List.setIfInBounds_toArray, List.set_cons_zero, List.set_cons_succ]
          refine held_skip (i := 3) (d := some 23) (fuel := 12) (listed' := #[true, true, true, true, false, false, false, false, false, false, false, false, false, false, false, false]) rfl rfl (by kernel_rfl) (by kernel_rfl) (by kernel_rfl) rfl (fun _ _ _ h => h) (by rfl) (Below.drew (Below.refl w3.heap.size w3)) ?_
          simp only [Act.put, List.setIfInBounds_toArray, List.set_cons_zero, List.set_cons_succ]
          refine held_skip (i := 4) (d := some 24) (fuel := 11) (listed' := #[true, true, true, true, true, false, false, false, false, false, false, false, false, false, false, false]) rfl rfl (by kernel_rfl) (by kernel_rfl) (by kernel_rfl) rfl (fun _ _ _ h => h) (by rfl) (Below.drew (Below.refl w3.heap.size w3)) ?_
          simp only [Act.put, List.setIfInBounds_toArray, List.set_cons_zero, List.set_cons_succ]
          refine held_skip (i := 5) (d := some 25) (fuel := 10) (listed' := #[true, true, true, true, true, true, false, false, false, false, false, false, false, false, false, false]) rfl rfl (by kernel_rfl) (by kernel_rfl) (by kernel_rfl) rfl (fun _ _ _ h => h) (by rfl) (Below.drew (Below.refl w3.heap.size w3)) ?_
          simp only [Act.put, List.setIfInBounds_toArray, List.set_cons_zero, List.set_cons_succ]
          refine held_skip (i := 6) (d := some 26) (fuel := 9) (listed' := #[true, true, true, true, true, true, true, false, false, false, false, false, false, false, false, false]) rfl rfl (by kernel_rfl) (by kernel_rfl) (by kernel_rfl) rfl (fun _ _ _ h => h) (by rfl) (Below.drew (Below.refl w3.heap.size w3)) ?_
          simp only [Act.put, List.setIfInBounds_toArray, List.set_cons_zero, List.set_cons_succ]
          refine held_skip (i := 7) (d := some 27) (fuel := 8) (listed' := #[true, true, true, true, true, true, true, true, false, false, false, false, false, false, false, false]) rfl rfl (by kernel_rfl) (by kernel_rfl) (by kernel_rfl) rfl (fun _ _ _ h => h) (by rfl) (Below.drew (Below.refl w3.heap.size w3)) ?_
          simp only [Act.put, List.setIfInBounds_toArray, List.set_cons_zero, List.set_cons_succ]
          refine held_skip (i := 8) (d := some 28) (fuel := 7) (listed' := #[true, true, true, true, true, true, true, true, true, false, false, false, false, false, false, false]) rfl rfl (by kernel_rfl) (by kernel_rfl) (by kernel_rfl) rfl (fun _ _ _ h => h) (by rfl) (Below.drew (Below.refl w3.heap.size w3)) ?_
          simp only [Act.put, List.setIfInBounds_toArray, List.set_cons_zero, List.set_cons_succ]
          refine held_skip (i := 9) (d := some 29) (fuel := 6) (listed' := #[true, true, true, true, true, true, true, true, true, true, false, false, false, false, false, false]) rfl rfl (by kernel_rfl) (by kernel_rfl) (by kernel_rfl) rfl (fun _ _ _ h => h) (by rfl) (Below.drew (Below.refl w3.heap.size w3)) ?_
          simp only [Act.put, List.setIfInBounds_toArray, List.set_cons_zero, List.set_cons_succ]
          refine held_take (i := 10) (d := some 30) (fuel := 5) (listed' := #[true, true, true, true, true, true, true, true, true, true, true, false, false, false, false, false]) (v := ?_) rfl rfl (by kernel_rfl) (by kernel_rfl) (by kernel_rfl) rfl (fun _ _ _ h => h) (by rfl) ?_ (Below.drew (Below.refl w3.heap.size w3)) ?_
          rotate_left
          · (intro wS hSw; go_simp; try (with_reducible rfl))
          simp only [Act.put, List.setIfInBounds_toArray, List.set_cons_zero, List.set_cons_succ]
          refine held_take (i := 11) (d := some 31) (fuel := 4) (listed' := #[true, true, true, true, true, true, true, true, true, true, true, true, false, false, false, false]) (v := ?_) rfl rfl (by kernel_rfl) (by kernel_rfl) (by kernel_rfl) rfl (fun _ _ _ h => h) (by rfl) ?_ (Below.drew (Below.refl w3.heap.size w3)) ?_
          rotate_left
          · (intro wS hSw; go_simp; try (with_reducible rfl))
          simp only [Act.put, List.setIfInBounds_toArray, List.set_cons_zero, List.set_cons_succ]
          refine held_skip (i := 12) (d := some 32) (fuel := 3) (listed' := #[true, true, true, true, true, true, true, true, true, true, true, true, true, false, false, false]) rfl rfl (by kernel_rfl) (by kernel_rfl) (by kernel_rfl) rfl (fun _ _ _ h => h) (by rfl) (Below.drew (Below.refl w3.heap.size w3)) ?_
          simp only [Act.put, List.setIfInBounds_toArray, List.set_cons_zero, List.set_cons_succ]
          refine held_skip (i := 13) (d := some 33) (fuel := 2) (listed' := #[true, true, true, true, true, true, true, true, true, true, true, true, true, true, false, false]) rfl rfl (by kernel_rfl) (by kernel_rfl) (by kernel_rfl) rfl (fun _ _ _ h => h) (by rfl) (Below.drew (Below.refl w3.heap.size w3)) ?_
          simp only [Act.put, List.setIfInBounds_toArray, List.set_cons_zero, List.set_cons_succ]
          refine held_skip (i := 14) (d := some 34) (fuel := 1) (listed' := #[true, true, true, true, true, true, true, true, true, true, true, true, true, true, true, false]) rfl rfl (by kernel_rfl) (by kernel_rfl) (by kernel_rfl) rfl (fun _ _ _ h => h) (by rfl) (Below.drew (Below.refl w3.heap.size w3)) ?_
          simp only [Act.put, List.setIfInBounds_toArray, List.set_cons_zero, List.set_cons_succ]
          refine held_take (i := 15) (d := some 35) (fuel := 0) (listed' := #[true, true, true, true, true, true, true, true, true, true, true, true, true, true, true, true]) (v := ?_) rfl rfl (by kernel_rfl) (by kernel_rfl) (by kernel_rfl) rfl (fun _ _ _ h => h) (by rfl) ?_ (Below.drew (Below.refl w3.heap.size w3)) ?_
          rotate_left
          · (intro wS hSw; go_simp; try (with_reducible rfl))
          simp only [Act.put, List.setIfInBounds_toArray, List.set_cons_zero, List.set_cons_succ]
          refine wpAnyH_done (by kernel_rfl) ?_ _
          go_wp2_with fail
          go_ret
          exact ⟨by rw [HT2.out] <;> rfl, HB3.out.drew⟩
        subst hm0
        have HST := Lib.hid hst
        clear hst hst0
        have hB3 : Below wr.heap.size wr (wr.alloc (.cells #[.int .i64 n.kind, .int .i64 n.num, .string n.text, .string n.ref.sh, .int .i64 n.ref.c, .int .i64 n.ref.r, .bool n.ref.ac, .bool n.ref.ar, .string n.to.sh, .int .i64 n.to.c, .int .i64 n.to.r, .bool n.to.ac, .bool n.to.ar, .slice Ak 0 ck] 38)) := (Below.refl _ _).alloc (Nat.le_refl _) _
        have HN3 : NdAt (wr.alloc (.cells #[.int .i64 n.kind, .int .i64 n.num, .string n.text, .string n.ref.sh, .int .i64 n.ref.c, .int .i64 n.ref.r, .bool n.ref.ac, .bool n.ref.ar, .string n.to.sh, .int .i64 n.to.c, .int .i64 n.to.r, .bool n.to.ac, .bool n.to.ar, .slice Ak 0 ck] 38)) wr.heap.size n (.slice Ak 0 ck) := NdAt.new wr n _
        have HB3 := Lib.hid (HB.out.trans (hB3.mono HB.out.size))
        have HO3 := Lib.hid (HO.out.alloc (.cells #[.int .i64 n.kind, .int .i64 n.num, .string n.text, .string n.ref.sh, .int .i64 n.ref.c, .int .i64 n.ref.r, .bool n.ref.ac, .bool n.ref.ar, .string n.to.sh, .int .i64 n.to.c, .int .i64 n.to.r, .bool n.to.ac, .bool n.to.ar, .slice Ak 0 ck] 38))
        clear hB3
        go_upto_region 6 with (fail)
        generalize hb3 : wr.heap.size = b3 at HN3 ⊢
        generalize wr.alloc (.cells #[.int .i64 n.kind, .int .i64 n.num, .string n.text, .string n.ref.sh, .int .i64 n.ref.c, .int .i64 n.ref.r, .bool n.ref.ac, .bool n.ref.ar, .string n.to.sh, .int .i64 n.to.c, .int .i64 n.to.r, .bool n.to.ac, .bool n.to.ar, .slice Ak 0 ck] 38) = w3 at HN3 HB3 HO3 ⊢
        clear hb3 k0 k1 k2 k3 k4 k5 k6 k7 k8 k9 k10 k11 k12 k13 HO
        have HN3 := Lib.hid HN3
        obtain ⟨f, hf⟩ : ∃ f, st.length - 0 = f := ⟨_, rfl⟩
        have hml : 0 ≤ st.length := Nat.zero_le _
        have hfL : f ≤ st.length := by omega
        have HS1 := Lib.hid (show ∀ W, Below w3.heap.size w3 W → SI W w3.heap.size (.slice none 0 0) (st.drop f) from fun W hW => ⟨none, 0, by rw [HST.out]; simp, by rw [HST.out]; simp, by unfold maxLen; omega, .inl (by rw [HST.out]; simp)⟩)
        have HSK3 := Lib.hid (HSK.out.below HB3.out (Nat.le_refl _))
        by_cases hdk : st.drop f = n.kids
        rotate_left
        · have HT2 := Lib.hid (show treeB (vs.map (·.1)) = false by rw [HT.out, HD.out, treeF_cons, HM.out, hf, decide_eq_false hdk, Bool.false_and, Bool.and_false, Bool.and_false])
          have HEQ := Lib.hid (show ∀ W, Below w3.heap.size w3 W → Calls Tryz.prog 29 #[.slice none 0 0, .slice Ak 0 ck] W fun e w' => e = .returned (.bool false) ∧ Below W.heap.size W w' from fun W hW => by
            have := equal_any W w3.heap.size _ _ _ _ (HS1.out W hW) ((HSK3.out.mono HB3.out.size).below hW (Nat.le_refl _))
            rw [decide_eq_false hdk] at this; exact this)
          clear hml hdk hf hfL
          refine wp_region_held_drew (S := fun W => Below w3.heap.size w3 W) (by kernel_rfl) (Below.drew (Below.refl w3.heap.size w3)) (fun _ => ?_)
          show wpAnyH _ _ _ _ _ 16 #[false, false, false, false, false, false, false, false, false, false, false, false, false, false, false, false] _ _
          refine held_take (i := 0) (d := some 20) (fuel := 15) (listed' := #[true, false, false, false, false, false, false, false, false, false, false, false, false, false, false, false]) (v := ?_) rfl rfl (by kernel_rfl) (by kernel_rfl) (by kernel_rfl) rfl (fun _ _ _ h => h) (by rfl) ?_ (Below.drew (Below.refl w3.heap.size w3)) ?_
          rotate_left
          · (intro wS hSw; go_simp; try (with_reducible rfl))
          simp only [Act.put, List.setIfInBounds_toArray, List.set_cons_zero, List.set_cons_succ]
          refine held_take (i := 1) (d := some 21) (fuel := 14) (listed' := #[true, true, false, false, false, false, false, false, false, false, false, false, false, false, false, false]) (v := ?_) rfl rfl (by kernel_rfl) (by kernel_rfl) (by kernel_rfl) rfl (fun _ _ _ h => h) (by rfl) ?_ (Below.drew (Below.refl w3.heap.size w3)) ?_
          rotate_left
          · (intro wS hSw; go_simp; try (with_reducible rfl))
          simp only [Act.put, List.setIfInBounds_toArray, List.set_cons_zero, List.set_cons_succ]
          refine held_take (i := 2) (d := some 22) (fuel := 13) (listed' := #[true, true, true, false, false, false, false, false, false, false, false, false, false, false, false, false]) (v := ?_) rfl rfl (by kernel_rfl) (by kernel_rfl) (by kernel_rfl) rfl (fun _ _ _ h => h) (by rfl) ?_ (Below.drew (Below.refl w3.heap.size w3)) ?_
          rotate_left
          · (intro wS hSw; go_simp; try (with_reducible rfl))
          simp only [Act.put, List.setIfInBounds_toArray, List.set_cons_zero, List.set_cons_succ]
          refine held_take (i := 3) (d := some 23) (fuel := 12) (listed' := #[true, true, true, true, false, false, false, false, false, false, false, false, false, false, false, false]) (v := ?_) rfl rfl (by kernel_rfl) (by kernel_rfl) (by kernel_rfl) rfl (fun _ _ _ h => h) (by rfl) ?_ (Below.drew (Below.refl w3.heap.size w3)) ?_
          rotate_left
          · (intro wS hSw; go_simp; try (with_reducible rfl))
          simp only [Act.put, List.setIfInBounds_toArray, List.set_cons_zero, List.set_cons_succ]
          refine held_take (i := 4) (d := some 24) (fuel := 11) (listed' := #[true, true, true, true, true, false, false, false, false, false, false, false, false, false, false, false]) (v := ?_) rfl rfl (by kernel_rfl) (by kernel_rfl) (by kernel_rfl) rfl (fun _ _ _ h => h) (by rfl) ?_ (Below.drew (Below.refl w3.heap.size w3)) ?_
          rotate_left
          · (intro wS hSw; go_simp; try (with_reducible rfl))
          simp only [Act.put, List.setIfInBounds_toArray, List.set_cons_zero, List.set_cons_succ]
          refine held_take (i := 5) (d := some 25) (fuel := 10) (listed' := #[true, true, true, true, true, true, false, false, false, false, false, false, false, false, false, false]) (v := ?_) rfl rfl (by kernel_rfl) (by kernel_rfl) (by kernel_rfl) rfl (fun _ _ _ h => h) (by rfl) ?_ (Below.drew (Below.refl w3.heap.size w3)) ?_
          rotate_left
          · (intro wS hSw; go_simp; try (with_reducible rfl))
          simp only [Act.put, List.setIfInBounds_toArray, List.set_cons_zero, List.set_cons_succ]
          refine held_take (i := 6) (d := some 26) (fuel := 9) (listed' := #[true, true, true, true, true, true, true, false, false, false, false, false, false, false, false, false]) (v := ?_) rfl rfl (by kernel_rfl) (by kernel_rfl) (by kernel_rfl) rfl (fun _ _ _ h => h) (by rfl) ?_ (Below.drew (Below.refl w3.heap.size w3)) ?_
          rotate_left
          · (intro wS hSw; go_simp; try (with_reducible rfl))
          simp only [Act.put, List.setIfInBounds_toArray, List.set_cons_zero, List.set_cons_succ]
          refine held_take (i := 7) (d := some 27) (fuel := 8) (listed' := #[true, true, true, true, true, true, true, true, false, false, false, false, false, false, false, false]) (v := ?_) rfl rfl (by kernel_rfl) (by kernel_rfl) (by kernel_rfl) rfl (fun _ _ _ h => h) (by rfl) ?_ (Below.drew (Below.refl w3.heap.size w3)) ?_
          rotate_left
          · (intro wS hSw; have hz := (HN3.out.below hSw HN3.out.lt).cells; go_simp; try (with_reducible rfl))
          simp only [Act.put, List.setIfInBounds_toArray, List.set_cons_zero, List.set_cons_succ]
          refine held_one (i := 8) (d := some 28) (fuel := 7) (listed' := #[true, true, true, true, true, true, true, true, true, false, false, false, false, false, false, false]) rfl rfl (by kernel_rfl) rfl (by rfl) (fun K hK => ?_)
          go_simp
          refine (HEQ.out _ (Below.drew (Below.refl w3.heap.size w3))).mono ?_
          rintro e w4 ⟨rfl, h1⟩
          have HE := Lib.hid ((Below.drew (Below.refl w3.heap.size w3)).trans h1)
          clear h1
          go_wp2_with fail
          refine hK.out _ _ HE.out ?_
          clear hK K
          simp only [Act.put, List.setIfInBounds_toArray, List.set_cons_zero, List.set_cons_succ]
          refine held_take (i := 9) (d := some 29) (fuel := 6) (listed' := #[true, true, true, true, true, true, true, true, true, true, false, false, false, false, false, false]) (v := ?_) rfl rfl (by kernel_rfl) (by kernel_rfl) (by kernel_rfl) rfl (fun _ _ _ h => h) (by rfl) ?_ HE.out ?_
          rotate_left
          · (intro wS hSw; go_simp; try (with_reducible rfl))
          simp only [Act.put, List.setIfInBounds_toArray, List.set_cons_zero, List.set_cons_succ]
          refine held_take (i := 10) (d := some 30) (fuel := 5) (listed' := #[true, true, true, true, true, true, true, true, true, true, true, false, false, false, false, false]) (v := ?_) rfl rfl (by kernel_rfl) (by kernel_rfl) (by kernel_rfl) rfl (fun _ _ _ h => h) (by rfl) ?_ HE.out ?_
          rotate_left
          · (intro wS hSw; go_simp; try (with_reducible rfl))
          simp only [Act.put, List.setIfInBounds_toArray, List.set_cons_zero, List.set_cons_succ]
          refine held_take (i := 11) (d := some 31) (fuel := 4) (listed' := #[true, true, true, true, true, true, true, true, true, true, true, true, false, false, false, false]) (v := ?_) rfl rfl (by kernel_rfl) (by kernel_rfl) (by kernel_rfl) rfl (fun _ _ _ h => h) (by rfl) ?_ HE.out ?_
          rotate_left
          · (intro wS hSw; go_simp; try (with_reducible rfl))
          simp only [Act.put, List.setIfInBounds_toArray, List.set_cons_zero, List.set_cons_succ]
          refine held_skip (i := 12) (d := some 32) (fuel := 3) (listed' := #[true, true, true, true, true, true, true, true, true, true, true, true, true, false, false, false]) rfl rfl (by kernel_rfl) (by kernel_rfl) (by kernel_rfl) rfl (fun _ _ _ h => h) (by rfl) HE.out ?_
          simp only [Act.put, List.setIfInBounds_toArray, List.set_cons_zero, List.set_cons_succ]
          refine held_skip (i := 13) (d := some 33) (fuel := 2) (listed' := #[true, true, true, true, true, true, true, true, true, true, true, true, true, true, false, false]) rfl rfl (by kernel_rfl) (by kernel_rfl) (by kernel_rfl) rfl (fun _ _ _ h => h) (by rfl) HE.out ?_
          simp only [Act.put, List.setIfInBounds_toArray, List.set_cons_zero, List.set_cons_succ]
          refine held_skip (i := 14) (d := some 34) (fuel := 1) (listed' := #[true, true, true, true, true, true, true, true, true, true, true, true, true, true, true, false]) rfl rfl (by kernel_rfl) (by kernel_rfl) (by kernel_rfl) rfl (fun _ _ _ h => h) (by rfl) HE.out ?_
          simp only [Act.put, List.setIfInBounds_toArray, List.set_cons_zero, List.set_cons_succ]
          refine held_take (i := 15) (d := some 35) (fuel := 0) (listed' := #[true, true, true, true, true, true, true, true, true, true, true, true, true, true, true, true]) (v := ?_) rfl rfl (by kernel_rfl) (by kernel_rfl) (by kernel_rfl) rfl (fun _ _ _ h => h) (by rfl) ?_ HE.out ?_
          rotate_left
          · (intro wS hSw; go_simp; try (with_reducible rfl))
          simp only [Act.put, List.setIfInBounds_toArray, List.set_cons_zero, List.set_cons_succ]
          refine wpAnyH_done (by kernel_rfl) ?_ _
          go_wp2_with fail
          go_ret
          exact ⟨by rw [HT2.out] <;> rfl, HB3.out.trans (HE.out.mono HB3.out.size)⟩
        have HEQ := Lib.hid (show ∀ W, Below w3.heap.size w3 W → Calls Tryz.prog 29 #[.slice none 0 0, .slice Ak 0 ck] W fun e w' => e = .returned (.bool true) ∧ Below W.heap.size W w' from fun W hW => by
          have := equal_any W w3.heap.size _ _ _ _ (HS1.out W hW) ((HSK3.out.mono HB3.out.size).below hW (Nat.le_refl _))
          rw [decide_eq_true hdk] at this; exact this)
        have HDK := Lib.hid hdk
        cases hnb : nodeB n
        · have HT2 := Lib.hid (show treeB (vs.map (·.1)) = false by rw [HT.out, HD.out, treeF_cons, hnb, Bool.false_and])
          have HNO := Lib.hid (show ∀ W, Below w3.heap.size w3 W → Calls Tryz.prog 30 #[.agg #[.int .i64 n.kind, .int .i64 n.num, .string n.text, .string n.ref.sh, .int .i64 n.ref.c, .int .i64 n.ref.r, .bool n.ref.ac, .bool n.ref.ar, .string n.to.sh, .int .i64 n.to.c, .int .i64 n.to.r, .bool n.to.ac, .bool n.to.ar, .slice Ak 0 ck]] W fun e w' => e = .returned (.bool false) ∧ Below W.heap.size W w' from fun W hW => by
            have := isNode_any W n (HV.out.below (HB3.out.trans (hW.mono HB3.out.size))) HZ1.out HZ2.out HZ3.out Ak 0 ck HMM.out
            rw [← HM.out, isNd_eq, hnb] at this; rw [← HM.out]; exact this)
          clear hml hdk hf hfL hnb
          refine wp_region_held_drew (S := fun W => Below w3.heap.size w3 W) (by kernel_rfl) (Below.drew (Below.refl w3.heap.size w3)) (fun _ => ?_)
          show wpAnyH _ _ _ _ _ 16 #[false, false, false, false, false, false, false, false, false, false, false, false, false, false, false, false] _ _
          refine held_take (i := 0) (d := some 20) (fuel := 15) (listed' := #[true, false, false, false, false, false, false, false, false, false, false, false, false, false, false, false]) (v := ?_) rfl rfl (by kernel_rfl) (by kernel_rfl) (by kernel_rfl) rfl (fun _ _ _ h => h) (by rfl) ?_ (Below.drew (Below.refl w3.heap.size w3)) ?_
          rotate_left
          · (intro wS hSw; go_simp; try (with_reducible rfl))
          simp only [Act.put, List.setIfInBounds_toArray, List.set_cons_zero, List.set_cons_succ]
          refine held_take (i := 1) (d := some 21) (fuel := 14) (listed' := #[true, true, false, false, false, false, false, false, false, false, false, false, false, false, false, false]) (v := ?_) rfl rfl (by kernel_rfl) (by kernel_rfl) (by kernel_rfl) rfl (fun _ _ _ h => h) (by rfl) ?_ (Below.drew (Below.refl w3.heap.size w3)) ?_
          rotate_left
          · (intro wS hSw; go_simp; try (with_reducible rfl))
          simp only [Act.put, List.setIfInBounds_toArray, List.set_cons_zero, List.set_cons_succ]
          refine held_take (i := 2) (d := some 22) (fuel := 13) (listed' := #[true, true, true, false, false, false, false, false, false, false, false, false, false, false, false, false]) (v := ?_) rfl rfl (by kernel_rfl) (by kernel_rfl) (by kernel_rfl) rfl (fun _ _ _ h => h) (by rfl) ?_ (Below.drew (Below.refl w3.heap.size w3)) ?_
          rotate_left
          · (intro wS hSw; go_simp; try (with_reducible rfl))
          simp only [Act.put, List.setIfInBounds_toArray, List.set_cons_zero, List.set_cons_succ]
          refine held_take (i := 3) (d := some 23) (fuel := 12) (listed' := #[true, true, true, true, false, false, false, false, false, false, false, false, false, false, false, false]) (v := ?_) rfl rfl (by kernel_rfl) (by kernel_rfl) (by kernel_rfl) rfl (fun _ _ _ h => h) (by rfl) ?_ (Below.drew (Below.refl w3.heap.size w3)) ?_
          rotate_left
          · (intro wS hSw; go_simp; try (with_reducible rfl))
          simp only [Act.put, List.setIfInBounds_toArray, List.set_cons_zero, List.set_cons_succ]
          refine held_take (i := 4) (d := some 24) (fuel := 11) (listed' := #[true, true, true, true, true, false, false, false, false, false, false, false, false, false, false, false]) (v := ?_) rfl rfl (by kernel_rfl) (by kernel_rfl) (by kernel_rfl) rfl (fun _ _ _ h => h) (by rfl) ?_ (Below.drew (Below.refl w3.heap.size w3)) ?_
          rotate_left
          · (intro wS hSw; go_simp; try (with_reducible rfl))
          simp only [Act.put, List.setIfInBounds_toArray, List.set_cons_zero, List.set_cons_succ]
          refine held_take (i := 5) (d := some 25) (fuel := 10) (listed' := #[true, true, true, true, true, true, false, false, false, false, false, false, false, false, false, false]) (v := ?_) rfl rfl (by kernel_rfl) (by kernel_rfl) (by kernel_rfl) rfl (fun _ _ _ h => h) (by rfl) ?_ (Below.drew (Below.refl w3.heap.size w3)) ?_
          rotate_left
          · (intro wS hSw; go_simp; try (with_reducible rfl))
          simp only [Act.put, List.setIfInBounds_toArray, List.set_cons_zero, List.set_cons_succ]
          refine held_take (i := 6) (d := some 26) (fuel := 9) (listed' := #[true, true, true, true, true, true, true, false, false, false, false, false, false, false, false, false]) (v := ?_) rfl rfl (by kernel_rfl) (by kernel_rfl) (by kernel_rfl) rfl (fun _ _ _ h => h) (by rfl) ?_ (Below.drew (Below.refl w3.heap.size w3)) ?_
          rotate_left
          · (intro wS hSw; go_simp; try (with_reducible rfl))
          simp only [Act.put, List.setIfInBounds_toArray, List.set_cons_zero, List.set_cons_succ]
          refine held_take (i := 7) (d := some 27) (fuel := 8) (listed' := #[true, true, true, true, true, true, true, true, false, false, false, false, false, false, false, false]) (v := ?_) rfl rfl (by kernel_rfl) (by kernel_rfl) (by kernel_rfl) rfl (fun _ _ _ h => h) (by rfl) ?_ (Below.drew (Below.refl w3.heap.size w3)) ?_
          rotate_left
          · (intro wS hSw; have hz := (HN3.out.below hSw HN3.out.lt).cells; go_simp; try (with_reducible rfl))
          simp only [Act.put, List.setIfInBounds_toArray, List.set_cons_zero, List.set_cons_succ]
          refine held_one (i := 8) (d := some 28) (fuel := 7) (listed' := #[true, true, true, true, true, true, true, true, true, false, false, false, false, false, false, false]) rfl rfl (by kernel_rfl) rfl (by rfl) (fun K hK => ?_)
          go_simp
          refine (HEQ.out _ (Below.drew (Below.refl w3.heap.size w3))).mono ?_
          rintro e w4 ⟨rfl, h1⟩
          have HE := Lib.hid ((Below.drew (Below.refl w3.heap.size w3)).trans h1)
          clear h1
          go_wp2_with fail
          refine hK.out _ _ HE.out ?_
          clear hK K
          simp only [Act.put, List.setIfInBounds_toArray, List.set_cons_zero, List.set_cons_succ]
          refine held_take (i := 9) (d := some 29) (fuel := 6) (listed' := #[true, true, true, true, true, true, true, true, true, true, false, false, false, false, false, false]) (v := ?_) rfl rfl (by kernel_rfl) (by kernel_rfl) (by kernel_rfl) rfl (fun _ _ _ h => h) (by rfl) ?_ HE.out ?_
          rotate_left
          · (intro wS hSw; go_simp; try (with_reducible rfl))
          simp only [Act.put, List.setIfInBounds_toArray, List.set_cons_zero, List.set_cons_succ]
          refine held_take (i := 10) (d := some 30) (fuel := 5) (listed' := #[true, true, true, true, true, true, true, true, true, true, true, false, false, false, false, false]) (v := ?_) rfl rfl (by kernel_rfl) (by kernel_rfl) (by kernel_rfl) rfl (fun _ _ _ h => h) (by rfl) ?_ HE.out ?_
          rotate_left
          · (intro wS hSw; go_simp; try (with_reducible rfl))
          simp only [Act.put, List.setIfInBounds_toArray, List.set_cons_zero, List.set_cons_succ]
          refine held_take (i := 11) (d := some 31) (fuel := 4) (listed' := #[true, true, true, true, true, true, true, true, true, true, true, true, false, false, false, false]) (v := ?_) rfl rfl (by kernel_rfl) (by kernel_rfl) (by kernel_rfl) rfl (fun _ _ _ h => h) (by rfl) ?_ HE.out ?_
          rotate_left
          · (intro wS hSw; go_simp; try (with_reducible rfl))
          simp only [Act.put, List.setIfInBounds_toArray, List.set_cons_zero, List.set_cons_succ]
          refine held_take (i := 12) (d := some 32) (fuel := 3) (listed' := #[true, true, true, true, true, true, true, true, true, true, true, true, true, false, false, false]) (v := ?_) rfl rfl (by kernel_rfl) (by kernel_rfl) (by kernel_rfl) rfl (fun _ _ _ h => h) (by rfl) ?_ HE.out ?_
          rotate_left
          · (intro wS hSw; have hz := (HN3.out.below hSw HN3.out.lt).cells; go_simp; try (with_reducible rfl))
          simp only [Act.put, List.setIfInBounds_toArray, List.set_cons_zero, List.set_cons_succ]
          refine held_one (i := 13) (d := some 33) (fuel := 2) (listed' := #[true, true, true, true, true, true, true, true, true, true, true, true, true, true, false, false]) rfl rfl (by kernel_rfl) rfl (by rfl) (fun K hK => ?_)
          go_simp
          refine (HNO.out _ HE.out).mono ?_
          rintro e w5 ⟨rfl, h1⟩
          have HF := Lib.hid (HE.out.trans (h1.mono HE.out.size))
          clear h1
          go_wp2_with fail
          refine hK.out _ _ HF.out ?_
          clear hK K
          simp only [Act.put, List.setIfInBounds_toArray, List.set_cons_zero, List.set_cons_succ]
          refine held_take (i := 14) (d := some 34) (fuel := 1) (listed' := #[true, true, true, true, true, true, true, true, true, true, true, true, true, true, true, false]) (v := ?_) rfl rfl (by kernel_rfl) (by kernel_rfl) (by kernel_rfl) rfl (fun _ _ _ h => h) (by rfl) ?_ HF.out ?_
          rotate_left
          · (intro wS hSw; go_simp; try (with_reducible rfl))
          simp only [Act.put, List.setIfInBounds_toArray, List.set_cons_zero, List.set_cons_succ]
          refine held_take (i := 15) (d := some 35) (fuel := 0) (listed' := #[true, true, true, true, true, true, true, true, true, true, true, true, true, true, true, true]) (v := ?_) rfl rfl (by kernel_rfl) (by kernel_rfl) (by kernel_rfl) rfl (fun _ _ _ h => h) (by rfl) ?_ HF.out ?_
          rotate_left
          · (intro wS hSw; go_simp; try (with_reducible rfl))
          simp only [Act.put, List.setIfInBounds_toArray, List.set_cons_zero, List.set_cons_succ]
          refine wpAnyH_done (by kernel_rfl) ?_ _
          go_wp2_with fail
          go_ret
          exact ⟨by rw [HT2.out] <;> rfl, HB3.out.trans (HF.out.mono HB3.out.size)⟩
        · have HT2 := Lib.hid (show treeB (vs.map (·.1)) = treeF (st.take f ++ [(i : Int)]) (i + 1) ((vs.map (·.1)).drop (i + 1)) by rw [HT.out, HD.out, treeF_cons, hnb, HM.out, decide_eq_true hml, hf, decide_eq_true hdk, Bool.true_and, Bool.true_and, Bool.true_and])
          have HNO := Lib.hid (show ∀ W, Below w3.heap.size w3 W → Calls Tryz.prog 30 #[.agg #[.int .i64 n.kind, .int .i64 n.num, .string n.text, .string n.ref.sh, .int .i64 n.ref.c, .int .i64 n.ref.r, .bool n.ref.ac, .bool n.ref.ar, .string n.to.sh, .int .i64 n.to.c, .int .i64 n.to.r, .bool n.to.ac, .bool n.to.ar, .slice Ak 0 ck]] W fun e w' => e = .returned (.bool true) ∧ Below W.heap.size W w' from fun W hW => by
            have := isNode_any W n (HV.out.below (HB3.out.trans (hW.mono HB3.out.size))) HZ1.out HZ2.out HZ3.out Ak 0 ck HMM.out
            rw [← HM.out, isNd_eq, hnb] at this; rw [← HM.out]; exact this)
          clear hml hdk hnb
          refine wp_region_held_drew (S := fun W => Below w3.heap.size w3 W) (by kernel_rfl) (Below.drew (Below.refl w3.heap.size w3)) (fun _ => ?_)
          show wpAnyH _ _ _ _ _ 16 #[false, false, false, false, false, false, false, false, false, false, false, false, false, false, false, false] _ _
          refine held_take (i := 0) (d := some 20) (fuel := 15) (listed' := #[true, false, false, false, false, false, false, false, false, false, false, false, false, false, false, false]) (v := ?_) rfl rfl (by kernel_rfl) (by kernel_rfl) (by kernel_rfl) rfl (fun _ _ _ h => h) (by rfl) ?_ (Below.drew (Below.refl w3.heap.size w3)) ?_
          rotate_left
          · (intro wS hSw; go_simp; try (with_reducible rfl))
          simp only [Act.put, List.setIfInBounds_toArray, List.set_cons_zero, List.set_cons_succ]
          refine held_take (i := 1) (d := some 21) (fuel := 14) (listed' := #[true, true, false, false, false, false, false, false, false, false, false, false, false, false, false, false]) (v := ?_) rfl rfl (by kernel_rfl) (by kernel_rfl) (by kernel_rfl) rfl (fun _ _ _ h => h) (by rfl) ?_ (Below.drew (Below.refl w3.heap.size w3)) ?_
          rotate_left
          · (intro wS hSw; go_simp; try (with_reducible rfl))
          simp only [Act.put, List.setIfInBounds_toArray, List.set_cons_zero, List.set_cons_succ]
          refine held_take (i := 2) (d := some 22) (fuel := 13) (listed' := #[true, true, true, false, false, false, false, false, false, false, false, false, false, false, false, false]) (v := ?_) rfl rfl (by kernel_rfl) (by kernel_rfl) (by kernel_rfl) rfl (fun _ _ _ h => h) (by rfl) ?_ (Below.drew (Below.refl w3.heap.size w3)) ?_
          rotate_left
          · (intro wS hSw; go_simp; try (with_reducible rfl))
          simp only [Act.put, List.setIfInBounds_toArray, List.set_cons_zero, List.set_cons_succ]
          refine held_take (i := 3) (d := some 23) (fuel := 12) (listed' := #[true, true, true, true, false, false, false, false, false, false, false, false, false, false, false, false]) (v := ?_) rfl rfl (by kernel_rfl) (by kernel_rfl) (by kernel_rfl) rfl (fun _ _ _ h => h) (by rfl) ?_ (Below.drew (Below.refl w3.heap.size w3)) ?_
          rotate_left
          · (intro wS hSw; go_simp; try (with_reducible rfl))
          simp only [Act.put, List.setIfInBounds_toArray, List.set_cons_zero, List.set_cons_succ]
          refine held_take (i := 4) (d := some 24) (fuel := 11) (listed' := #[true, true, true, true, true, false, false, false, false, false, false, false, false, false, false, false]) (v := ?_) rfl rfl (by kernel_rfl) (by kernel_rfl) (by kernel_rfl) rfl (fun _ _ _ h => h) (by rfl) ?_ (Below.drew (Below.refl w3.heap.size w3)) ?_
          rotate_left
          · (intro wS hSw; go_simp; try (with_reducible rfl))
          simp only [Act.put, List.setIfInBounds_toArray, List.set_cons_zero, List.set_cons_succ]
          refine held_take (i := 5) (d := some 25) (fuel := 10) (listed' := #[true, true, true, true, true, true, false, false, false, false, false, false, false, false, false, false]) (v := ?_) rfl rfl (by kernel_rfl) (by kernel_rfl) (by kernel_rfl) rfl (fun _ _ _ h => h) (by rfl) ?_ (Below.drew (Below.refl w3.heap.size w3)) ?_
          rotate_left
          · (intro wS hSw; go_simp; try (with_reducible rfl))
          simp only [Act.put, List.setIfInBounds_toArray, List.set_cons_zero, List.set_cons_succ]
          refine held_take (i := 6) (d := some 26) (fuel := 9) (listed' := #[true, true, true, true, true, true, true, false, false, false, false, false, false, false, false, false]) (v := ?_) rfl rfl (by kernel_rfl) (by kernel_rfl) (by kernel_rfl) rfl (fun _ _ _ h => h) (by rfl) ?_ (Below.drew (Below.refl w3.heap.size w3)) ?_
          rotate_left
          · (intro wS hSw; go_simp; try (with_reducible rfl))
          simp only [Act.put, List.setIfInBounds_toArray, List.set_cons_zero, List.set_cons_succ]
          refine held_take (i := 7) (d := some 27) (fuel := 8) (listed' := #[true, true, true, true, true, true, true, true, false, false, false, false, false, false, false, false]) (v := ?_) rfl rfl (by kernel_rfl) (by kernel_rfl) (by kernel_rfl) rfl (fun _ _ _ h => h) (by rfl) ?_ (Below.drew (Below.refl w3.heap.size w3)) ?_
          rotate_left
          · (intro wS hSw; have hz := (HN3.out.below hSw HN3.out.lt).cells; go_simp; try (with_reducible rfl))
          simp only [Act.put, List.setIfInBounds_toArray, List.set_cons_zero, List.set_cons_succ]
          refine held_one (i := 8) (d := some 28) (fuel := 7) (listed' := #[true, true, true, true, true, true, true, true, true, false, false, false, false, false, false, false]) rfl rfl (by kernel_rfl) rfl (by rfl) (fun K hK => ?_)
          go_simp
          refine (HEQ.out _ (Below.drew (Below.refl w3.heap.size w3))).mono ?_
          rintro e w4 ⟨rfl, h1⟩
          have HE := Lib.hid ((Below.drew (Below.refl w3.heap.size w3)).trans h1)
          clear h1
          go_wp2_with fail
          refine hK.out _ _ HE.out ?_
          clear hK K
          simp only [Act.put, List.setIfInBounds_toArray, List.set_cons_zero, List.set_cons_succ]
          refine held_take (i := 9) (d := some 29) (fuel := 6) (listed' := #[true, true, true, true, true, true, true, true, true, true, false, false, false, false, false, false]) (v := ?_) rfl rfl (by kernel_rfl) (by kernel_rfl) (by kernel_rfl) rfl (fun _ _ _ h => h) (by rfl) ?_ HE.out ?_
          rotate_left
          · (intro wS hSw; go_simp; try (with_reducible rfl))
          simp only [Act.put, List.setIfInBounds_toArray, List.set_cons_zero, List.set_cons_succ]
          refine held_take (i := 10) (d := some 30) (fuel := 5) (listed' := #[true, true, true, true, true, true, true, true, true, true, true, false, false, false, false, false]) (v := ?_) rfl rfl (by kernel_rfl) (by kernel_rfl) (by kernel_rfl) rfl (fun _ _ _ h => h) (by rfl) ?_ HE.out ?_
          rotate_left
          · (intro wS hSw; go_simp; try (with_reducible rfl))
          simp only [Act.put, List.setIfInBounds_toArray, List.set_cons_zero, List.set_cons_succ]
          refine held_take (i := 11) (d := some 31) (fuel := 4) (listed' := #[true, true, true, true, true, true, true, true, true, true, true, true, false, false, false, false]) (v := ?_) rfl rfl (by kernel_rfl) (by kernel_rfl) (by kernel_rfl) rfl (fun _ _ _ h => h) (by rfl) ?_ HE.out ?_
          rotate_left
          · (intro wS hSw; go_simp; try (with_reducible rfl))
          simp only [Act.put, List.setIfInBounds_toArray, List.set_cons_zero, List.set_cons_succ]
          refine held_take (i := 12) (d := some 32) (fuel := 3) (listed' := #[true, true, true, true, true, true, true, true, true, true, true, true, true, false, false, false]) (v := ?_) rfl rfl (by kernel_rfl) (by kernel_rfl) (by kernel_rfl) rfl (fun _ _ _ h => h) (by rfl) ?_ HE.out ?_
          rotate_left
          · (intro wS hSw; have hz := (HN3.out.below hSw HN3.out.lt).cells; go_simp; try (with_reducible rfl))
          simp only [Act.put, List.setIfInBounds_toArray, List.set_cons_zero, List.set_cons_succ]
          refine held_one (i := 13) (d := some 33) (fuel := 2) (listed' := #[true, true, true, true, true, true, true, true, true, true, true, true, true, true, false, false]) rfl rfl (by kernel_rfl) rfl (by rfl) (fun K hK => ?_)
          go_simp
          refine (HNO.out _ HE.out).mono ?_
          rintro e w5 ⟨rfl, h1⟩
          have HF := Lib.hid (HE.out.trans (h1.mono HE.out.size))
          clear h1
          go_wp2_with fail
          refine hK.out _ _ HF.out ?_
          clear hK K
          simp only [Act.put, List.setIfInBounds_toArray, List.set_cons_zero, List.set_cons_succ]
          refine held_take (i := 14) (d := some 34) (fuel := 1) (listed' := #[true, true, true, true, true, true, true, true, true, true, true, true, true, true, true, false]) (v := ?_) rfl rfl (by kernel_rfl) (by kernel_rfl) (by kernel_rfl) rfl (fun _ _ _ h => h) (by rfl) ?_ HF.out ?_
          rotate_left
          · (intro wS hSw; go_simp; try (with_reducible rfl))
          simp only [Act.put, List.setIfInBounds_toArray, List.set_cons_zero, List.set_cons_succ]
          refine held_take (i := 15) (d := some 35) (fuel := 0) (listed' := #[true, true, true, true, true, true, true, true, true, true, true, true, true, true, true, true]) (v := ?_) rfl rfl (by kernel_rfl) (by kernel_rfl) (by kernel_rfl) rfl (fun _ _ _ h => h) (by rfl) ?_ HF.out ?_
          rotate_left
          · (intro wS hSw; go_simp; try (with_reducible rfl))
          simp only [Act.put, List.setIfInBounds_toArray, List.set_cons_zero, List.set_cons_succ]
          refine wpAnyH_done (by kernel_rfl) ?_ _
          have HB5 := Lib.hid (HB3.out.trans (HF.out.mono HB3.out.size))
          have HO5 := Lib.hid (HO3.out.below HF.out (Nat.le_refl _))
          have hlt5 : (st.take f).length ≤ 1000 := by rw [List.length_take]; omega
          go_wp2_with (at_builtin; refine wpList_app HEL.out (encInt .i64) rfl (.tmp 38) (.tmp 40) rfl w.heap.size (.slice none 0 0) (st.take f) rfl ((show Own (encInt .i64) 3 w5 w.heap.size (.slice none 0 0) (st.take f) from by rw [HST.out, List.take_nil]; exact Own.nil _ _ _ _).alloc _) ⟨w5.heap.size, 0, none⟩ 1 1 [(i : Int)] rfl rfl ?_ ?_ ?_ ?_ ?_; exact cells_new _ _ _ rfl; exact Nat.le_trans (Nat.mul_le_mul_left _ hEB) (by omega); (unfold maxLen; omega); (have := HB5.out.size; simp <;> omega); intro kv' w6 h1 h2; have HO6 := Lib.hid h1; have HB6 := Lib.hid (((HB5.out.alloc HB5.out.size _)).trans h2); clear h1 h2)
          go_roundw
          case rel => exact ⟨i + 1, st.take f ++ [(i : Int)], kv', by omega, by rw [List.length_append, List.length_take, List.length_singleton]; omega, rfl, by go_num, HT2, HO6, HB6⟩
          case measure => simp [intOf]; omega
      · skip
        by_cases hml : m ≤ st.length
        rotate_left
        · have hneg : (st.length : Int) - (m : Int) < 0 := by omega
          have HT2 := Lib.hid (show treeB (vs.map (·.1)) = false by rw [HT.out, HD.out, treeF_cons, HM.out, decide_eq_false hml, Bool.false_and, Bool.and_false])
          have hw1 : -9223372036854775808 ≤ (st.length : Int) - (m : Int) := by omega
          have hw2 : (st.length : Int) - (m : Int) ≤ 9223372036854775807 := by omega
          clear hml
          have hB3 : Below wr.heap.size wr (wr.alloc (.cells #[.int .i64 n.kind, .int .i64 n.num, .string n.text, .string n.ref.sh, .int .i64 n.ref.c, .int .i64 n.ref.r, .bool n.ref.ac, .bool n.ref.ar, .string n.to.sh, .int .i64 n.to.c, .int .i64 n.to.r, .bool n.to.ac, .bool n.to.ar, .slice Ak m ck] 38)) := (Below.refl _ _).alloc (Nat.le_refl _) _
          have HN3 : NdAt (wr.alloc (.cells #[.int .i64 n.kind, .int .i64 n.num, .string n.text, .string n.ref.sh, .int .i64 n.ref.c, .int .i64 n.ref.r, .bool n.ref.ac, .bool n.ref.ar, .string n.to.sh, .int .i64 n.to.c, .int .i64 n.to.r, .bool n.to.ac, .bool n.to.ar, .slice Ak m ck] 38)) wr.heap.size n (.slice Ak m ck) := NdAt.new wr n _
          have HB3 := Lib.hid (HB.out.trans (hB3.mono HB.out.size))
          have HO3 := Lib.hid (HO.out.alloc (.cells #[.int .i64 n.kind, .int .i64 n.num, .string n.text, .string n.ref.sh, .int .i64 n.ref.c, .int .i64 n.ref.r, .bool n.ref.ac, .bool n.ref.ar, .string n.to.sh, .int .i64 n.to.c, .int .i64 n.to.r, .bool n.to.ac, .bool n.to.ar, .slice Ak m ck] 38))
          clear hB3
          go_upto_region 6 with (fail)
          generalize hb3 : wr.heap.size = b3 at HN3 ⊢
          generalize wr.alloc (.cells #[.int .i64 n.kind, .int .i64 n.num, .string n.text, .string n.ref.sh, .int .i64 n.ref.c, .int .i64 n.ref.r, .bool n.ref.ac, .bool n.ref.ar, .string n.to.sh, .int .i64 n.to.c, .int .i64 n.to.r, .bool n.to.ac, .bool n.to.ar, .slice Ak m ck] 38) = w3 at HN3 HB3 HO3 ⊢
          clear hb3 k0 k1 k2 k3 k4 k5 k6 k7 k8 k9 k10 k11 k12 k13 HO
          have HN3 := Lib.hid HN3
          refine wp_region_held_drew (S := fun W => Below w3.heap.size w3 W) (by kernel_rfl) (Below.drew (Below.refl w3.heap.size w3)) (fun _ => ?_)
          show wpAnyH _ _ _ _ _ 16 #[false, false, false, false, false, false, false, false, false, false, false, false, false, false, false, false] _ _
          refine held_take (i := 0) (d := some 20) (fuel := 15) (listed' := #[true, false, false, false, false, false, false, false, false, false, false, false, false, false, false, false]) (v := ?_) rfl rfl (by kernel_rfl) (by kernel_rfl) (by kernel_rfl) rfl (fun _ _ _ h => h) (by rfl) ?_ (Below.drew (Below.refl w3.heap.size w3)) ?_
          rotate_left
          · (intro wS hSw; go_simp; try (with_reducible rfl))
          simp only [Act.put, List.setIfInBounds_toArray, List.set_cons_zero, List.set_cons_succ]
          refine held_take (i := 1) (d := some 21) (fuel := 14) (listed' := #[true, true, false, false, false, false, false, false, false, false, false, false, false, false, false, false]) (v := ?_) rfl rfl (by kernel_rfl) (by kernel_rfl) (by kernel_rfl) rfl (fun _ _ _ h => h) (by rfl) ?_ (Below.drew (Below.refl w3.heap.size w3)) ?_
          rotate_left
          · (intro wS hSw; go_simp; try (with_reducible rfl))
          simp only [Act.put, List.setIfInBounds_toArray, List.set_cons_zero, List.set_cons_succ]
          refine held_take (i := 2) (d := some 22) (fuel := 13) (listed' := #[true, true, true, false, false, false, false, false, false, false, false, false, false, false, false, false]) (v := ?_) rfl rfl (by kernel_rfl) (by kernel_rfl) (by kernel_rfl) rfl (fun _ _ _ h => h) (by rfl) ?_ (Below.drew (Below.refl w3.heap.size w3)) ?_
          rotate_left
          · (intro wS hSw; go_simp; try (with_reducible rfl))
          simp only [Act.put, List.setIfInBounds_toArray, List.set_cons_zero, List.set_cons_succ]
          refine held_skip (i := 3) (d := some 23) (fuel := 12) (listed' := #[true, true, true, true, false, false, false, false, false, false, false, false, false, false, false, false]) rfl rfl (by kernel_rfl) (by kernel_rfl) (by kernel_rfl) rfl (fun _ _ _ h => h) (by rfl) (Below.drew (Below.refl w3.heap.size w3)) ?_
          simp only [Act.put, List.setIfInBounds_toArray, List.set_cons_zero, List.set_cons_succ]
          refine held_skip (i := 4) (d := some 24) (fuel := 11) (listed' := #[true, true, true, true, true, false, false, false, false, false, false, false, false, false, false, false]) rfl rfl (by kernel_rfl) (by kernel_rfl) (by kernel_rfl) rfl (fun _ _ _ h => h) (by rfl) (Below.drew (Below.refl w3.heap.size w3)) ?_
          simp only [Act.put, List.setIfInBounds_toArray, List.set_cons_zero, List.set_cons_succ]
          refine held_skip (i := 5) (d := some 25) (fuel := 10) (listed' := #[true, true, true, true, true, true, false, false, false, false, false, false, false, false, false, false]) rfl rfl (by kernel_rfl) (by kernel_rfl) (by kernel_rfl) rfl (fun _ _ _ h => h) (by rfl) (Below.drew (Below.refl w3.heap.size w3)) ?_
          simp only [Act.put, List.setIfInBounds_toArray, List.set_cons_zero, List.set_cons_succ]
          refine held_skip (i := 6) (d := some 26) (fuel := 9) (listed' := #[true, true, true, true, true, true, true, false, false, false, false, false, false, false, false, false]) rfl rfl (by kernel_rfl) (by kernel_rfl) (by kernel_rfl) rfl (fun _ _ _ h => h) (by rfl) (Below.drew (Below.refl w3.heap.size w3)) ?_
          simp only [Act.put, List.setIfInBounds_toArray, List.set_cons_zero, List.set_cons_succ]
          refine held_skip (i := 7) (d := some 27) (fuel := 8) (listed' := #[true, true, true, true, true, true, true, true, false, false, false, false, false, false, false, false]) rfl rfl (by kernel_rfl) (by kernel_rfl) (by kernel_rfl) rfl (fun _ _ _ h => h) (by rfl) (Below.drew (Below.refl w3.heap.size w3)) ?_
          simp only [Act.put, List.setIfInBounds_toArray, List.set_cons_zero, List.set_cons_succ]
          refine held_skip (i := 8) (d := some 28) (fuel := 7) (listed' := #[true, true, true, true, true, true, true, true, true, false, false, false, false, false, false, false]) rfl rfl (by kernel_rfl) (by kernel_rfl) (by kernel_rfl) rfl (fun _ _ _ h => h) (by rfl) (Below.drew (Below.refl w3.heap.size w3)) ?_
          simp only [Act.put, List.setIfInBounds_toArray, List.set_cons_zero, List.set_cons_succ]
          refine held_skip (i := 9) (d := some 29) (fuel := 6) (listed' := #[true, true, true, true, true, true, true, true, true, true, false, false, false, false, false, false]) rfl rfl (by kernel_rfl) (by kernel_rfl) (by kernel_rfl) rfl (fun _ _ _ h => h) (by rfl) (Below.drew (Below.refl w3.heap.size w3)) ?_
          simp only [Act.put, List.setIfInBounds_toArray, List.set_cons_zero, List.set_cons_succ]
          refine held_take (i := 10) (d := some 30) (fuel := 5) (listed' := #[true, true, true, true, true, true, true, true, true, true, true, false, false, false, false, false]) (v := ?_) rfl rfl (by kernel_rfl) (by kernel_rfl) (by kernel_rfl) rfl (fun _ _ _ h => h) (by rfl) ?_ (Below.drew (Below.refl w3.heap.size w3)) ?_
          rotate_left
          · (intro wS hSw; go_simp; try (with_reducible rfl))
          simp only [Act.put, List.setIfInBounds_toArray, List.set_cons_zero, List.set_cons_succ]
          refine held_take (i := 11) (d := some 31) (fuel := 4) (listed' := #[true, true, true, true, true, true, true, true, true, true, true, true, false, false, false, false]) (v := ?_) rfl rfl (by kernel_rfl) (by kernel_rfl) (by kernel_rfl) rfl (fun _ _ _ h => h) (by rfl) ?_ (Below.drew (Below.refl w3.heap.size w3)) ?_
          rotate_left
          · (intro wS hSw; go_simp; try (with_reducible rfl))
          simp only [Act.put, List.setIfInBounds_toArray, List.set_cons_zero, List.set_cons_succ]
          refine held_skip (i := 12) (d := some 32) (fuel := 3) (listed' := #[true, true, true, true, true, true, true, true, true, true, true, true, true, false, false, false]) rfl rfl (by kernel_rfl) (by kernel_rfl) (by kernel_rfl) rfl (fun _ _ _ h => h) (by rfl) (Below.drew (Below.refl w3.heap.size w3)) ?_
          simp only [Act.put, List.setIfInBounds_toArray, List.set_cons_zero, List.set_cons_succ]
          refine held_skip (i := 13) (d := some 33) (fuel := 2) (listed' := #[true, true, true, true, true, true, true, true, true, true, true, true, true, true, false, false]) rfl rfl (by kernel_rfl) (by kernel_rfl) (by kernel_rfl) rfl (fun _ _ _ h => h) (by rfl) (Below.drew (Below.refl w3.heap.size w3)) ?_
          simp only [Act.put, List.setIfInBounds_toArray, List.set_cons_zero, List.set_cons_succ]
          refine held_skip (i := 14) (d := some 34) (fuel := 1) (listed' := #[true, true, true, true, true, true, true, true, true, true, true, true, true, true, true, false]) rfl rfl (by kernel_rfl) (by kernel_rfl) (by kernel_rfl) rfl (fun _ _ _ h => h) (by rfl) (Below.drew (Below.refl w3.heap.size w3)) ?_
          simp only [Act.put, List.setIfInBounds_toArray, List.set_cons_zero, List.set_cons_succ]
          refine held_take (i := 15) (d := some 35) (fuel := 0) (listed' := #[true, true, true, true, true, true, true, true, true, true, true, true, true, true, true, true]) (v := ?_) rfl rfl (by kernel_rfl) (by kernel_rfl) (by kernel_rfl) rfl (fun _ _ _ h => h) (by rfl) ?_ (Below.drew (Below.refl w3.heap.size w3)) ?_
          rotate_left
          · (intro wS hSw; go_simp; try (with_reducible rfl))
          simp only [Act.put, List.setIfInBounds_toArray, List.set_cons_zero, List.set_cons_succ]
          refine wpAnyH_done (by kernel_rfl) ?_ _
          go_wp2_with fail
          go_ret
          exact ⟨by rw [HT2.out] <;> rfl, HB3.out.drew⟩
        obtain ⟨f, hf⟩ : ∃ f, st.length - m = f := ⟨_, rfl⟩
        have hw1 : -9223372036854775808 ≤ (st.length : Int) - (m : Int) := by omega
        have hw2 : (st.length : Int) - (m : Int) ≤ 9223372036854775807 := by omega
        have hfi : (st.length : Int) - (m : Int) = (f : Int) := by omega
        have hfn : ¬ (f : Int) < 0 := by omega
        have hf0 : (0 : Int) ≤ (f : Int) := by omega
        have hfl : (f : Int) ≤ (st.length : Int) := by omega
        have hfL : f ≤ st.length := by omega
        have hB3 : Below wr.heap.size wr (wr.alloc (.cells #[.int .i64 n.kind, .int .i64 n.num, .string n.text, .string n.ref.sh, .int .i64 n.ref.c, .int .i64 n.ref.r, .bool n.ref.ac, .bool n.ref.ar, .string n.to.sh, .int .i64 n.to.c, .int .i64 n.to.r, .bool n.to.ac, .bool n.to.ar, .slice Ak m ck] 38)) := (Below.refl _ _).alloc (Nat.le_refl _) _
        have HN3 : NdAt (wr.alloc (.cells #[.int .i64 n.kind, .int .i64 n.num, .string n.text, .string n.ref.sh, .int .i64 n.ref.c, .int .i64 n.ref.r, .bool n.ref.ac, .bool n.ref.ar, .string n.to.sh, .int .i64 n.to.c, .int .i64 n.to.r, .bool n.to.ac, .bool n.to.ar, .slice Ak m ck] 38)) wr.heap.size n (.slice Ak m ck) := NdAt.new wr n _
        have HB3 := Lib.hid (HB.out.trans (hB3.mono HB.out.size))
        have HO3 := Lib.hid (HO.out.alloc (.cells #[.int .i64 n.kind, .int .i64 n.num, .string n.text, .string n.ref.sh, .int .i64 n.ref.c, .int .i64 n.ref.r, .bool n.ref.ac, .bool n.ref.ar, .string n.to.sh, .int .i64 n.to.c, .int .i64 n.to.r, .bool n.to.ac, .bool n.to.ar, .slice Ak m ck] 38))
        clear hB3
        go_upto_region 6 with (fail)
        generalize hb3 : wr.heap.size = b3 at HN3 ⊢
        generalize wr.alloc (.cells #[.int .i64 n.kind, .int .i64 n.num, .string n.text, .string n.ref.sh, .int .i64 n.ref.c, .int .i64 n.ref.r, .bool n.ref.ac, .bool n.ref.ar, .string n.to.sh, .int .i64 n.to.c, .int .i64 n.to.r, .bool n.to.ac, .bool n.to.ar, .slice Ak m ck] 38) = w3 at HN3 HB3 HO3 ⊢
        clear hb3 k0 k1 k2 k3 k4 k5 k6 k7 k8 k9 k10 k11 k12 k13 HO
        have HN3 := Lib.hid HN3
        have hflc : (f : Int) ≤ (rcap : Int) := by omega
        obtain ⟨AT, hAT⟩ : ∃ AT, (if rcap = f then some (⟨rg, 0, none⟩ : Addr) else some ⟨rg, f, none⟩) = AT := ⟨_, rfl⟩
        have HS1 := Lib.hid (show ∀ W, Below w3.heap.size w3 W → SI W w3.heap.size (.slice AT (st.length - f) (rcap - f)) (st.drop f) from fun W hW => by rw [← hAT]; exact (SI.tail HO3.out f hfL hrc hrm (by have := (HO3.out.blockLt rg rfl).2.1; exact this)).below hW (Nat.le_refl _))
        have HSK3 := Lib.hid (HSK.out.below HB3.out (Nat.le_refl _))
        by_cases hdk : st.drop f = n.kids
        rotate_left
        · have HT2 := Lib.hid (show treeB (vs.map (·.1)) = false by rw [HT.out, HD.out, treeF_cons, HM.out, hf, decide_eq_false hdk, Bool.false_and, Bool.and_false, Bool.and_false])
          have HEQ := Lib.hid (show ∀ W, Below w3.heap.size w3 W → Calls Tryz.prog 29 #[.slice AT (st.length - f) (rcap - f), .slice Ak m ck] W fun e w' => e = .returned (.bool false) ∧ Below W.heap.size W w' from fun W hW => by
            have := equal_any W w3.heap.size _ _ _ _ (HS1.out W hW) ((HSK3.out.mono HB3.out.size).below hW (Nat.le_refl _))
            rw [decide_eq_false hdk] at this; exact this)
          clear hml hdk hf hfL
          refine wp_region_held_drew (S := fun W => Below w3.heap.size w3 W) (by kernel_rfl) (Below.drew (Below.refl w3.heap.size w3)) (fun _ => ?_)
          show wpAnyH _ _ _ _ _ 16 #[false, false, false, false, false, false, false, false, false, false, false, false, false, false, false, false] _ _
          refine held_take (i := 0) (d := some 20) (fuel := 15) (listed' := #[true, false, false, false, false, false, false, false, false, false, false, false, false, false, false, false]) (v := ?_) rfl rfl (by kernel_rfl) (by kernel_rfl) (by kernel_rfl) rfl (fun _ _ _ h => h) (by rfl) ?_ (Below.drew (Below.refl w3.heap.size w3)) ?_
          rotate_left
          · (intro wS hSw; go_simp; try (with_reducible rfl))
          simp only [Act.put, List.setIfInBounds_toArray, List.set_cons_zero, List.set_cons_succ]
          refine held_take (i := 1) (d := some 21) (fuel := 14) (listed' := #[true, true, false, false, false, false, false, false, false, false, false, false, false, false, false, false]) (v := ?_) rfl rfl (by kernel_rfl) (by kernel_rfl) (by kernel_rfl) rfl (fun _ _ _ h => h) (by rfl) ?_ (Below.drew (Below.refl w3.heap.size w3)) ?_
          rotate_left
          · (intro wS hSw; go_simp; try (with_reducible rfl))
          simp only [Act.put, List.setIfInBounds_toArray, List.set_cons_zero, List.set_cons_succ]
          refine held_take (i := 2) (d := some 22) (fuel := 13) (listed' := #[true, true, true, false, false, false, false, false, false, false, false, false, false, false, false, false]) (v := ?_) rfl rfl (by kernel_rfl) (by kernel_rfl) (by kernel_rfl) rfl (fun _ _ _ h => h) (by rfl) ?_ (Below.drew (Below.refl w3.heap.size w3)) ?_
          rotate_left
          · (intro wS hSw; go_simp; try (with_reducible rfl))
          simp only [Act.put, List.setIfInBounds_toArray, List.set_cons_zero, List.set_cons_succ]
          refine held_take (i := 3) (d := some 23) (fuel := 12) (listed' := #[true, true, true, true, false, false, false, false, false, false, false, false, false, false, false, false]) (v := ?_) rfl rfl (by kernel_rfl) (by kernel_rfl) (by kernel_rfl) rfl (fun _ _ _ h => h) (by rfl) ?_ (Below.drew (Below.refl w3.heap.size w3)) ?_
          rotate_left
          · (intro wS hSw; go_simp; try (with_reducible rfl))
          simp only [Act.put, List.setIfInBounds_toArray, List.set_cons_zero, List.set_cons_succ]
          refine held_take (i := 4) (d := some 24) (fuel := 11) (listed' := #[true, true, true, true, true, false, false, false, false, false, false, false, false, false, false, false]) (v := ?_) rfl rfl (by kernel_rfl) (by kernel_rfl) (by kernel_rfl) rfl (fun _ _ _ h => h) (by rfl) ?_ (Below.drew (Below.refl w3.heap.size w3)) ?_
          rotate_left
          · (intro wS hSw; go_simp; try (with_reducible rfl))
          simp only [Act.put, List.setIfInBounds_toArray, List.set_cons_zero, List.set_cons_succ]
          refine held_take (i := 5) (d := some 25) (fuel := 10) (listed' := #[true, true, true, true, true, true, false, false, false, false, false, false, false, false, false, false]) (v := ?_) rfl rfl (by kernel_rfl) (by kernel_rfl) (by kernel_rfl) rfl (fun _ _ _ h => h) (by rfl) ?_ (Below.drew (Below.refl w3.heap.size w3)) ?_
          rotate_left
          · (intro wS hSw; go_simp; try (with_reducible rfl))
          simp only [Act.put, List.setIfInBounds_toArray, List.set_cons_zero, List.set_cons_succ]
          refine held_take (i := 6) (d := some 26) (fuel := 9) (listed' := #[true, true, true, true, true, true, true, false, false, false, false, false, false, false, false, false]) (v := ?_) rfl rfl (by kernel_rfl) (by kernel_rfl) (by kernel_rfl) rfl (fun _ _ _ h => h) (by rfl) ?_ (Below.drew (Below.refl w3.heap.size w3)) ?_
          rotate_left
          · (intro wS hSw; go_simp; try (with_reducible rfl))
          simp only [Act.put, List.setIfInBounds_toArray, List.set_cons_zero, List.set_cons_succ]
          refine held_take (i := 7) (d := some 27) (fuel := 8) (listed' := #[true, true, true, true, true, true, true, true, false, false, false, false, false, false, false, false]) (v := ?_) rfl rfl (by kernel_rfl) (by kernel_rfl) (by kernel_rfl) rfl (fun _ _ _ h => h) (by rfl) ?_ (Below.drew (Below.refl w3.heap.size w3)) ?_
          rotate_left
          · (intro wS hSw; have hz := (HN3.out.below hSw HN3.out.lt).cells; go_simp; try (with_reducible rfl))
          simp only [Act.put, List.setIfInBounds_toArray, List.set_cons_zero, List.set_cons_succ]
          refine held_one (i := 8) (d := some 28) (fuel := 7) (listed' := #[true, true, true, true, true, true, true, true, true, false, false, false, false, false, false, false]) rfl rfl (by kernel_rfl) rfl (by rfl) (fun K hK => ?_)
          go_simp
          refine (HEQ.out _ (Below.drew (Below.refl w3.heap.size w3))).mono ?_
          rintro e w4 ⟨rfl, h1⟩
          have HE := Lib.hid ((Below.drew (Below.refl w3.heap.size w3)).trans h1)
          clear h1
          go_wp2_with fail
          refine hK.out _ _ HE.out ?_
          clear hK K
          simp only [Act.put, List.setIfInBounds_toArray, List.set_cons_zero, List.set_cons_succ]
          refine held_take (i := 9) (d := some 29) (fuel := 6) (listed' := #[true, true, true, true, true, true, true, true, true, true, false, false, false, false, false, false]) (v := ?_) rfl rfl (by kernel_rfl) (by kernel_rfl) (by kernel_rfl) rfl (fun _ _ _ h => h) (by rfl) ?_ HE.out ?_
          rotate_left
          · (intro wS hSw; go_simp; try (with_reducible rfl))
          simp only [Act.put, List.setIfInBounds_toArray, List.set_cons_zero, List.set_cons_succ]
          refine held_take (i := 10) (d := some 30) (fuel := 5) (listed' := #[true, true, true, true, true, true, true, true, true, true, true, false, false, false, false, false]) (v := ?_) rfl rfl (by kernel_rfl) (by kernel_rfl) (by kernel_rfl) rfl (fun _ _ _ h => h) (by rfl) ?_ HE.out ?_
          rotate_left
          · (intro wS hSw; go_simp; try (with_reducible rfl))
          simp only [Act.put, List.setIfInBounds_toArray, List.set_cons_zero, List.set_cons_succ]
          refine held_take (i := 11) (d := some 31) (fuel := 4) (listed' := #[true, true, true, true, true, true, true, true, true, true, true, true, false, false, false, false]) (v := ?_) rfl rfl (by kernel_rfl) (by kernel_rfl) (by kernel_rfl) rfl (fun _ _ _ h => h) (by rfl) ?_ HE.out ?_
          rotate_left
          · (intro wS hSw; go_simp; try (with_reducible rfl))
          simp only [Act.put, List.setIfInBounds_toArray, List.set_cons_zero, List.set_cons_succ]
          refine held_skip (i := 12) (d := some 32) (fuel := 3) (listed' := #[true, true, true, true, true, true, true, true, true, true, true, true, true, false, false, false]) rfl rfl (by kernel_rfl) (by kernel_rfl) (by kernel_rfl) rfl (fun _ _ _ h => h) (by rfl) HE.out ?_
          simp only [Act.put, List.setIfInBounds_toArray, List.set_cons_zero, List.set_cons_succ]
          refine held_skip (i := 13) (d := some 33) (fuel := 2) (listed' := #[true, true, true, true, true, true, true, true, true, true, true, true, true, true, false, false]) rfl rfl (by kernel_rfl) (by kernel_rfl) (by kernel_rfl) rfl (fun _ _ _ h => h) (by rfl) HE.out ?_
          simp only [Act.put, List.setIfInBounds_toArray, List.set_cons_zero, List.set_cons_succ]
          refine held_skip (i := 14) (d := some 34) (fuel := 1) (listed' := #[true, true, true, true, true, true, true, true, true, true, true, true, true, true, true, false]) rfl rfl (by kernel_rfl) (by kernel_rfl) (by kernel_rfl) rfl (fun _ _ _ h => h) (by rfl) HE.out ?_
          simp only [Act.put, List.setIfInBounds_toArray, List.set_cons_zero, List.set_cons_succ]
          refine held_take (i := 15) (d := some 35) (fuel := 0) (listed' := #[true, true, true, true, true, true, true, true, true, true, true, true, true, true, true, true]) (v := ?_) rfl rfl (by kernel_rfl) (by kernel_rfl) (by kernel_rfl) rfl (fun _ _ _ h => h) (by rfl) ?_ HE.out ?_
          rotate_left
          · (intro wS hSw; go_simp; try (with_reducible rfl))
          simp only [Act.put, List.setIfInBounds_toArray, List.set_cons_zero, List.set_cons_succ]
          refine wpAnyH_done (by kernel_rfl) ?_ _
          go_wp2_with fail
          go_ret
          exact ⟨by rw [HT2.out] <;> rfl, HB3.out.trans (HE.out.mono HB3.out.size)⟩
        have HEQ := Lib.hid (show ∀ W, Below w3.heap.size w3 W → Calls Tryz.prog 29 #[.slice AT (st.length - f) (rcap - f), .slice Ak m ck] W fun e w' => e = .returned (.bool true) ∧ Below W.heap.size W w' from fun W hW => by
          have := equal_any W w3.heap.size _ _ _ _ (HS1.out W hW) ((HSK3.out.mono HB3.out.size).below hW (Nat.le_refl _))
          rw [decide_eq_true hdk] at this; exact this)
        have HDK := Lib.hid hdk
        cases hnb : nodeB n
        · have HT2 := Lib.hid (show treeB (vs.map (·.1)) = false by rw [HT.out, HD.out, treeF_cons, hnb, Bool.false_and])
          have HNO := Lib.hid (show ∀ W, Below w3.heap.size w3 W → Calls Tryz.prog 30 #[.agg #[.int .i64 n.kind, .int .i64 n.num, .string n.text, .string n.ref.sh, .int .i64 n.ref.c, .int .i64 n.ref.r, .bool n.ref.ac, .bool n.ref.ar, .string n.to.sh, .int .i64 n.to.c, .int .i64 n.to.r, .bool n.to.ac, .bool n.to.ar, .slice Ak m ck]] W fun e w' => e = .returned (.bool false) ∧ Below W.heap.size W w' from fun W hW => by
            have := isNode_any W n (HV.out.below (HB3.out.trans (hW.mono HB3.out.size))) HZ1.out HZ2.out HZ3.out Ak m ck HMM.out
            rw [← HM.out, isNd_eq, hnb] at this; rw [← HM.out]; exact this)
          clear hml hdk hf hfL hnb
          refine wp_region_held_drew (S := fun W => Below w3.heap.size w3 W) (by kernel_rfl) (Below.drew (Below.refl w3.heap.size w3)) (fun _ => ?_)
          show wpAnyH _ _ _ _ _ 16 #[false, false, false, false, false, false, false, false, false, false, false, false, false, false, false, false] _ _
          refine held_take (i := 0) (d := some 20) (fuel := 15) (listed' := #[true, false, false, false, false, false, false, false, false, false, false, false, false, false, false, false]) (v := ?_) rfl rfl (by kernel_rfl) (by kernel_rfl) (by kernel_rfl) rfl (fun _ _ _ h => h) (by rfl) ?_ (Below.drew (Below.refl w3.heap.size w3)) ?_
          rotate_left
          · (intro wS hSw; go_simp; try (with_reducible rfl))
          simp only [Act.put, List.setIfInBounds_toArray, List.set_cons_zero, List.set_cons_succ]
          refine held_take (i := 1) (d := some 21) (fuel := 14) (listed' := #[true, true, false, false, false, false, false, false, false, false, false, false, false, false, false, false]) (v := ?_) rfl rfl (by kernel_rfl) (by kernel_rfl) (by kernel_rfl) rfl (fun _ _ _ h => h) (by rfl) ?_ (Below.drew (Below.refl w3.heap.size w3)) ?_
          rotate_left
          · (intro wS hSw; go_simp; try (with_reducible rfl))
          simp only [Act.put, List.setIfInBounds_toArray, List.set_cons_zero, List.set_cons_succ]
          refine held_take (i := 2) (d := some 22) (fuel := 13) (listed' := #[true, true, true, false, false, false, false, false, false, false, false, false, false, false, false, false]) (v := ?_) rfl rfl (by kernel_rfl) (by kernel_rfl) (by kernel_rfl) rfl (fun _ _ _ h => h) (by rfl) ?_ (Below.drew (Below.refl w3.heap.size w3)) ?_
          rotate_left
          · (intro wS hSw; go_simp; try (with_reducible rfl))
          simp only [Act.put, List.setIfInBounds_toArray, List.set_cons_zero, List.set_cons_succ]
          refine held_take (i := 3) (d := some 23) (fuel := 12) (listed' := #[true, true, true, true, false, false, false, false, false, false, false, false, false, false, false, false]) (v := ?_) rfl rfl (by kernel_rfl) (by kernel_rfl) (by kernel_rfl) rfl (fun _ _ _ h => h) (by rfl) ?_ (Below.drew (Below.refl w3.heap.size w3)) ?_
          rotate_left
          · (intro wS hSw; go_simp; try (with_reducible rfl))
          simp only [Act.put, List.setIfInBounds_toArray, List.set_cons_zero, List.set_cons_succ]
          refine held_take (i := 4) (d := some 24) (fuel := 11) (listed' := #[true, true, true, true, true, false, false, false, false, false, false, false, false, false, false, false]) (v := ?_) rfl rfl (by kernel_rfl) (by kernel_rfl) (by kernel_rfl) rfl (fun _ _ _ h => h) (by rfl) ?_ (Below.drew (Below.refl w3.heap.size w3)) ?_
          rotate_left
          · (intro wS hSw; go_simp; try (with_reducible rfl))
          simp only [Act.put, List.setIfInBounds_toArray, List.set_cons_zero, List.set_cons_succ]
          refine held_take (i := 5) (d := some 25) (fuel := 10) (listed' := #[true, true, true, true, true, true, false, false, false, false, false, false, false, false, false, false]) (v := ?_) rfl rfl (by kernel_rfl) (by kernel_rfl) (by kernel_rfl) rfl (fun _ _ _ h => h) (by rfl) ?_ (Below.drew (Below.refl w3.heap.size w3)) ?_
          rotate_left
          · (intro wS hSw; go_simp; try (with_reducible rfl))
          simp only [Act.put, List.setIfInBounds_toArray, List.set_cons_zero, List.set_cons_succ]
          refine held_take (i := 6) (d := some 26) (fuel := 9) (listed' := #[true, true, true, true, true, true, true, false, false, false, false, false, false, false, false, false]) (v := ?_) rfl rfl (by kernel_rfl) (by kernel_rfl) (by kernel_rfl) rfl (fun _ _ _ h => h) (by rfl) ?_ (Below.drew (Below.refl w3.heap.size w3)) ?_
          rotate_left
          · (intro wS hSw; go_simp; try (with_reducible rfl))
          simp only [Act.put, List.setIfInBounds_toArray, List.set_cons_zero, List.set_cons_succ]
          refine held_take (i := 7) (d := some 27) (fuel := 8) (listed' := #[true, true, true, true, true, true, true, true, false, false, false, false, false, false, false, false]) (v := ?_) rfl rfl (by kernel_rfl) (by kernel_rfl) (by kernel_rfl) rfl (fun _ _ _ h => h) (by rfl) ?_ (Below.drew (Below.refl w3.heap.size w3)) ?_
          rotate_left
          · (intro wS hSw; have hz := (HN3.out.below hSw HN3.out.lt).cells; go_simp; try (with_reducible rfl))
          simp only [Act.put, List.setIfInBounds_toArray, List.set_cons_zero, List.set_cons_succ]
          refine held_one (i := 8) (d := some 28) (fuel := 7) (listed' := #[true, true, true, true, true, true, true, true, true, false, false, false, false, false, false, false]) rfl rfl (by kernel_rfl) rfl (by rfl) (fun K hK => ?_)
          go_simp
          refine (HEQ.out _ (Below.drew (Below.refl w3.heap.size w3))).mono ?_
          rintro e w4 ⟨rfl, h1⟩
          have HE := Lib.hid ((Below.drew (Below.refl w3.heap.size w3)).trans h1)
          clear h1
          go_wp2_with fail
          refine hK.out _ _ HE.out ?_
          clear hK K
          simp only [Act.put, List.setIfInBounds_toArray, List.set_cons_zero, List.set_cons_succ]
          refine held_take (i := 9) (d := some 29) (fuel := 6) (listed' := #[true, true, true, true, true, true, true, true, true, true, false, false, false, false, false, false]) (v := ?_) rfl rfl (by kernel_rfl) (by kernel_rfl) (by kernel_rfl) rfl (fun _ _ _ h => h) (by rfl) ?_ HE.out ?_
          rotate_left
          · (intro wS hSw; go_simp; try (with_reducible rfl))
          simp only [Act.put, List.setIfInBounds_toArray, List.set_cons_zero, List.set_cons_succ]
          refine held_take (i := 10) (d := some 30) (fuel := 5) (listed' := #[true, true, true, true, true, true, true, true, true, true, true, false, false, false, false, false]) (v := ?_) rfl rfl (by kernel_rfl) (by kernel_rfl) (by kernel_rfl) rfl (fun _ _ _ h => h) (by rfl) ?_ HE.out ?_
          rotate_left
          · (intro wS hSw; go_simp; try (with_reducible rfl))
          simp only [Act.put, List.setIfInBounds_toArray, List.set_cons_zero, List.set_cons_succ]
          refine held_take (i := 11) (d := some 31) (fuel := 4) (listed' := #[true, true, true, true, true, true, true, true, true, true, true, true, false, false, false, false]) (v := ?_) rfl rfl (by kernel_rfl) (by kernel_rfl) (by kernel_rfl) rfl (fun _ _ _ h => h) (by rfl) ?_ HE.out ?_
          rotate_left
          · (intro wS hSw; go_simp; try (with_reducible rfl))
          simp only [Act.put, List.setIfInBounds_toArray, List.set_cons_zero, List.set_cons_succ]
          refine held_take (i := 12) (d := some 32) (fuel := 3) (listed' := #[true, true, true, true, true, true, true, true, true, true, true, true, true, false, false, false]) (v := ?_) rfl rfl (by kernel_rfl) (by kernel_rfl) (by kernel_rfl) rfl (fun _ _ _ h => h) (by rfl) ?_ HE.out ?_
          rotate_left
          · (intro wS hSw; have hz := (HN3.out.below hSw HN3.out.lt).cells; go_simp; try (with_reducible rfl))
          simp only [Act.put, List.setIfInBounds_toArray, List.set_cons_zero, List.set_cons_succ]
          refine held_one (i := 13) (d := some 33) (fuel := 2) (listed' := #[true, true, true, true, true, true, true, true, true, true, true, true, true, true, false, false]) rfl rfl (by kernel_rfl) rfl (by rfl) (fun K hK => ?_)
          go_simp
          refine (HNO.out _ HE.out).mono ?_
          rintro e w5 ⟨rfl, h1⟩
          have HF := Lib.hid (HE.out.trans (h1.mono HE.out.size))
          clear h1
          go_wp2_with fail
          refine hK.out _ _ HF.out ?_
          clear hK K
          simp only [Act.put, List.setIfInBounds_toArray, List.set_cons_zero, List.set_cons_succ]
          refine held_take (i := 14) (d := some 34) (fuel := 1) (listed' := #[true, true, true, true, true, true, true, true, true, true, true, true, true, true, true, false]) (v := ?_) rfl rfl (by kernel_rfl) (by kernel_rfl) (by kernel_rfl) rfl (fun _ _ _ h => h) (by rfl) ?_ HF.out ?_
          rotate_left
          · (intro wS hSw; go_simp; try (with_reducible rfl))
          simp only [Act.put, List.setIfInBounds_toArray, List.set_cons_zero, List.set_cons_succ]
          refine held_take (i := 15) (d := some 35) (fuel := 0) (listed' := #[true, true, true, true, true, true, true, true, true, true, true, true, true, true, true, true]) (v := ?_) rfl rfl (by kernel_rfl) (by kernel_rfl) (by kernel_rfl) rfl (fun _ _ _ h => h) (by rfl) ?_ HF.out ?_
          rotate_left
          · (intro wS hSw; go_simp; try (with_reducible rfl))
          simp only [Act.put, List.setIfInBounds_toArray, List.set_cons_zero, List.set_cons_succ]
          refine wpAnyH_done (by kernel_rfl) ?_ _
          go_wp2_with fail
          go_ret
          exact ⟨by rw [HT2.out] <;> rfl, HB3.out.trans (HF.out.mono HB3.out.size)⟩
        · have HT2 := Lib.hid (show treeB (vs.map (·.1)) = treeF (st.take f ++ [(i : Int)]) (i + 1) ((vs.map (·.1)).drop (i + 1)) by rw [HT.out, HD.out, treeF_cons, hnb, HM.out, decide_eq_true hml, hf, decide_eq_true hdk, Bool.true_and, Bool.true_and, Bool.true_and])
          have HNO := Lib.hid (show ∀ W, Below w3.heap.size w3 W → Calls Tryz.prog 30 #[.agg #[.int .i64 n.kind, .int .i64 n.num, .string n.text, .string n.ref.sh, .int .i64 n.ref.c, .int .i64 n.ref.r, .bool n.ref.ac, .bool n.ref.ar, .string n.to.sh, .int .i64 n.to.c, .int .i64 n.to.r, .bool n.to.ac, .bool n.to.ar, .slice Ak m ck]] W fun e w' => e = .returned (.bool true) ∧ Below W.heap.size W w' from fun W hW => by
            have := isNode_any W n (HV.out.below (HB3.out.trans (hW.mono HB3.out.size))) HZ1.out HZ2.out HZ3.out Ak m ck HMM.out
            rw [← HM.out, isNd_eq, hnb] at this; rw [← HM.out]; exact this)
          clear hml hdk hnb
          refine wp_region_held_drew (S := fun W => Below w3.heap.size w3 W) (by kernel_rfl) (Below.drew (Below.refl w3.heap.size w3)) (fun _ => ?_)
          show wpAnyH _ _ _ _ _ 16 #[false, false, false, false, false, false, false, false, false, false, false, false, false, false, false, false] _ _
          refine held_take (i := 0) (d := some 20) (fuel := 15) (listed' := #[true, false, false, false, false, false, false, false, false, false, false, false, false, false, false, false]) (v := ?_) rfl rfl (by kernel_rfl) (by kernel_rfl) (by kernel_rfl) rfl (fun _ _ _ h => h) (by rfl) ?_ (Below.drew (Below.refl w3.heap.size w3)) ?_
          rotate_left
          · (intro wS hSw; go_simp; try (with_reducible rfl))
          simp only [Act.put, List.setIfInBounds_toArray, List.set_cons_zero, List.set_cons_succ]
          refine held_take (i := 1) (d := some 21) (fuel := 14) (listed' := #[true, true, false, false, false, false, false, false, false, false, false, false, false, false, false, false]) (v := ?_) rfl rfl (by kernel_rfl) (by kernel_rfl) (by kernel_rfl) rfl (fun _ _ _ h => h) (by rfl) ?_ (Below.drew (Below.refl w3.heap.size w3)) ?_
          rotate_left
          · (intro wS hSw; go_simp; try (with_reducible rfl))
          simp only [Act.put, List.setIfInBounds_toArray, List.set_cons_zero, List.set_cons_succ]
          refine held_take (i := 2) (d := some 22) (fuel := 13) (listed' := #[true, true, true, false, false, false, false, false, false, false, false, false, false, false, false, false]) (v := ?_) rfl rfl (by kernel_rfl) (by kernel_rfl) (by kernel_rfl) rfl (fun _ _ _ h => h) (by rfl) ?_ (Below.drew (Below.refl w3.heap.size w3)) ?_
          rotate_left
          · (intro wS hSw; go_simp; try (with_reducible rfl))
          simp only [Act.put, List.setIfInBounds_toArray, List.set_cons_zero, List.set_cons_succ]
          refine held_take (i := 3) (d := some 23) (fuel := 12) (listed' := #[true, true, true, true, false, false, false, false, false, false, false, false, false, false, false, false]) (v := ?_) rfl rfl (by kernel_rfl) (by kernel_rfl) (by kernel_rfl) rfl (fun _ _ _ h => h) (by rfl) ?_ (Below.drew (Below.refl w3.heap.size w3)) ?_
          rotate_left
          · (intro wS hSw; go_simp; try (with_reducible rfl))
          simp only [Act.put, List.setIfInBounds_toArray, List.set_cons_zero, List.set_cons_succ]
          refine held_take (i := 4) (d := some 24) (fuel := 11) (listed' := #[true, true, true, true, true, false, false, false, false, false, false, false, false, false, false, false]) (v := ?_) rfl rfl (by kernel_rfl) (by kernel_rfl) (by kernel_rfl) rfl (fun _ _ _ h => h) (by rfl) ?_ (Below.drew (Below.refl w3.heap.size w3)) ?_
          rotate_left
          · (intro wS hSw; go_simp; try (with_reducible rfl))
          simp only [Act.put, List.setIfInBounds_toArray, List.set_cons_zero, List.set_cons_succ]
          refine held_take (i := 5) (d := some 25) (fuel := 10) (listed' := #[true, true, true, true, true, true, false, false, false, false, false, false, false, false, false, false]) (v := ?_) rfl rfl (by kernel_rfl) (by kernel_rfl) (by kernel_rfl) rfl (fun _ _ _ h => h) (by rfl) ?_ (Below.drew (Below.refl w3.heap.size w3)) ?_
          rotate_left
          · (intro wS hSw; go_simp; try (with_reducible rfl))
          simp only [Act.put, List.setIfInBounds_toArray, List.set_cons_zero, List.set_cons_succ]
          refine held_take (i := 6) (d := some 26) (fuel := 9) (listed' := #[true, true, true, true, true, true, true, false, false, false, false, false, false, false, false, false]) (v := ?_) rfl rfl (by kernel_rfl) (by kernel_rfl) (by kernel_rfl) rfl (fun _ _ _ h => h) (by rfl) ?_ (Below.drew (Below.refl w3.heap.size w3)) ?_
          rotate_left
          · (intro wS hSw; go_simp; try (with_reducible rfl))
          simp only [Act.put, List.setIfInBounds_toArray, List.set_cons_zero, List.set_cons_succ]
          refine held_take (i := 7) (d := some 27) (fuel := 8) (listed' := #[true, true, true, true, true, true, true, true, false, false, false, false, false, false, false, false]) (v := ?_) rfl rfl (by kernel_rfl) (by kernel_rfl) (by kernel_rfl) rfl (fun _ _ _ h => h) (by rfl) ?_ (Below.drew (Below.refl w3.heap.size w3)) ?_
          rotate_left
          · (intro wS hSw; have hz := (HN3.out.below hSw HN3.out.lt).cells; go_simp; try (with_reducible rfl))
          simp only [Act.put, List.setIfInBounds_toArray, List.set_cons_zero, List.set_cons_succ]
          refine held_one (i := 8) (d := some 28) (fuel := 7) (listed' := #[true, true, true, true, true, true, true, true, true, false, false, false, false, false, false, false]) rfl rfl (by kernel_rfl) rfl (by rfl) (fun K hK => ?_)
          go_simp
          refine (HEQ.out _ (Below.drew (Below.refl w3.heap.size w3))).mono ?_
          rintro e w4 ⟨rfl, h1⟩
          have HE := Lib.hid ((Below.drew (Below.refl w3.heap.size w3)).trans h1)
          clear h1
          go_wp2_with fail
          refine hK.out _ _ HE.out ?_
          clear hK K
          simp only [Act.put, List.setIfInBounds_toArray, List.set_cons_zero, List.set_cons_succ]
          refine held_take (i := 9) (d := some 29) (fuel := 6) (listed' := #[true, true, true, true, true, true, true, true, true, true, false, false, false, false, false, false]) (v := ?_) rfl rfl (by kernel_rfl) (by kernel_rfl) (by kernel_rfl) rfl (fun _ _ _ h => h) (by rfl) ?_ HE.out ?_
          rotate_left
          · (intro wS hSw; go_simp; try (with_reducible rfl))
          simp only [Act.put, List.setIfInBounds_toArray, List.set_cons_zero, List.set_cons_succ]
          refine held_take (i := 10) (d := some 30) (fuel := 5) (listed' := #[true, true, true, true, true, true, true, true, true, true, true, false, false, false, false, false]) (v := ?_) rfl rfl (by kernel_rfl) (by kernel_rfl) (by kernel_rfl) rfl (fun _ _ _ h => h) (by rfl) ?_ HE.out ?_
          rotate_left
          · (intro wS hSw; go_simp; try (with_reducible rfl))
          simp only [Act.put, List.setIfInBounds_toArray, List.set_cons_zero, List.set_cons_succ]
          refine held_take (i := 11) (d := some 31) (fuel := 4) (listed' := #[true, true, true, true, true, true, true, true, true, true, true, true, false, false, false, false]) (v := ?_) rfl rfl (by kernel_rfl) (by kernel_rfl) (by kernel_rfl) rfl (fun _ _ _ h => h) (by rfl) ?_ HE.out ?_
          rotate_left
          · (intro wS hSw; go_simp; try (with_reducible rfl))
          simp only [Act.put, List.setIfInBounds_toArray, List.set_cons_zero, List.set_cons_succ]
          refine held_take (i := 12) (d := some 32) (fuel := 3) (listed' := #[true, true, true, true, true, true, true, true, true, true, true, true, true, false, false, false]) (v := ?_) rfl rfl (by kernel_rfl) (by kernel_rfl) (by kernel_rfl) rfl (fun _ _ _ h => h) (by rfl) ?_ HE.out ?_
          rotate_left
          · (intro wS hSw; have hz := (HN3.out.below hSw HN3.out.lt).cells; go_simp; try (with_reducible rfl))
          simp only [Act.put, List.setIfInBounds_toArray, List.set_cons_zero, List.set_cons_succ]
          refine held_one (i := 13) (d := some 33) (fuel := 2) (listed' := #[true, true, true, true, true, true, true, true, true, true, true, true, true, true, false, false]) rfl rfl (by kernel_rfl) rfl (by rfl) (fun K hK => ?_)
          go_simp
          refine (HNO.out _ HE.out).mono ?_
          rintro e w5 ⟨rfl, h1⟩
          have HF := Lib.hid (HE.out.trans (h1.mono HE.out.size))
          clear h1
          go_wp2_with fail
          refine hK.out _ _ HF.out ?_
          clear hK K
          simp only [Act.put, List.setIfInBounds_toArray, List.set_cons_zero, List.set_cons_succ]
          refine held_take (i := 14) (d := some 34) (fuel := 1) (listed' := #[true, true, true, true, true, true, true, true, true, true, true, true, true, true, true, false]) (v := ?_) rfl rfl (by kernel_rfl) (by kernel_rfl) (by kernel_rfl) rfl (fun _ _ _ h => h) (by rfl) ?_ HF.out ?_
          rotate_left
          · (intro wS hSw; go_simp; try (with_reducible rfl))
          simp only [Act.put, List.setIfInBounds_toArray, List.set_cons_zero, List.set_cons_succ]
          refine held_take (i := 15) (d := some 35) (fuel := 0) (listed' := #[true, true, true, true, true, true, true, true, true, true, true, true, true, true, true, true]) (v := ?_) rfl rfl (by kernel_rfl) (by kernel_rfl) (by kernel_rfl) rfl (fun _ _ _ h => h) (by rfl) ?_ HF.out ?_
          rotate_left
          · (intro wS hSw; go_simp; try (with_reducible rfl))
          simp only [Act.put, List.setIfInBounds_toArray, List.set_cons_zero, List.set_cons_succ]
          refine wpAnyH_done (by kernel_rfl) ?_ _
          have HB5 := Lib.hid (HB3.out.trans (HF.out.mono HB3.out.size))
          have HO5 := Lib.hid (HO3.out.below HF.out (Nat.le_refl _))
          have hlt5 : (st.take f).length ≤ 1000 := by rw [List.length_take]; omega
          go_wp2_with (at_builtin; refine wpList_app HEL.out (encInt .i64) rfl (.tmp 38) (.tmp 40) rfl w.heap.size (.slice (some ⟨rg, 0, none⟩) f rcap) (st.take f) rfl ((own_take HO5.out f hfL).alloc _) ⟨w5.heap.size, 0, none⟩ 1 1 [(i : Int)] rfl rfl ?_ ?_ ?_ ?_ ?_; exact cells_new _ _ _ rfl; exact Nat.le_trans (Nat.mul_le_mul_left _ hEB) (by omega); (unfold maxLen; omega); (have := HB5.out.size; simp <;> omega); intro kv' w6 h1 h2; have HO6 := Lib.hid h1; have HB6 := Lib.hid (((HB5.out.alloc HB5.out.size _)).trans h2); clear h1 h2)
          go_roundw
          case rel => exact ⟨i + 1, st.take f ++ [(i : Int)], kv', by omega, by rw [List.length_append, List.length_take, List.length_singleton]; omega, rfl, by go_num, HT2, HO6, HB6⟩
          case measure => simp [intOf]; omega
    · have hii : ¬ (i : Int) < (nl : Int) := by omega
      have hin : i = nl := by omega
      have HT2 := Lib.hid (show treeB (vs.map (·.1)) = decide (st.length = 1) by
        rw [HT.out, List.drop_of_length_le (by rw [List.length_map, HNL.out]; omega)]; rfl)
      rcases HO.out.shape with ⟨rfl, hst⟩ | ⟨rg, rcap, rfl, -⟩
      · rw [hst] at HT2
        go_wp2_with fail
        go_ret
        exact ⟨by rw [HT2.out] <;> rfl, HB.out⟩
      · by_cases h1 : st.length = 1
        · have h1i : ((st.length : Int) == 1) = true := by rw [beq_iff_eq]; omega
          rw [decide_eq_true h1] at HT2
          clear h1
          go_wp2_with fail
          go_ret
          exact ⟨by rw [HT2.out] <;> rfl, HB.out⟩
        · have h1i : ((st.length : Int) == 1) = false := by rw [beq_eq_false_iff_ne]; omega
          rw [decide_eq_false h1] at HT2
          clear h1
          go_wp2_with fail
          go_ret
          exact ⟨by rw [HT2.out] <;> rfl, HB.out⟩
end Go.Proofs.YtdfpalocnijefaaGreatDoor

/-
  Layer 5, the reference: Tree.
-/
namespace Go.Proofs.YtdfpalocnijefaaGreatDoor
open Go.RowKit

/-- 'append(v, ys...)' where v is full: a row of its own, whatever v was. -/
theorem wpList_app_full {P : Program} {α : Type} {size t e bytes : Nat} {w : World} {ops : Array Oper} {rest : List Oper} {o : Oper} {a : Act} {Q : Exit → Act → World → Prop} (EL : Elem P t e size bytes) (E : Enc α size)
    (hgd : o.guard = none) (s x : Operand) (ho : o.op = .call { callee := .builtin .append, args := #[s, x], argTypes := #[t, t] }) (ao : Option Addr) (n cap : Nat) (xs : List α)
    (hs : a.eval s = .slice ao n cap) (hnone : ao = none → n = 0 ∧ cap = 0) (hxl : xs.length = n) (hxs : ∀ b, ao = some b → ∀ (j : Nat) (u : Value), (E.all xs)[j]? = some u → w.cell? (b.add j) = some u)
    (ad : Addr) (m c : Nat) (ys : List α) (hx : a.eval x = .slice (some ad) m c) (hl : ys.length = m)
    (hc : ∀ (j : Nat) (u : Value), (E.all ys)[j]? = some u → w.cell? (ad.add j) = some u) (hfull : cap < n + m) (hb : (n + m) * bytes ≤ 140737488355328) (hb2 : n + m ≤ maxLen)
    (h : ∀ (v' : Value) (w' : World), Own E e w' w.heap.size v' (xs ++ ys) → Below w.heap.size w w' → wpList P ops Q rest (a.put o.dst v') w') : wpList P ops Q (o :: rest) a w := by
  obtain ⟨z, hi, hz⟩ := EL.inf
  obtain ⟨i, hi1, hi2, hi3, hi4⟩ := info_parts hi
  refine wpList_append_grows w hgd s x t ho e i z size bytes EL.und hi1 hi2 hi3 hi4 hz EL.pos ao n cap (E.all xs) hs hnone (by rw [E.length_all, hxl]) hxs ad m c (E.all ys) hx (by rw [E.length_all, hl]) hc (E.one_all ys) hfull hb2 hb ?_
  intro v' w' h1 h2
  refine h v' w' ?_ ?_
  · unfold Own; rw [E.all_append, List.length_append, hxl, hl]; exact h1
  · exact Below.grown (Below.refl _ _) h2 (Nat.le_refl _) (fun k hk => by cases hk)
theorem nodeB_arms {n : Nd} : nodeB n = (leafB n && (decide (armsN n.kind = -1) || decide (armsN n.kind = n.kids.length))) := rfl
theorem drop_take_at {st ks : List Int} {f j : Nat} {x : Int} (h : (st.drop f).take j = ks.take j) (hx : st[f + j]? = some x) (hy : ks[j]? = some x) : (st.drop f).take (j + 1) = ks.take (j + 1) :=
  take_snoc h (by rw [List.getElem?_drop]; exact hx) hy
theorem drop_ne {st ks : List Int} {f j : Nat} {x y : Int} (hx : st[f + j]? = some x) (hy : ks[j]? = some y) (h : ¬ x = y) : ¬ st.drop f = ks := by
  intro e
  have h1 : (st.drop f)[j]? = some x := by rw [List.getElem?_drop]; exact hx
  rw [e, hy] at h1
  exact h (Option.some.inj h1).symm
set_option maxRecDepth 100000 in
set_option maxHeartbeats 16000000 in
theorem refTree_any (w : World) (v : Value) (vs : List (Nd × Value)) (h : SN w w.heap.size v vs) (hz : SZ vs) : Calls Tryz.prog 16 #[v] w fun e w' => e = .returned (.bool (treeB (vs.map (·.1)))) ∧ Below w.heap.size w w' := by
  obtain ⟨⟨A, cap, rfl, hat⟩, hkid⟩ := h
  obtain ⟨hlen, hsz⟩ := hz
  obtain ⟨nl, hnl⟩ : ∃ nl, vs.length = nl := ⟨_, rfl⟩
  rw [hnl] at hlen ⊢
  have HAT := Lib.hid hat; have HKID := Lib.hid hkid; have HSZ := Lib.hid hsz; have HNL := Lib.hid hnl
  obtain ⟨eb, hEB, EL⟩ := Elem.kid
  have HEL := Lib.hid EL
  clear hat hkid hsz hnl EL
  go_enter Tryz.func16, Tryz.ntmps16
  go_upto_region 3 with (fail)
  go_loopw [3, 4] (fun rv iv wr => ∃ (i : Nat) (st : List Int) (rk : Value), i ≤ nl ∧ st.length ≤ i ∧ rk = rv ∧ iv = .int .i64 (i : Int) ∧ Hid (treeB (vs.map (·.1)) = treeF st i ((vs.map (·.1)).drop i)) ∧ Hid (Own (encInt .i64) 3 wr w.heap.size rk st) ∧ Hid (Below w.heap.size w wr))
    (fun _ iv _ => nl - (intOf iv).toNat)
  case atStart => exact ⟨0, [], .slice none 0 0, Nat.zero_le _, Nat.le_refl _, rfl, rfl, Lib.hid rfl, Lib.hid (Own.nil _ _ _ _), Lib.hid (Below.refl _ _)⟩
  case round =>
    obtain ⟨i, st, rk, hi, hsi, rfl, rfl, HT, HO, HB⟩ := hrel
    by_cases hlt : i < nl
    · have hii : (i : Int) < (nl : Int) := by omega
      obtain ⟨⟨n, k⟩, hnk⟩ : ∃ q, vs[i]? = some q := ⟨_, List.getElem?_eq_getElem (by rw [HNL.out]; exact hlt)⟩
      have hmem := List.mem_of_getElem? hnk
      obtain ⟨hz1, hz2, hz3⟩ := HSZ.out _ hmem
      have HZ1 := Lib.hid hz1; have HZ2 := Lib.hid hz2; have HZ3 := Lib.hid hz3
      clear hz1 hz2 hz3
      have hski : SI w w.heap.size k n.kids := HKID.out _ hmem
      obtain ⟨Ak, ck, hk, hkc, hkm, hkat⟩ := id hski
      obtain ⟨m, hm⟩ : ∃ m, n.kids.length = m := ⟨_, rfl⟩
      rw [hm] at hk hkc
      subst hk
      have hmm : m ≤ maxLen := Nat.le_trans hkc hkm
      have hmx : m ≤ 9223372036854775807 := by unfold maxLen at hmm; omega
      have HM := Lib.hid hm
      have HKAT := Lib.hid hkat
      have HD := Lib.hid (show (vs.map (·.1)).drop i = n :: (vs.map (·.1)).drop (i + 1) by
        have hl : i < (vs.map (·.1)).length := by rw [List.length_map, HNL.out]; exact hlt
        rw [List.drop_eq_getElem_cons hl]
        congr 1
        have h1 : (vs.map (·.1))[i]? = some n := by rw [List.getElem?_map, hnk]; rfl
        rw [List.getElem?_eq_getElem hl] at h1; exact Option.some.inj h1)
      have HF0 := Lib.hid (show nodeB n = false → treeB (vs.map (·.1)) = false from fun e => by rw [HT.out, HD.out, treeF_cons, e, Bool.false_and])
      rcases HAT.out with e | ⟨pb, po, rfl, hpb, hcells⟩
      · exfalso; rw [e] at hnk; simp at hnk
      have hcell := hcells i n _ hnk
      have k0 : wr.cell? ⟨pb, po + i * 14, none⟩ = some (.int .i64 n.kind) := (HB.out.cell (p := ⟨pb, po + i * 14, none⟩) hpb).trans (hcell 0 (by omega))
      have k1 : wr.cell? ⟨pb, po + i * 14 + 1, none⟩ = some (.int .i64 n.num) := (HB.out.cell (p := ⟨pb, po + i * 14 + 1, none⟩) hpb).trans (hcell 1 (by omega))
      have k2 : wr.cell? ⟨pb, po + i * 14 + 2, none⟩ = some (.string n.text) := (HB.out.cell (p := ⟨pb, po + i * 14 + 2, none⟩) hpb).trans (hcell 2 (by omega))
      have k3 : wr.cell? ⟨pb, po + i * 14 + 3, none⟩ = some (.string n.ref.sh) := (HB.out.cell (p := ⟨pb, po + i * 14 + 3, none⟩) hpb).trans (hcell 3 (by omega))
      have k4 : wr.cell? ⟨pb, po + i * 14 + 4, none⟩ = some (.int .i64 n.ref.c) := (HB.out.cell (p := ⟨pb, po + i * 14 + 4, none⟩) hpb).trans (hcell 4 (by omega))
      have k5 : wr.cell? ⟨pb, po + i * 14 + 5, none⟩ = some (.int .i64 n.ref.r) := (HB.out.cell (p := ⟨pb, po + i * 14 + 5, none⟩) hpb).trans (hcell 5 (by omega))
      have k6 : wr.cell? ⟨pb, po + i * 14 + 6, none⟩ = some (.bool n.ref.ac) := (HB.out.cell (p := ⟨pb, po + i * 14 + 6, none⟩) hpb).trans (hcell 6 (by omega))
      have k7 : wr.cell? ⟨pb, po + i * 14 + 7, none⟩ = some (.bool n.ref.ar) := (HB.out.cell (p := ⟨pb, po + i * 14 + 7, none⟩) hpb).trans (hcell 7 (by omega))
      have k8 : wr.cell? ⟨pb, po + i * 14 + 8, none⟩ = some (.string n.to.sh) := (HB.out.cell (p := ⟨pb, po + i * 14 + 8, none⟩) hpb).trans (hcell 8 (by omega))
      have k9 : wr.cell? ⟨pb, po + i * 14 + 9, none⟩ = some (.int .i64 n.to.c) := (HB.out.cell (p := ⟨pb, po + i * 14 + 9, none⟩) hpb).trans (hcell 9 (by omega))
      have k10 : wr.cell? ⟨pb, po + i * 14 + 10, none⟩ = some (.int .i64 n.to.r) := (HB.out.cell (p := ⟨pb, po + i * 14 + 10, none⟩) hpb).trans (hcell 10 (by omega))
      have k11 : wr.cell? ⟨pb, po + i * 14 + 11, none⟩ = some (.bool n.to.ac) := (HB.out.cell (p := ⟨pb, po + i * 14 + 11, none⟩) hpb).trans (hcell 11 (by omega))
      have k12 : wr.cell? ⟨pb, po + i * 14 + 12, none⟩ = some (.bool n.to.ar) := (HB.out.cell (p := ⟨pb, po + i * 14 + 12, none⟩) hpb).trans (hcell 12 (by omega))
      have k13 : wr.cell? ⟨pb, po + i * 14 + 13, none⟩ = some (.slice Ak m ck) := (HB.out.cell (p := ⟨pb, po + i * 14 + 13, none⟩) hpb).trans (hcell 13 (by omega))
      clear hcell hcells hnk hmem hski hkat hm hkc hkm hmm
      have hL : st.length ≤ 1000 := by omega
      have hB3 : Below wr.heap.size wr (wr.alloc (.cells #[.int .i64 n.kind, .int .i64 n.num, .string n.text, .string n.ref.sh, .int .i64 n.ref.c, .int .i64 n.ref.r, .bool n.ref.ac, .bool n.ref.ar, .string n.to.sh, .int .i64 n.to.c, .int .i64 n.to.r, .bool n.to.ac, .bool n.to.ar, .slice Ak m ck] 38)) := (Below.refl _ _).alloc (Nat.le_refl _) _
      have HN3 : NdAt (wr.alloc (.cells #[.int .i64 n.kind, .int .i64 n.num, .string n.text, .string n.ref.sh, .int .i64 n.ref.c, .int .i64 n.ref.r, .bool n.ref.ac, .bool n.ref.ar, .string n.to.sh, .int .i64 n.to.c, .int .i64 n.to.r, .bool n.to.ac, .bool n.to.ar, .slice Ak m ck] 38)) wr.heap.size n (.slice Ak m ck) := NdAt.new wr n _
      have HB3 := Lib.hid (HB.out.trans (hB3.mono HB.out.size))
      have HO3 := Lib.hid (HO.out.alloc (.cells #[.int .i64 n.kind, .int .i64 n.num, .string n.text, .string n.ref.sh, .int .i64 n.ref.c, .int .i64 n.ref.r, .bool n.ref.ac, .bool n.ref.ar, .string n.to.sh, .int .i64 n.to.c, .int .i64 n.to.r, .bool n.to.ac, .bool n.to.ar, .slice Ak m ck] 38))
      clear hB3
      go_upto_region 6 with (fail)
      generalize hb3 : wr.heap.size = b3 at HN3 ⊢
      generalize wr.alloc (.cells #[.int .i64 n.kind, .int .i64 n.num, .string n.text, .string n.ref.sh, .int .i64 n.ref.c, .int .i64 n.ref.r, .bool n.ref.ac, .bool n.ref.ar, .string n.to.sh, .int .i64 n.to.c, .int .i64 n.to.r, .bool n.to.ac, .bool n.to.ar, .slice Ak m ck] 38) = w3 at HN3 HB3 HO3 ⊢
      clear hb3 k0 k1 k2 k3 k4 k5 k6 k7 k8 k9 k10 k11 k12 k13 HO
      obtain ⟨x0, x1, x2, x3, x4, x5, x6, x7, x8, x9, x10, x11, x12, x13⟩ := HN3.cells
      have HN3 := Lib.hid HN3
      obtain ⟨a, ha⟩ : ∃ a, armsN n.kind = a := ⟨_, rfl⟩
      have HAR := Lib.hid (show ∀ w, Calls Tryz.prog 31 #[.int .i64 n.kind] w fun e w' => e = .returned (.int .i64 a) ∧ w = w' from fun w => by rw [← ha]; exact refArms_any _ w)
      have HNB := Lib.hid (show nodeB n = (leafB n && (decide (a = -1) || decide (a = (m : Int)))) by rw [nodeB_arms, ha, HM.out])
      have har : a = -1 ∨ a = -2 ∨ a = 0 ∨ a = 1 ∨ a = 2 := by
        rw [← ha]; unfold armsN
        split
        · omega
        split
        · omega
        split
        · omega
        split <;> omega
      clear ha
      have key : (a = -1 ∨ a = (m : Int)) ∨ (¬ a = -1 ∧ ¬ a = (m : Int)) := by omega
      rcases key with key | ⟨ka, kb⟩
      rotate_left
      · have ea : (a == -1) = false := beq_eq_false_iff_ne.2 ka
        have HT2 := Lib.hid (show treeB (vs.map (·.1)) = false from HF0.out (by rw [HNB.out, decide_eq_false ka, decide_eq_false kb, Bool.or_self, Bool.and_false]))
        by_cases h0 : a < 0
        · clear ka kb har
          go_wp2_with (go_at_call 31; ((with_reducible refine (HAR.out _).mono ?_); rintro e w4 ⟨rfl, rfl⟩))
          go_ret
          exact ⟨by rw [HT2.out] <;> rfl, HB3.out⟩
        · have hne : (a != (m : Int)) = true := by rw [bne_iff_ne]; exact kb
          clear ka kb har
          go_wp2_with (go_at_call 31; ((with_reducible refine (HAR.out _).mono ?_); rintro e w4 ⟨rfl, rfl⟩))
          go_ret
          exact ⟨by rw [HT2.out] <;> rfl, HB3.out⟩
      have HNB2 := Lib.hid (show nodeB n = leafB n by
        rw [HNB.out]
        rcases key with e | e
        · rw [decide_eq_true e, Bool.true_or, Bool.and_true]
        · rw [decide_eq_true e, Bool.or_true, Bool.and_true])
      have hm0 : ¬ (m : Int) < 0 := by omega
      have hmb : ((m : Int) != (m : Int)) = false := by simp
      have arms2 : (∃ ea : (a == -1) = true, True) ∨ (∃ ea : (a == -1) = false, a = (m : Int)) := by
        by_cases e : a = -1
        · exact .inl ⟨beq_iff_eq.2 e, trivial⟩
        · exact .inr ⟨beq_eq_false_iff_ne.2 e, by omega⟩
      clear key HNB har
      by_cases hml : m ≤ st.length
      rotate_left
      · have HT2 := Lib.hid (show treeB (vs.map (·.1)) = false by rw [HT.out, HD.out, treeF_cons, HM.out, decide_eq_false hml, Bool.false_and, Bool.and_false])
        have hmg : (st.length : Int) < (m : Int) := by omega
        rcases HO3.out.shape with ⟨rfl, hst⟩ | ⟨rg, rcap, rfl, hrg, hrl, hrc, hrm⟩
        · have HST := Lib.hid hst
          have hmg : 0 < (m : Int) := by rw [hst] at hml; simp at hml; omega
          have hmg2 : 0 < m := by omega
          clear hml hst
          rcases arms2 with ⟨ea, -⟩ | ⟨ea, rfl⟩
          all_goals
            go_wp2_with (go_at_call 31; ((with_reducible refine (HAR.out _).mono ?_); rintro e w4 ⟨rfl, rfl⟩))
            go_ret
            exact ⟨by rw [HT2.out] <;> rfl, HB3.out⟩
        · have hmg2 : st.length < m := by omega
          clear hml
          rcases arms2 with ⟨ea, -⟩ | ⟨ea, rfl⟩
          all_goals
            go_wp2_with (go_at_call 31; ((with_reducible refine (HAR.out _).mono ?_); rintro e w4 ⟨rfl, rfl⟩))
            go_ret
            exact ⟨by rw [HT2.out] <;> rfl, HB3.out⟩
      have hmg : ¬ (st.length : Int) < (m : Int) := by omega
      have hmg2 : ¬ st.length < m := by omega
      have HLE := Lib.hid (show ∀ w, Calls Tryz.prog 32 #[.agg #[.int .i64 n.kind, .int .i64 n.num, .string n.text, .string n.ref.sh, .int .i64 n.ref.c, .int .i64 n.ref.r, .bool n.ref.ac, .bool n.ref.ar, .string n.to.sh, .int .i64 n.to.c, .int .i64 n.to.r, .bool n.to.ac, .bool n.to.ar, .slice Ak m ck]] w fun e w' => e = .returned (.bool (leafB n)) ∧ Below w.heap.size w w' from fun w => refLeaf_any n HZ1.out HZ2.out HZ3.out Ak m ck w)
      cases hlf : leafB n
      · have HT2 := Lib.hid (show treeB (vs.map (·.1)) = false from HF0.out (by rw [HNB2.out, hlf]))
        rw [hlf] at HLE
        clear hlf
        rcases HO3.out.shape with ⟨rfl, hst⟩ | ⟨rg, rcap, rfl, hrg, hrl, hrc, hrm⟩
        · have hmg2 : ¬ 0 < m := by rw [hst] at hml; simp at hml; omega
          have hmg : ¬ 0 < (m : Int) := by omega
          clear hml hst
          rcases arms2 with ⟨ea, -⟩ | ⟨ea, rfl⟩
          all_goals
            go_wp2_with (first
              | (go_at_call 31; ((with_reducible refine (HAR.out _).mono ?_); rintro e w4 ⟨rfl, rfl⟩))
              | (go_at_call 32; ((with_reducible refine (HLE.out _).mono ?_); rintro e w5 ⟨rfl, h1⟩; have HB5 := Lib.hid (HB3.out.trans (h1.mono HB3.out.size)); clear h1)))
            go_ret
            exact ⟨by rw [HT2.out] <;> rfl, HB5.out⟩
        · clear hml
          rcases arms2 with ⟨ea, -⟩ | ⟨ea, rfl⟩
          all_goals
            go_wp2_with (first
              | (go_at_call 31; ((with_reducible refine (HAR.out _).mono ?_); rintro e w4 ⟨rfl, rfl⟩))
              | (go_at_call 32; ((with_reducible refine (HLE.out _).mono ?_); rintro e w5 ⟨rfl, h1⟩; have HB5 := Lib.hid (HB3.out.trans (h1.mono HB3.out.size)); clear h1)))
            go_ret
            exact ⟨by rw [HT2.out] <;> rfl, HB5.out⟩
      rw [hlf] at HLE
      have HNT := Lib.hid (show nodeB n = true by rw [HNB2.out, hlf])
      clear hlf HF0 HNB2
      have HSK := Lib.hid (show n.kids = [] ∨ ∃ kb ko, Ak = some ⟨kb, ko, none⟩ ∧ ∀ (j : Nat) (x : Int), n.kids[j]? = some x → w3.cell? ⟨kb, ko + j, none⟩ = some (.int .i64 x) from by
        rcases HKAT.out with e | ⟨kb, ko, e1, e2, e3⟩
        · exact .inl e
        · exact .inr ⟨kb, ko, e1, fun j x hj => (HB3.out.cell (p := ⟨kb, ko + j, none⟩) e2).trans (e3 j x hj)⟩)
      have hkbl := HKAT.out
      have HKL := Lib.hid (show ∀ kb ko, Ak = some ⟨kb, ko, none⟩ → n.kids ≠ [] → kb < w3.heap.size from by
        intro kb ko e hne
        rcases HKAT.out with e0 | ⟨kb', ko', e1, e2, e3⟩
        · exact absurd e0 hne
        · rw [e1] at e; injection e with e; injection e with e _ _
          have := HB3.out.size; omega)
      clear hkbl
      obtain ⟨f, hf⟩ : ∃ f, st.length - m = f := ⟨_, rfl⟩
      have HFX := Lib.hid (show treeB (vs.map (·.1)) = (decide (st.drop f = n.kids) && treeF (st.take f ++ [(i : Int)]) (i + 1) ((vs.map (·.1)).drop (i + 1))) by
        rw [HT.out, HD.out, treeF_cons, HNT.out, HM.out, decide_eq_true hml, hf, Bool.true_and, Bool.true_and])
      have hfm : f + m = st.length := by omega
      rcases HO3.out.shape with ⟨rfl, hst⟩ | ⟨rg, rcap, rfl, hrg, hrl, hrc, hrm⟩
      · have hm00 : m = 0 := by rw [hst] at hml; simp at hml; omega
        have hmg2 : ¬ 0 < m := by omega
        have hmg : ¬ 0 < (m : Int) := by omega
        have HST := Lib.hid hst
        have HKN := Lib.hid (show n.kids = [] from List.eq_nil_of_length_eq_zero (by rw [HM.out, hm00]))
        have HF00 := Lib.hid (show f = 0 by rw [hst] at hfm; simp at hfm; omega)
        have HM00 := Lib.hid hm00
        clear hml hst hf hfm hm00
        rcases arms2 with ⟨ea, -⟩ | ⟨ea, rfl⟩
        all_goals
          go_upto_region 12 with (first
            | (go_at_call 31; ((with_reducible refine (HAR.out _).mono ?_); rintro e w4 ⟨rfl, rfl⟩))
            | (go_at_call 32; ((with_reducible refine (HLE.out _).mono ?_); rintro e w5 ⟨rfl, h1⟩; have HB5 := Lib.hid (HB3.out.trans (h1.mono HB3.out.size)); clear h1)))
          go_loopw [7] (fun jv wq => jv = .int .i64 0 ∧ w5 = wq) (fun _ _ => 0)
          case atStart => exact ⟨rfl, rfl⟩
          case round =>
            obtain ⟨rfl, rfl⟩ := hrel
            have hmz : m = 0 := HM00.out
            subst hmz
            go_wp2_with (at_builtin; refine wpList_app_full HEL.out (encInt .i64) rfl (.tmp 75) (.tmp 77) rfl none 0 0 ([] : List Int) rfl (fun _ => ⟨rfl, rfl⟩) rfl (fun b e => by cases e) ⟨w5.heap.size, 0, none⟩ 1 1 [(i : Int)] rfl rfl ?_ (by omega) ?_ ?_ ?_; exact cells_new _ _ _ rfl; exact Nat.le_trans (Nat.mul_le_mul_left _ hEB) (by omega); (unfold maxLen; omega); intro v' w7 h1 h2; have HO7 := Lib.hid h1; have HB7 := Lib.hid h2; clear h1 h2)
            go_roundw
            case rel =>
              refine ⟨i + 1, [(i : Int)], v', by omega, by simp, rfl, by go_num, Lib.hid ?_, Lib.hid (HO7.out.mono ?_), Lib.hid ?_⟩
              · rw [HFX.out, HF00.out, HST.out, HKN.out]; rfl
              · simp; have := HB5.out.size; omega
              · exact (HB5.out.trans ((Below.refl _ _).alloc HB5.out.size _)).trans (HB7.out.mono (by simp; have := HB5.out.size; omega))
            case measure => simp [intOf]; omega
      · have hw1 : -9223372036854775808 ≤ (st.length : Int) - (m : Int) := by omega
        have hw2 : (st.length : Int) - (m : Int) ≤ 9223372036854775807 := by omega
        have hfi : (st.length : Int) - (m : Int) = (f : Int) := by omega
        have HFI := Lib.hid hfi
        have HRL := Lib.hid hrl
        clear hml hf hfi hrl
        rcases arms2 with ⟨ea, -⟩ | ⟨ea, rfl⟩
        all_goals
          go_upto_region 12 with (first
            | (go_at_call 31; ((with_reducible refine (HAR.out _).mono ?_); rintro e w4 ⟨rfl, rfl⟩))
            | (go_at_call 32; ((with_reducible refine (HLE.out _).mono ?_); rintro e w5 ⟨rfl, h1⟩; have HB5 := Lib.hid (HB3.out.trans (h1.mono HB3.out.size)); have HO5 := Lib.hid (HO3.out.below h1 (Nat.le_refl _)); have HN5 := Lib.hid (HN3.out.below h1 HN3.out.lt); have HBL5 := Lib.hid h1; clear h1)))
          clear x0 x1 x2 x3 x4 x5 x6 x7 x8 x9 x10 x11 x12 x13
          obtain ⟨x0, x1, x2, x3, x4, x5, x6, x7, x8, x9, x10, x11, x12, x13⟩ := HN5.out.cells
          clear x0 x1 x2 x3 x4 x5 x6 x7 x8 x9 x10 x11 x12
          go_loopw [7] (fun jv wq => ∃ j q : Nat, j ≤ m ∧ jv = .int .i64 (j : Int) ∧ Hid ((st.drop f).take j = n.kids.take j) ∧ w5.drewN q = wq) (fun jv _ => m - (intOf jv).toNat)
          case atStart => exact ⟨0, 0, Nat.zero_le _, rfl, Lib.hid rfl, rfl⟩
          case round =>
            obtain ⟨j, q, hj, rfl, HTK, rfl⟩ := hrel
            by_cases hjm : j < m
            · have hji : (j : Int) < (m : Int) := by omega
              obtain ⟨x, hx⟩ : ∃ x, st[f + j]? = some x := ⟨_, List.getElem?_eq_getElem (by omega)⟩
              obtain ⟨y, hy⟩ : ∃ y, n.kids[j]? = some y := ⟨_, List.getElem?_eq_getElem (by rw [HM.out]; exact hjm)⟩
              rcases HSK.out with e | ⟨kb, ko, rfl, hkc⟩
              · exfalso; rw [e] at hy; simp at hy
              have k1 := own_at HO5.out (f + j) x hx
              have k2 : w5.cell? ⟨kb, ko + j, none⟩ = some (.int .i64 y) := (HBL5.out.cell (p := ⟨kb, ko + j, none⟩) (HKL.out kb ko rfl (by intro e; rw [e] at hy; simp at hy))).trans (hkc j y hy)
              have HX := Lib.hid hx; have HY := Lib.hid hy
              have hz1 : -9223372036854775808 ≤ (f : Int) + (j : Int) := by omega
              have hz2 : (f : Int) + (j : Int) ≤ 9223372036854775807 := by omega
              have hz3 : (0 : Int) ≤ (f : Int) + (j : Int) := by omega
              have hz4 : (f : Int) + (j : Int) < (st.length : Int) := by omega
              clear hkc hx hy
              have hfi := HFI.out
              by_cases hxy : x = y
              · have ex : (x != y) = false := by rw [hxy]; simp
                have HT2 := Lib.hid (drop_take_at HTK.out HX.out (by rw [hxy]; exact HY.out))
                clear hxy
                have W1 : IntKind.i64.wrap ((st.length : Int) - (m : Int)) = (f : Int) := by rw [IntKind.wrap_i64]; omega
                have W2 : IntKind.i64.wrap ((f : Int) + (j : Int)) = (f : Int) + (j : Int) := by rw [IntKind.wrap_i64]; omega
                have W3 : ((f : Int) + (j : Int)).toNat = f + j := by omega
                go_wp2_with fail
                go_quiet (fail)
                clear W1 W2 W3
                go_wp2_with fail
                go_roundw
                case rel => exact ⟨j + 1, _, by omega, by go_num, HT2, by first | rfl | trivial⟩
                case measure => simp [intOf]; omega
              · have ex : (x != y) = true := by rw [bne_iff_ne]; exact hxy
                have HR := Lib.hid (show treeB (vs.map (·.1)) = false by rw [HFX.out, decide_eq_false (drop_ne HX.out HY.out hxy), Bool.false_and])
                clear hxy
                have W1 : IntKind.i64.wrap ((st.length : Int) - (m : Int)) = (f : Int) := by rw [IntKind.wrap_i64]; omega
                have W2 : IntKind.i64.wrap ((f : Int) + (j : Int)) = (f : Int) + (j : Int) := by rw [IntKind.wrap_i64]; omega
                have W3 : ((f : Int) + (j : Int)).toNat = f + j := by omega
                go_wp2_with fail
                go_quiet (fail)
                clear W1 W2 W3
                go_wp2_with fail
                go_ret
                exact ⟨by rw [HR.out] <;> rfl, drew_below (drew_below HB5.out q) nq⟩
            · have hji : ¬ (j : Int) < (m : Int) := by omega
              have hjm2 : j = m := by omega
              have HEQ := Lib.hid (show st.drop f = n.kids by
                have h1 := HTK.out
                rw [List.take_of_length_le (by rw [List.length_drop]; omega), List.take_of_length_le (by rw [HM.out]; omega)] at h1
                exact h1)
              have hfi := HFI.out
              have hfL : f ≤ st.length := by omega
              have hn0 : (0 : Int) ≤ (f : Int) := by omega
              have hn1 : (f : Int) ≤ (rcap : Int) := by omega
              have hn2 : f ≤ rcap := by omega
              go_wp2_with (at_builtin; refine wpList_app_full HEL.out (encInt .i64) rfl (.tmp 75) (.tmp 77) rfl (some ⟨rg, 0, none⟩) f f (st.take f) ?_ (fun h => by cases h) ?_ ?_ ⟨w5.heap.size, 0, none⟩ 1 1 [(i : Int)] rfl rfl ?_ (by omega) ?_ ?_ ?_; rfl; (rw [List.length_take]; omega); (intro b e; injection e with e; subst e; intro j' u hu; rw [Addr.add_mid, Nat.zero_add]; exact Own.cells (((own_take HO5.out f hfL).drewN q).alloc _) j' u hu); exact cells_new _ _ _ rfl; exact Nat.le_trans (Nat.mul_le_mul_left _ hEB) (by omega); (unfold maxLen; omega); intro v' w7 h1 h2; have HO7 := Lib.hid h1; have HB7 := Lib.hid h2; clear h1 h2)
              go_roundw
              case rel =>
                refine ⟨i + 1, st.take f ++ [(i : Int)], v', by omega, by simp; omega, rfl, by go_num, Lib.hid ?_, Lib.hid (HO7.out.mono ?_), Lib.hid ?_⟩
                · rw [HFX.out, decide_eq_true HEQ.out, Bool.true_and]
                · simp; have := HB5.out.size; omega
                · exact (Below.alloc (drew_below HB5.out q) (drew_below HB5.out q).size _).trans (HB7.out.mono (by simp; have := HB5.out.size; omega))
              case measure => simp [intOf]; omega
    · have hii : ¬ (i : Int) < (nl : Int) := by omega
      have hin : i = nl := by omega
      have HT2 := Lib.hid (show treeB (vs.map (·.1)) = decide (st.length = 1) by
        rw [HT.out, List.drop_of_length_le (by rw [List.length_map, HNL.out]; omega)]; rfl)
      rcases HO.out.shape with ⟨rfl, hst⟩ | ⟨rg, rcap, rfl, -⟩
      · rw [hst] at HT2
        go_wp2_with fail
        go_ret
        exact ⟨by rw [HT2.out] <;> rfl, HB.out⟩
      · by_cases h1 : st.length = 1
        · have h1i : ((st.length : Int) == 1) = true := by rw [beq_iff_eq]; omega
          rw [decide_eq_true h1] at HT2
          clear h1
          go_wp2_with fail
          go_ret
          exact ⟨by rw [HT2.out] <;> rfl, HB.out⟩
        · have h1i : ((st.length : Int) == 1) = false := by rw [beq_eq_false_iff_ne]; omega
          rw [decide_eq_false h1] at HT2
          clear h1
          go_wp2_with fail
          go_ret
          exact ⟨by rw [HT2.out] <;> rfl, HB.out⟩
end Go.Proofs.YtdfpalocnijefaaGreatDoor

/-
  Arguments opened: a reference, by value.
-/
namespace Go.Proofs.YtdfpalocnijefaaGreatDoor
open Go.ChangeShapes Go.WideShapes Go.ChangeAt Go.RowKit

theorem one_at {l : List Value} {j : Nat} {x : Value} (h : (l.drop j).take 1 = [x]) : l[j]? = some x := by
  have h1 : (l.drop j)[0]? = some x := by
    cases hd : l.drop j with
    | nil => rw [hd] at h; cases h
    | cons a t => rw [hd] at h; simp at h; subst h; rfl
  rw [List.getElem?_drop] at h1; exact h1
theorem cells_ref : Tryz.prog.cellsOf 35 = 5 := by kernel_rfl
theorem cells_string : Tryz.prog.cellsOf 9 = 1 := by kernel_rfl
theorem cells_int : Tryz.prog.cellsOf 3 = 1 := by kernel_rfl
theorem cells_bool : Tryz.prog.cellsOf 4 = 1 := by kernel_rfl
set_option maxRecDepth 100000 in
theorem open_ref {H : Type} {enc : TypeId × Value → H} {W : World} {base : Nat} {v : Value} {d : DataW H} {p : List MemPlace} (hval : Value.okWide Tryz.prog W .any base 35 v) (h : DataW.Trod enc Tryz.prog W 0 (fun _ => true) true 35 v d p) :
    ∃ (s : ByteArray) (c r : Int) (ac ar : Bool), v = .agg #[.string s, .int .i64 c, .int .i64 r, .bool ac, .bool ar] ∧ s.size ≤ maxLen := by
  obtain ⟨cs, rfl, hsz⟩ := okWide_struct Tryz.underlying35 hval
  obtain ⟨fuel, hf⟩ := h
  obtain ⟨xs, n, _, _, hl, hlen, hg⟩ := DataW.trod_struct Tryz.underlying35 hf
  have hx : ∀ j, j < 5 → ∃ y, xs[j]? = some y := fun j hj => ⟨_, List.getElem?_eq_getElem (by rw [hlen]; exact hj)⟩
  obtain ⟨y0, e0⟩ := hx 0 (by omega)
  obtain ⟨y1, e1⟩ := hx 1 (by omega)
  obtain ⟨y2, e2⟩ := hx 2 (by omega)
  obtain ⟨y3, e3⟩ := hx 3 (by omega)
  obtain ⟨y4, e4⟩ := hx 4 (by omega)
  obtain ⟨s, a0, _, z0⟩ := DataW.trod_string Tryz.underlying9 ((hg 0 _ rfl).trans e0)
  obtain ⟨c, a1, _, _⟩ := DataW.trod_int Tryz.underlying3 ((hg 1 _ rfl).trans e1)
  obtain ⟨r, a2, _, _⟩ := DataW.trod_int Tryz.underlying3 ((hg 2 _ rfl).trans e2)
  obtain ⟨ac, a3, _⟩ := DataW.trod_bool Tryz.underlying4 ((hg 3 _ rfl).trans e3)
  obtain ⟨ar, a4, _⟩ := DataW.trod_bool Tryz.underlying4 ((hg 4 _ rfl).trans e4)
  have k0 : (cs.toList.drop 0).take (Tryz.prog.cellsOf 9) = [.string s] := a0
  have k1 : (cs.toList.drop 1).take (Tryz.prog.cellsOf 3) = [.int .i64 c] := a1
  have k2 : (cs.toList.drop 2).take (Tryz.prog.cellsOf 3) = [.int .i64 r] := a2
  have k3 : (cs.toList.drop 3).take (Tryz.prog.cellsOf 4) = [.bool ac] := a3
  have k4 : (cs.toList.drop 4).take (Tryz.prog.cellsOf 4) = [.bool ar] := a4
  rw [cells_string] at k0
  rw [cells_int] at k1 k2
  rw [cells_bool] at k3 k4
  have b0 := one_at k0
  have b1 := one_at k1
  have b2 := one_at k2
  have b3 := one_at k3
  have b4 := one_at k4
  rw [cells_ref] at hsz
  refine ⟨s, c, r, ac, ar, ?_, z0⟩
  congr 1
  apply Array.ext'
  obtain ⟨l⟩ := cs
  match l, hsz with
  | [u0, u1, u2, u3, u4], _ =>
    simp at b0 b1 b2 b3 b4
    rw [b0, b1, b2, b3, b4]
end Go.Proofs.YtdfpalocnijefaaGreatDoor

/-
  Arguments opened: a slice of nodes.
-/
namespace Go.Proofs.YtdfpalocnijefaaGreatDoor
open Go.ChangeShapes Go.WideShapes Go.ChangeAt Go.RowKit

theorem len5 : ∀ l : List Value, l.length = 5 → ∃ u0 u1 u2 u3 u4, l = [u0, u1, u2, u3, u4]
  | [u0, u1, u2, u3, u4], _ => ⟨u0, u1, u2, u3, u4, rfl⟩
theorem len14 : ∀ l : List Value, l.length = 14 → ∃ u0 u1 u2 u3 u4 u5 u6 u7 u8 u9 u10 u11 u12 u13, l = [u0, u1, u2, u3, u4, u5, u6, u7, u8, u9, u10, u11, u12, u13]
  | [u0, u1, u2, u3, u4, u5, u6, u7, u8, u9, u10, u11, u12, u13], _ => ⟨u0, u1, u2, u3, u4, u5, u6, u7, u8, u9, u10, u11, u12, u13, rfl⟩
theorem cells_node : Tryz.prog.cellsOf 38 = 14 := by kernel_rfl
theorem cells_kids : Tryz.prog.cellsOf 36 = 1 := by kernel_rfl
set_option maxRecDepth 100000 in
theorem ref_of_trod {H : Type} {enc : TypeId × Value → H} {W : World} {base fuel : Nat} {sp : Nat → Bool} {held : Bool} {cs : List Value} {y : DataW H × List MemPlace} (h : DataW.trod enc Tryz.prog W base sp held fuel 35 cs = some y) :
    ∃ f : Rf, cs = [.string f.sh, .int .i64 f.c, .int .i64 f.r, .bool f.ac, .bool f.ar] ∧ f.sh.size ≤ maxLen ∧ (-9223372036854775808 ≤ f.c ∧ f.c ≤ 9223372036854775807) ∧ (-9223372036854775808 ≤ f.r ∧ f.r ≤ 9223372036854775807) := by
  obtain ⟨xs, n, _, _, hsz, hlen, hg⟩ := DataW.trod_struct Tryz.underlying35 h
  have hx : ∀ j, j < 5 → ∃ y, xs[j]? = some y := fun j hj => ⟨_, List.getElem?_eq_getElem (by rw [hlen]; exact hj)⟩
  obtain ⟨y0, e0⟩ := hx 0 (by omega)
  obtain ⟨y1, e1⟩ := hx 1 (by omega)
  obtain ⟨y2, e2⟩ := hx 2 (by omega)
  obtain ⟨y3, e3⟩ := hx 3 (by omega)
  obtain ⟨y4, e4⟩ := hx 4 (by omega)
  obtain ⟨s, a0, _, z0⟩ := DataW.trod_string Tryz.underlying9 ((hg 0 _ rfl).trans e0)
  obtain ⟨c, a1, _, z1⟩ := DataW.trod_int Tryz.underlying3 ((hg 1 _ rfl).trans e1)
  obtain ⟨r, a2, _, z2⟩ := DataW.trod_int Tryz.underlying3 ((hg 2 _ rfl).trans e2)
  obtain ⟨ac, a3, _⟩ := DataW.trod_bool Tryz.underlying4 ((hg 3 _ rfl).trans e3)
  obtain ⟨ar, a4, _⟩ := DataW.trod_bool Tryz.underlying4 ((hg 4 _ rfl).trans e4)
  have k0 : (cs.drop 0).take (Tryz.prog.cellsOf 9) = [.string s] := a0
  have k1 : (cs.drop 1).take (Tryz.prog.cellsOf 3) = [.int .i64 c] := a1
  have k2 : (cs.drop 2).take (Tryz.prog.cellsOf 3) = [.int .i64 r] := a2
  have k3 : (cs.drop 3).take (Tryz.prog.cellsOf 4) = [.bool ac] := a3
  have k4 : (cs.drop 4).take (Tryz.prog.cellsOf 4) = [.bool ar] := a4
  rw [cells_string] at k0
  rw [cells_int] at k1 k2
  rw [cells_bool] at k3 k4
  have b0 := one_at k0
  have b1 := one_at k1
  have b2 := one_at k2
  have b3 := one_at k3
  have b4 := one_at k4
  rw [cells_ref] at hsz
  refine ⟨⟨s, c, r, ac, ar⟩, ?_, z0, bounds_i64 z1, bounds_i64 z2⟩
  obtain ⟨u0, u1, u2, u3, u4, rfl⟩ := len5 cs hsz
  simp at b0 b1 b2 b3 b4
  rw [b0, b1, b2, b3, b4]
/-- What the type says of a node's numbers and texts. -/
structure Nb (n : Nd) : Prop where
  kind : -9223372036854775808 ≤ n.kind ∧ n.kind ≤ 9223372036854775807
  num : -9223372036854775808 ≤ n.num ∧ n.num ≤ 9223372036854775807
  text : n.text.size ≤ maxLen
  refs : n.ref.sh.size ≤ maxLen
  refc : -9223372036854775808 ≤ n.ref.c ∧ n.ref.c ≤ 9223372036854775807
  refr : -9223372036854775808 ≤ n.ref.r ∧ n.ref.r ≤ 9223372036854775807
  tos : n.to.sh.size ≤ maxLen
  toc : -9223372036854775808 ≤ n.to.c ∧ n.to.c ≤ 9223372036854775807
  tor : -9223372036854775808 ≤ n.to.r ∧ n.to.r ≤ 9223372036854775807
theorem five_at {l : List Value} {j : Nat} {v0 v1 v2 v3 v4 : Value} (h : (l.drop j).take 5 = [v0, v1, v2, v3, v4]) : l[j]? = some v0 ∧ l[j + 1]? = some v1 ∧ l[j + 2]? = some v2 ∧ l[j + 3]? = some v3 ∧ l[j + 4]? = some v4 := by
  have hk : ∀ k, k < 5 → l[j + k]? = [v0, v1, v2, v3, v4][k]? := fun k hk => by
    rw [← h, List.getElem?_take_of_lt hk, List.getElem?_drop]
  exact ⟨hk 0 (by omega), hk 1 (by omega), hk 2 (by omega), hk 3 (by omega), hk 4 (by omega)⟩
theorem si_of_trod {H : Type} {enc : TypeId × Value → H} {W : World} {fuel : Nat} {k : Value} {y : DataW H × List MemPlace} (h : DataW.trod enc Tryz.prog W 0 (fun _ => true) true fuel 36 [k] = some y) : ∃ xs, SI W W.heap.size k xs := by
  rcases open_ints Tryz.underlying36 Tryz.underlying3 cells_int h with ⟨hcs, _⟩ | ⟨a, len, cap, zs, hcs, _, hl, hm, hz, _, hcell, _⟩
  · injection hcs with hcs _
    subst hcs
    exact ⟨[], none, 0, rfl, Nat.le_refl _, by unfold maxLen; omega, .inl rfl⟩
  · injection hcs with hcs _
    subst hcs
    simp only [if_true] at hz
    have hzl : (zs.take len).length = len := by rw [List.length_take]; omega
    by_cases h0 : len = 0
    · subst h0
      exact ⟨[], some a, cap, rfl, hl, hm, .inl rfl⟩
    · obtain ⟨b, off, rfl, hc⟩ := ints_at hcell (by omega)
      refine ⟨zs.take len, some ⟨b, off, none⟩, cap, by rw [hzl], by rw [hzl]; exact hl, hm, .inr ⟨b, off, rfl, block_lt_of_cell (hc 0 (by omega)), fun j x hj => ?_⟩⟩
      have hjl := (List.getElem?_eq_some_iff.1 hj).1
      rw [hzl] at hjl
      rw [hc j (by omega)]
      congr 2
      rw [List.getElem?_take_of_lt hjl] at hj
      rw [List.getD_eq_getElem?_getD, hj]; rfl
set_option maxRecDepth 100000 in
theorem nod_of_trod {H : Type} {enc : TypeId × Value → H} {W : World} {fuel : Nat} {cs : List Value} {y : DataW H × List MemPlace} (h : DataW.trod enc Tryz.prog W 0 (fun _ => true) true fuel 38 cs = some y) :
    ∃ (n : Nd) (k : Value), cs = (nodA n k).toList ∧ Nb n ∧ SI W W.heap.size k n.kids := by
  obtain ⟨xs, m, _, _, hsz, hlen, hg⟩ := DataW.trod_struct Tryz.underlying38 h
  have hx : ∀ j, j < 6 → ∃ y, xs[j]? = some y := fun j hj => ⟨_, List.getElem?_eq_getElem (by rw [hlen]; exact hj)⟩
  obtain ⟨y0, e0⟩ := hx 0 (by omega)
  obtain ⟨y1, e1⟩ := hx 1 (by omega)
  obtain ⟨y2, e2⟩ := hx 2 (by omega)
  obtain ⟨y3, e3⟩ := hx 3 (by omega)
  obtain ⟨y4, e4⟩ := hx 4 (by omega)
  obtain ⟨y5, e5⟩ := hx 5 (by omega)
  obtain ⟨kd, a0, _, z0⟩ := DataW.trod_int Tryz.underlying3 ((hg 0 _ rfl).trans e0)
  obtain ⟨nu, a1, _, z1⟩ := DataW.trod_int Tryz.underlying3 ((hg 1 _ rfl).trans e1)
  obtain ⟨tx, a2, _, z2⟩ := DataW.trod_string Tryz.underlying9 ((hg 2 _ rfl).trans e2)
  obtain ⟨rf, a3, z3, z3c, z3r⟩ := ref_of_trod ((hg 3 _ rfl).trans e3)
  obtain ⟨to', a4, z4, z4c, z4r⟩ := ref_of_trod ((hg 4 _ rfl).trans e4)
  have k0 : (cs.drop 0).take (Tryz.prog.cellsOf 3) = [.int .i64 kd] := a0
  have k1 : (cs.drop 1).take (Tryz.prog.cellsOf 3) = [.int .i64 nu] := a1
  have k2 : (cs.drop 2).take (Tryz.prog.cellsOf 9) = [.string tx] := a2
  have k3 : (cs.drop 3).take (Tryz.prog.cellsOf 35) = [.string rf.sh, .int .i64 rf.c, .int .i64 rf.r, .bool rf.ac, .bool rf.ar] := a3
  have k4 : (cs.drop 8).take (Tryz.prog.cellsOf 35) = [.string to'.sh, .int .i64 to'.c, .int .i64 to'.r, .bool to'.ac, .bool to'.ar] := a4
  have h5 : DataW.trod enc Tryz.prog W 0 (fun _ => true) true m 36 ((cs.drop 13).take (Tryz.prog.cellsOf 36)) = some y5 := (hg 5 _ rfl).trans e5
  rw [cells_node] at hsz
  have k5 : (cs.drop 13).take (Tryz.prog.cellsOf 36) = [cs[13]'(by omega)] := by
    rw [cells_kids, List.drop_eq_getElem_cons (by omega)]; rfl
  rw [k5] at h5
  obtain ⟨ks, hks⟩ := si_of_trod h5
  have b5 : cs[13]? = some (cs[13]'(by omega)) := List.getElem?_eq_getElem _
  generalize cs[13]'(by omega) = k at hks b5
  rw [cells_string] at k2
  rw [cells_int] at k0 k1
  rw [cells_ref] at k3 k4
  have b0 := one_at k0
  have b1 := one_at k1
  have b2 := one_at k2
  obtain ⟨b3, b4, b6, b7, b8⟩ := five_at k3
  obtain ⟨c3, c4, c6, c7, c8⟩ := five_at k4
  refine ⟨⟨kd, nu, tx, rf, to', ks⟩, k, ?_, ⟨bounds_i64 z0, bounds_i64 z1, z2, z3, z3c, z3r, z4, z4c, z4r⟩, hks⟩
  obtain ⟨u0, u1, u2, u3, u4, u5, u6, u7, u8, u9, u10, u11, u12, u13, rfl⟩ := len14 cs hsz
  simp at b0 b1 b2 b3 b4 b6 b7 b8 c3 c4 c6 c7 c8 b5
  rw [b0, b1, b2, b3, b4, b6, b7, b8, c3, c4, c6, c7, c8, b5]; rfl
theorem choose_nodes {p : Nat → Nd × Value → Prop} : ∀ n : Nat, (∀ i, i < n → ∃ q, p i q) → ∃ vs : List (Nd × Value), vs.length = n ∧ ∀ i q, vs[i]? = some q → p i q
  | 0, _ => ⟨[], rfl, fun i q h => by simp at h⟩
  | n + 1, h => by
    obtain ⟨vs, hl, hv⟩ := choose_nodes n fun i hi => h i (by omega)
    obtain ⟨q, hq⟩ := h n (by omega)
    refine ⟨vs ++ [q], by rw [List.length_append, hl]; rfl, fun i q' hi => ?_⟩
    by_cases hin : i < n
    · rw [List.getElem?_append_left (by omega)] at hi; exact hv i q' hi
    · have hl2 := (List.getElem?_eq_some_iff.1 hi).1
      rw [List.length_append, hl] at hl2
      have e : i = n := by simp at hl2; omega
      subst e
      rw [List.getElem?_append_right (by omega), hl, Nat.sub_self] at hi
      simp at hi; subst hi; exact hq
set_option maxRecDepth 100000 in
/-- A slice of nodes that came in. -/
theorem open_nodes {H : Type} {enc : TypeId × Value → H} {W : World} {base : Nat} {v : Value} {d : DataW H} {p : List MemPlace} (hval : Value.okWide Tryz.prog W .any base 23 v) (h : DataW.Trod enc Tryz.prog W 0 (fun _ => true) true 23 v d p) :
    ∃ vs, SN W W.heap.size v vs ∧ vs.length ≤ maxLen ∧ ∀ q ∈ vs, Nb q.1 := by
  obtain ⟨A, len, cap, rfl⟩ := okWide_slice Tryz.underlying23 hval
  obtain ⟨fuel, hf⟩ := h
  rcases Go.Deep.open_slice Tryz.underlying23 hf with ⟨hcs, _⟩ | ⟨a, len', cap', m, n, D, Pl, hcs, _, hl, hm, hmm, _, hi⟩
  · simp [Value.cells] at hcs
    obtain ⟨rfl, rfl, rfl⟩ := hcs
    exact ⟨[], ⟨⟨none, 0, rfl, .inl rfl⟩, fun p hp => by simp at hp⟩, by unfold maxLen; simp, fun p hp => by simp at hp⟩
  · simp [Value.cells] at hcs
    obtain ⟨rfl, rfl, rfl⟩ := hcs
    simp only [if_true] at hmm
    subst hmm
    rw [cells_node] at hi
    obtain ⟨vs, hvl, hvs⟩ := choose_nodes (p := fun i q => (∀ j, j < 14 → W.cell? (a.add (i * 14 + j)) = (nodA q.1 q.2).toList[j]?) ∧ Nb q.1 ∧ SI W W.heap.size q.2 q.1.kids) len (fun i hil => by
      obtain ⟨cs, hc, ht⟩ := hi i (by omega)
      obtain ⟨nd, k, hcs, hb, hs⟩ := nod_of_trod ht
      obtain ⟨_, hcl, hat⟩ := World.cells?_some hc
      refine ⟨(nd, k), fun j hj => ?_, hb, hs⟩
      have := hat j hj
      rw [Go.Deep.add_add] at this
      rw [this, hcs])
    refine ⟨vs, ⟨⟨some a, m, by rw [hvl], ?_⟩, fun q hq => ?_⟩, by omega, fun q hq => ?_⟩
    · by_cases h0 : vs = []
      · exact .inl h0
      · have hpos : 0 < vs.length := List.length_pos_iff.2 h0
        obtain ⟨c0, -, -⟩ := hvs 0 _ (List.getElem?_eq_getElem hpos)
        have c00 := c0 0 (by omega)
        obtain ⟨b, off, spot⟩ := a
        have hspot : spot = none := by simpa [Addr.add] using World.cell?_spot (c00.trans rfl)
        subst hspot
        refine .inr ⟨b, off, rfl, ?_, fun i nd k hik j hj => ?_⟩
        · rw [Go.WideShapes.add_plain] at c00
          exact block_lt_of_cell (c00.trans rfl)
        · have := (hvs i _ hik).1 j hj
          rw [Go.WideShapes.add_plain] at this
          rw [Nat.add_assoc]; exact this
    · obtain ⟨i, hi⟩ := List.getElem?_of_mem hq
      exact (hvs i _ hi).2.2
    · obtain ⟨i, hi⟩ := List.getElem?_of_mem hq
      exact (hvs i _ hi).2.1
end Go.Proofs.YtdfpalocnijefaaGreatDoor

/-
  Layer 5, the laws: ParseTrees.
-/
namespace Go.Proofs.YtdfpalocnijefaaGreatDoor
open Go.RowKit

/-- What the statement asks of a node's sizes. -/
def SmallN (n : Nd) : Prop := n.kids.length ≤ 100 ∧ n.text.size ≤ 500 ∧ n.ref.sh.size ≤ 100 ∧ n.to.sh.size ≤ 100
theorem small_sz {vs : List (Nd × Value)} (hl : vs.length ≤ 60) (h : ∀ q ∈ vs, SmallN q.1) : SZ vs :=
  ⟨by omega, fun q hq => by have := h q hq; unfold SmallN at this; omega⟩
theorem small_snoc {vs : List (Nd × Value)} {i : Nat} {q : Nd × Value} (h : ∀ q ∈ vs.take i, SmallN q.1) (hq : vs[i]? = some q) (hs : SmallN q.1) : ∀ q ∈ vs.take (i + 1), SmallN q.1 := by
  intro p hp
  rw [List.take_add_one, hq] at hp
  rcases List.mem_append.1 hp with hp | hp
  · exact h p hp
  · simp at hp; subst hp; exact hs
theorem SN.below {w w' : World} {v : Value} {vs : List (Nd × Value)} (h : SN w w.heap.size v vs) (hb : Below w.heap.size w w') : SN w' w'.heap.size v vs := by
  obtain ⟨⟨A, cap, e, hat⟩, hk⟩ := h
  refine ⟨⟨A, cap, e, hat.imp id ?_⟩, fun p hp => ((hk p hp).below hb (Nat.le_refl _)).mono hb.size⟩
  rintro ⟨pb, po, e1, e2, e3⟩
  refine ⟨pb, po, e1, Nat.lt_of_lt_of_le e2 hb.size, fun i n k hi j hj => ?_⟩
  rw [hb.cell (p := ⟨pb, po + i * 14 + j, none⟩) e2]; exact e3 i n k hi j hj
set_option maxRecDepth 100000 in
set_option maxHeartbeats 8000000 in
theorem parseTrees_any (v : Value) (vs : List (Nd × Value)) (W : World) (h : SN W W.heap.size v vs) (hlen : vs.length ≤ maxLen) (hbd : ∀ q ∈ vs, Nb q.1) (hv : Vars W) (ho : OpV W) :
    Calls Tryz.prog 4 #[v] W fun e w' => e = .returned (.bool true) ∧ Below W.heap.size W w' := by
  have HSN := Lib.hid h
  obtain ⟨⟨A, cap, rfl, hat⟩, hkid⟩ := h
  obtain ⟨nl, hnl⟩ : ∃ nl, vs.length = nl := ⟨_, rfl⟩
  rw [hnl] at hlen HSN ⊢
  unfold maxLen at hlen
  have HAT := Lib.hid hat; have HKID := Lib.hid hkid; have HNL := Lib.hid hnl; have HBD := Lib.hid hbd; have HV := Lib.hid hv; have HOV := Lib.hid ho
  have HAW := Lib.hid (awake5_any W hv ho)
  clear hat hkid hnl hbd hv ho
  go_enter Tryz.func4, Tryz.ntmps4
  go_upto_region 2 with (fail)
  go_loopw [3] (fun iv wr => ∃ i : Nat, i ≤ nl ∧ i ≤ 80 ∧ iv = .int .i64 (i : Int) ∧ Hid (∀ q ∈ vs.take i, SmallN q.1) ∧ W = wr) (fun iv _ => nl - (intOf iv).toNat)
  case atStart => exact ⟨0, Nat.zero_le _, by omega, rfl, Lib.hid (by simp), rfl⟩
  case round =>
    obtain ⟨i, hi, hi80, rfl, HS, rfl⟩ := hrel
    by_cases hgo : i < nl ∧ i < 80
    · obtain ⟨hlt, h80⟩ := hgo
      have hii : (i : Int) < (nl : Int) := by omega
      have hi8 : (i : Int) < 80 := by omega
      obtain ⟨⟨n, k⟩, hnk⟩ : ∃ q, vs[i]? = some q := ⟨_, List.getElem?_eq_getElem (by rw [HNL.out]; exact hlt)⟩
      have hmem := List.mem_of_getElem? hnk
      have HNK := Lib.hid hnk
      have hnb := HBD.out _ hmem
      have hz1 := hnb.text; have hz2 := hnb.refs; have hz3 := hnb.tos
      unfold maxLen at hz1 hz2 hz3
      clear hnb
      have hski : SI W W.heap.size k n.kids := HKID.out _ hmem
      obtain ⟨Ak, ck, hk, hkc, hkm, -⟩ := hski
      obtain ⟨m, hm⟩ : ∃ m, n.kids.length = m := ⟨_, rfl⟩
      rw [hm] at hk hkc
      subst hk
      have hmx : m ≤ 9223372036854775807 := by unfold maxLen at hkm; omega
      have HM := Lib.hid hm
      rcases HAT.out with e | ⟨pb, po, rfl, hpb, hcells⟩
      · exfalso; rw [e] at hnk; simp at hnk
      have hcell := hcells i n _ hnk
      have k2 : W.cell? ⟨pb, po + i * 14 + 2, none⟩ = some (.string n.text) := hcell 2 (by omega)
      have k3 : W.cell? ⟨pb, po + i * 14 + 3, none⟩ = some (.string n.ref.sh) := hcell 3 (by omega)
      have k8 : W.cell? ⟨pb, po + i * 14 + 8, none⟩ = some (.string n.to.sh) := hcell 8 (by omega)
      have k13 : W.cell? ⟨pb, po + i * 14 + 13, none⟩ = some (.slice Ak m ck) := hcell 13 (by omega)
      clear hcell hcells hnk hmem hm hkc hkm
      obtain ⟨z1, e1⟩ : ∃ z1, n.text.size = z1 := ⟨_, rfl⟩
      obtain ⟨z2, e2⟩ : ∃ z2, n.ref.sh.size = z2 := ⟨_, rfl⟩
      obtain ⟨z3, e3⟩ : ∃ z3, n.to.sh.size = z3 := ⟨_, rfl⟩
      have HSM := Lib.hid (show m ≤ 100 → n.text.size ≤ 500 → n.ref.sh.size ≤ 100 → n.to.sh.size ≤ 100 → SmallN n from fun a b c d => ⟨by rw [HM.out]; exact a, b, c, d⟩)
      clear e1 e2 e3
      by_cases c1 : 100 < m
      · have d1 : (100 : Int) < (m : Int) := by omega
        go_wp2_with (go_at_call 10; ((with_reducible refine HAW.out.mono ?_); rintro e w2 ⟨rfl, h1⟩; have HB2 := Lib.hid h1; clear h1))
        go_ret
        exact ⟨rfl, HB2.out⟩
      have d1 : ¬ (100 : Int) < (m : Int) := by omega
      by_cases c2 : 500 < n.text.size
      · have d2 : (500 : Int) < (n.text.size : Int) := by omega
        go_wp2_with (go_at_call 10; ((with_reducible refine HAW.out.mono ?_); rintro e w2 ⟨rfl, h1⟩; have HB2 := Lib.hid h1; clear h1))
        go_ret
        exact ⟨rfl, HB2.out⟩
      have d2 : ¬ (500 : Int) < (n.text.size : Int) := by omega
      by_cases c3 : 100 < n.ref.sh.size
      · have d3 : (100 : Int) < (n.ref.sh.size : Int) := by omega
        go_wp2_with (go_at_call 10; ((with_reducible refine HAW.out.mono ?_); rintro e w2 ⟨rfl, h1⟩; have HB2 := Lib.hid h1; clear h1))
        go_ret
        exact ⟨rfl, HB2.out⟩
      have d3 : ¬ (100 : Int) < (n.ref.sh.size : Int) := by omega
      by_cases c4 : 100 < n.to.sh.size
      · have d4 : (100 : Int) < (n.to.sh.size : Int) := by omega
        go_wp2_with (go_at_call 10; ((with_reducible refine HAW.out.mono ?_); rintro e w2 ⟨rfl, h1⟩; have HB2 := Lib.hid h1; clear h1))
        go_ret
        exact ⟨rfl, HB2.out⟩
      have d4 : ¬ (100 : Int) < (n.to.sh.size : Int) := by omega
      go_wp2_with fail
      go_roundw
      case rel => exact ⟨i + 1, by omega, by omega, by go_num, Lib.hid (small_snoc HS.out HNK.out (HSM.out (by omega) (by omega) (by omega) (by omega))), by first | rfl | trivial⟩
      case measure => simp [intOf]; omega
    · have fin : Calls Tryz.prog 10 #[] W fun e w' => e = .returned (.bool true) ∧ Below W.heap.size W w' := HAW.out
      clear fin
      have hout : ((i : Int) < (nl : Int) ∧ ¬ (i : Int) < 80) ∨ ¬ (i : Int) < (nl : Int) := by omega
      by_cases h60 : 60 < nl
      · have h60i : (60 : Int) < (nl : Int) := by omega
        rcases hout with ⟨o1, o2⟩ | o1
        all_goals
          go_wp2_with fail
          go_ret
          exact ⟨rfl, Below.refl _ _⟩
      · have h60i : ¬ (60 : Int) < (nl : Int) := by omega
        have hin : i = nl := by omega
        have o1 : ¬ (i : Int) < (nl : Int) := by omega
        have HSZ := Lib.hid (small_sz (by rw [HNL.out]; omega) (by have := HS.out; rw [List.take_of_length_le (by rw [HNL.out]; omega)] at this; exact this))
        have HT1 := Lib.hid (ptree_any W _ vs HV.out HSN.out HSZ.out)
        have HT2 := Lib.hid (fun w1 (hb : Below W.heap.size W w1) => refTree_any w1 _ vs (SN.below HSN.out hb) HSZ.out)
        have HAW2 := Lib.hid (fun w1 (hb : Below W.heap.size W w1) => awake5_any w1 (HV.out.below hb) (HOV.out.below hb))
        obtain ⟨tb, htb⟩ : ∃ tb, treeB (vs.map (·.1)) = tb := ⟨_, rfl⟩
        rw [htb] at HT1
        have HTB := Lib.hid htb
        clear htb hout hin
        cases tb
        all_goals
          go_wp2_with (first
            | (go_at_call 15; ((with_reducible refine HT1.out.mono ?_); rintro e w2 ⟨rfl, h1⟩; have HB2 := Lib.hid h1; clear h1))
            | (go_at_call 16; ((with_reducible refine (HT2.out _ HB2.out).mono ?_); rintro e w3 ⟨rfl, h1⟩; rw [HTB.out]; have HB3 := Lib.hid (HB2.out.trans (h1.mono HB2.out.size)); clear h1))
            | (go_at_call 10; ((with_reducible refine (HAW2.out _ HB3.out).mono ?_); rintro e w4 ⟨rfl, h1⟩; have HB4 := Lib.hid (HB3.out.trans (h1.mono HB3.out.size)); clear h1)))
          go_ret
          exact ⟨rfl, HB4.out⟩
end Go.Proofs.YtdfpalocnijefaaGreatDoor

/-
  Layer 5, the reference: what tells lists of numbers and lists of nodes apart.
-/
namespace Go.Proofs.YtdfpalocnijefaaGreatDoor
open Go.RowKit

set_option maxRecDepth 100000 in
set_option maxHeartbeats 1600000 in
theorem refInts_any (w : World) (B : Nat) (v1 v2 : Value) (xs ys : List Int) (h1 : SI w B v1 xs) (h2 : SI w B v2 ys) : Calls Tryz.prog 28 #[v1, v2] w fun e w' => e = .returned (.bool (decide (xs = ys))) ∧ Below w.heap.size w w' := by
  obtain ⟨A1, cap1, rfl, hc1, hm1, a1⟩ := h1
  obtain ⟨A2, cap2, rfl, hc2, hm2, a2⟩ := h2
  unfold maxLen at hm1 hm2
  obtain ⟨n1, hn1⟩ : ∃ n1, xs.length = n1 := ⟨_, rfl⟩
  obtain ⟨n2, hn2⟩ : ∃ n2, ys.length = n2 := ⟨_, rfl⟩
  rw [hn1] at hc1 ⊢
  rw [hn2] at hc2 ⊢
  by_cases hl : n1 = n2
  · subst hl
    have HA1 := Lib.hid a1; have HA2 := Lib.hid a2; have HN1 := Lib.hid hn1; have HN2 := Lib.hid hn2
    clear a1 a2 hn1 hn2
    go_enter Tryz.func28, Tryz.ntmps28
    go_upto_region 4 with (fail)
    go_loopw [5] (fun i wr => ∃ (k m : Nat), k ≤ n1 ∧ i = .int .i64 (k : Int) ∧ Hid (xs.take k = ys.take k) ∧ w.drewN m = wr)
      (fun i _ => n1 - (intOf i).toNat)
    case atStart => exact ⟨0, 0, Nat.zero_le _, rfl, Lib.hid rfl, rfl⟩
    case round =>
      obtain ⟨k, m, hk, rfl, HT, rfl⟩ := hrel
      by_cases hlt : k < n1
      · have hki : (k : Int) < (n1 : Int) := by omega
        obtain ⟨x, hx⟩ : ∃ x, xs[k]? = some x := ⟨_, List.getElem?_eq_getElem (by rw [HN1.out]; exact hlt)⟩
        obtain ⟨y, hy⟩ : ∃ y, ys[k]? = some y := ⟨_, List.getElem?_eq_getElem (by rw [HN2.out]; exact hlt)⟩
        rcases HA1.out with e | ⟨p1, o1, rfl, -, c1⟩
        · exfalso; rw [e] at hx; simp at hx
        rcases HA2.out with e | ⟨p2, o2, rfl, -, c2⟩
        · exfalso; rw [e] at hy; simp at hy
        have k1 := c1 k x hx
        have k2 := c2 k y hy
        have HX := Lib.hid hx; have HY := Lib.hid hy
        clear c1 c2 hx hy
        by_cases hxy : x = y
        · have ex : (x != y) = false := by rw [hxy]; simp
          have HT2 := Lib.hid (take_snoc HT.out HX.out (by rw [hxy]; exact HY.out))
          clear hxy
          go_wp2_with fail
          go_quiet (fail)
          go_wp2_with fail
          go_roundw
          case rel => exact ⟨k + 1, _, by omega, by go_num, HT2, by first | rfl | trivial⟩
          case measure => simp [intOf]; omega
        · have ex : (x != y) = true := by rw [bne_iff_ne]; exact hxy
          have HR := Lib.hid (show ¬ xs = ys from fun e => hxy (by have h1 := HX.out; rw [e, HY.out] at h1; exact (Option.some.inj h1).symm))
          clear hxy
          go_wp2_with fail
          go_quiet (fail)
          go_wp2_with fail
          go_ret
          exact ⟨by rw [decide_eq_false HR.out] <;> rfl, drew_below (drew_below (Below.refl _ _) m) nq⟩
      · have hki : ¬ (k : Int) < (n1 : Int) := by omega
        have HR := Lib.hid (show xs = ys by
          have h1 := HT.out
          rw [List.take_of_length_le (by rw [HN1.out]; omega), List.take_of_length_le (by rw [HN2.out]; omega)] at h1
          exact h1)
        go_wp2_with fail
        go_ret
        exact ⟨by rw [decide_eq_true HR.out] <;> rfl, drew_below (Below.refl _ _) m⟩
  · have hne : ((n1 : Int) != (n2 : Int)) = true := by rw [bne_iff_ne]; omega
    have HR := Lib.hid (show ¬ xs = ys from fun e => hl (by rw [← hn1, ← hn2, e]))
    clear a1 a2 hn1 hn2
    go_enter Tryz.func28, Tryz.ntmps28
    go_wp2_with fail
    go_ret
    exact ⟨by rw [decide_eq_false HR.out] <;> rfl, Below.refl _ _⟩
end Go.Proofs.YtdfpalocnijefaaGreatDoor

/-
  Layer 5, the reference: SameNodes.
-/
namespace Go.Proofs.YtdfpalocnijefaaGreatDoor
open Go.RowKit

theorem takeN {α : Type} {xs ys : List α} {k : Nat} {x : α} (h : xs.take k = ys.take k) (hx : xs[k]? = some x) (hy : ys[k]? = some x) : xs.take (k + 1) = ys.take (k + 1) := by
  rw [List.take_add_one, List.take_add_one, h, hx, hy]
/-- What SameNodes answers. -/
def SameSays (l1 l2 : List Nd) (e : Ending) : Prop := ∃ b : Bool, e = .returned (.bool b) ∧ (b = true ↔ l1 = l2)
theorem SameSays.yes {l1 l2 : List Nd} (h : l1 = l2) : SameSays l1 l2 (.returned (.bool true)) := ⟨true, rfl, ⟨fun _ => h, fun _ => rfl⟩⟩
theorem SameSays.no {l1 l2 : List Nd} (h : ¬ l1 = l2) : SameSays l1 l2 (.returned (.bool false)) := ⟨false, rfl, ⟨fun e => absurd e Bool.false_ne_true, fun e => absurd e h⟩⟩
theorem SameSays.is {l1 l2 : List Nd} {e : Ending} (h : SameSays l1 l2 e) : (l1 = l2 ∧ e = .returned (.bool true)) ∨ (¬ l1 = l2 ∧ e = .returned (.bool false)) := by
  obtain ⟨b, rfl, hb⟩ := h
  cases b
  · exact .inr ⟨fun e => (Bool.noConfusion (hb.2 e)), rfl⟩
  · exact .inl ⟨hb.1 rfl, rfl⟩
theorem SN.lenle {w : World} {B : Nat} {v : Value} {vs : List (Nd × Value)} (h : SN w B v vs) : ∃ A cap, v = .slice A vs.length cap := by
  obtain ⟨⟨A, cap, h, _⟩, _⟩ := h; exact ⟨A, cap, h⟩
theorem SN.cellAt {w : World} {B : Nat} {A : Option Addr} {L cap : Nat} {vs : List (Nd × Value)} (h : SN w B (.slice A L cap) vs) {i : Nat} {n : Nd} {k : Value} (hi : vs[i]? = some (n, k)) : SI w B k n.kids ∧ ∃ pb po, A = some ⟨pb, po, none⟩ ∧ pb < B ∧ ∀ j, j < 14 → w.cell? ⟨pb, po + i * 14 + j, none⟩ = (nodA n k).toList[j]? := by
  obtain ⟨⟨A', cap', h1, h2⟩, h3⟩ := h
  injection h1 with e1 e2 e3
  subst e1
  refine ⟨h3 _ (List.mem_of_getElem? hi), ?_⟩
  rcases h2 with rfl | ⟨pb, po, e1, e2, e3⟩
  · simp at hi
  · exact ⟨pb, po, e1, e2, e3 i n k hi⟩
theorem text_sames {a b : ByteArray} (h : a.toList = b.toList) : a = b := by
  rw [ByteArray.toList_eq, ByteArray.toList_eq, Array.toList_inj] at h
  cases a; cases b; simp only at h; rw [h]
theorem nd_eq {a c : Nd} (h0 : a.kind = c.kind) (h1 : a.num = c.num) (h2 : a.text.toList = c.text.toList) (h3 : a.ref.sh.toList = c.ref.sh.toList) (h4 : a.ref.c = c.ref.c) (h5 : a.ref.r = c.ref.r) (h6 : a.ref.ac = c.ref.ac) (h7 : a.ref.ar = c.ref.ar)
    (h8 : a.to.sh.toList = c.to.sh.toList) (h9 : a.to.c = c.to.c) (h10 : a.to.r = c.to.r) (h11 : a.to.ac = c.to.ac) (h12 : a.to.ar = c.to.ar) (h13 : a.kids = c.kids) : a = c := by
  obtain ⟨k, n, t, ⟨r1, r2, r3, r4, r5⟩, ⟨t1, t2, t3, t4, t5⟩, ks⟩ := a
  obtain ⟨k', n', t', ⟨r1', r2', r3', r4', r5'⟩, ⟨t1', t2', t3', t4', t5'⟩, ks'⟩ := c
  have g2 := text_sames h2; have g3 := text_sames h3; have g8 := text_sames h8
  dsimp only at h0 h1 g2 g3 h4 h5 h6 h7 g8 h9 h10 h11 h12 h13
  subst h0; subst h1; subst g2; subst g3; subst h4; subst h5; subst h6; subst h7; subst g8; subst h9; subst h10; subst h11; subst h12; subst h13
  rfl
theorem two_nd (w : World) (a c : Nd) (ka kc : Value) : NdAt ((w.alloc (.cells (nodA a ka) 38)).alloc (.cells (nodA c kc) 38)).drew w.heap.size a ka ∧ NdAt ((w.alloc (.cells (nodA a ka) 38)).alloc (.cells (nodA c kc) 38)).drew (w.heap.size + 1) c kc ∧ Below w.heap.size w ((w.alloc (.cells (nodA a ka) 38)).alloc (.cells (nodA c kc) 38)).drew := by
  have hs : (w.alloc (.cells (nodA a ka) 38)).heap.size = w.heap.size + 1 := by simp
  have h1 := NdAt.new w a ka
  have h2 := NdAt.new (w.alloc (.cells (nodA a ka) 38)) c kc
  rw [hs] at h2
  exact ⟨h1.below ((Below.refl _ _).alloc (Nat.le_refl _) _).drew h1.lt, h2, (((Below.refl _ _).alloc (Nat.le_refl _) _).alloc (by omega) _).drew⟩
set_option maxRecDepth 100000 in
set_option maxHeartbeats 16000000 in
theorem refSame_any (w : World) (v1 v2 : Value) (l1 l2 : List (Nd × Value)) (h1 : SN w w.heap.size v1 l1) (h2 : SN w w.heap.size v2 l2) (hz1 : l1.length ≤ 1000) (hz2 : l2.length ≤ 1000) :
    Calls Tryz.prog 13 #[v1, v2] w fun e w' => SameSays (l1.map (·.1)) (l2.map (·.1)) e ∧ Below w.heap.size w w' := by
  obtain ⟨A1, cap1, rfl⟩ := h1.lenle
  obtain ⟨A2, cap2, rfl⟩ := h2.lenle
  obtain ⟨n1, hn1⟩ : ∃ n1, l1.length = n1 := ⟨_, rfl⟩
  obtain ⟨n2, hn2⟩ : ∃ n2, l2.length = n2 := ⟨_, rfl⟩
  rw [hn1] at h1 hz1 ⊢
  rw [hn2] at h2 hz2 ⊢
  by_cases hl : n1 = n2
  rotate_left
  · have hne : ((n1 : Int) != (n2 : Int)) = true := by rw [bne_iff_ne]; omega
    have HR := Lib.hid (show ¬ l1.map (·.1) = l2.map (·.1) from fun e => hl (by have := congrArg List.length e; rw [List.length_map, List.length_map] at this; omega))
    clear h1 h2 hn1 hn2
    go_enter Tryz.func13, Tryz.ntmps13
    go_wp2_with fail
    go_ret
    exact ⟨.no HR.out, Below.refl _ _⟩
  subst hl
  have HS1 := Lib.hid h1; have HS2 := Lib.hid h2; have HN1 := Lib.hid hn1; have HN2 := Lib.hid hn2
  clear h1 h2 hn1 hn2 hz2
  go_enter Tryz.func13, Tryz.ntmps13
  go_upto_region 4 with (fail)
  go_loopw [5] (fun iv wr => ∃ (i : Nat), i ≤ n1 ∧ iv = .int .i64 (i : Int) ∧ Hid (l1.map (·.1) |>.take i |> (· = (l2.map (·.1)).take i)) ∧ Hid (Below w.heap.size w wr))
    (fun iv _ => n1 - (intOf iv).toNat)
  case atStart => exact ⟨0, Nat.zero_le _, rfl, Lib.hid rfl, Lib.hid (Below.refl _ _)⟩
  case round =>
    obtain ⟨i, hi, rfl, HT, HB⟩ := hrel
    by_cases hlt : i < n1
    rotate_left
    · have hii : ¬ (i : Int) < (n1 : Int) := by omega
      have HR := Lib.hid (show l1.map (·.1) = l2.map (·.1) by
        have h1 := HT.out
        have e1 : (l1.map (·.1)).take i = l1.map (·.1) := List.take_of_length_le (by have := HN1.out; simp only [List.length_map]; omega)
        have e2 : (l2.map (·.1)).take i = l2.map (·.1) := List.take_of_length_le (by have := HN2.out; simp only [List.length_map]; omega)
        rw [e1, e2] at h1
        exact h1)
      go_wp2_with fail
      go_ret
      exact ⟨.yes HR.out, HB.out⟩
    have hii : (i : Int) < (n1 : Int) := by omega
    obtain ⟨⟨a, ka⟩, hka⟩ : ∃ q, l1[i]? = some q := ⟨_, List.getElem?_eq_getElem (by rw [HN1.out]; exact hlt)⟩
    obtain ⟨⟨c, kc⟩, hkc⟩ : ∃ q, l2[i]? = some q := ⟨_, List.getElem?_eq_getElem (by rw [HN2.out]; exact hlt)⟩
    obtain ⟨hsa, pa, oa, rfl, hpa, ca⟩ := HS1.out.cellAt hka
    obtain ⟨hsc, pc, oc, rfl, hpc, cc⟩ := HS2.out.cellAt hkc
    obtain ⟨Aa, ma, hma, hea⟩ : ∃ Aa ma, a.kids.length ≤ ma ∧ ka = .slice Aa a.kids.length ma := (by obtain ⟨A, c, h1, h2, _⟩ := hsa; exact ⟨A, c, h2, h1⟩)
    obtain ⟨Ac, mc, hmc, hec⟩ : ∃ Ac mc, c.kids.length ≤ mc ∧ kc = .slice Ac c.kids.length mc := (by obtain ⟨A, cc, h1, h2, _⟩ := hsc; exact ⟨A, cc, h2, h1⟩)
    subst hea; subst hec
    have HKA := Lib.hid hsa; have HKC := Lib.hid hsc
    have HA := Lib.hid (show (l1.map (·.1))[i]? = some a by rw [List.getElem?_map, hka]; rfl)
    have HC := Lib.hid (show (l2.map (·.1))[i]? = some c by rw [List.getElem?_map, hkc]; rfl)
    have HNO := Lib.hid (show ¬ a = c → ¬ l1.map (·.1) = l2.map (·.1) from fun hne e => hne (by have h1 := HA.out; rw [e, HC.out] at h1; exact (Option.some.inj h1).symm))
    have HYES := Lib.hid (show a = c → (l1.map (·.1)).take (i + 1) = (l2.map (·.1)).take (i + 1) from fun e => takeN HT.out HA.out (by rw [e]; exact HC.out))
    have hpa' : pa < wr.heap.size := Nat.lt_of_lt_of_le hpa HB.out.size
    have hpc' : pc < wr.heap.size := Nat.lt_of_lt_of_le hpc HB.out.size
    have x0 : wr.cell? ⟨pa, oa + i * 14, none⟩ = some (.int .i64 a.kind) := (HB.out.cell (p := ⟨pa, oa + i * 14, none⟩) hpa).trans (ca 0 (by omega))
    have x1 : wr.cell? ⟨pa, oa + i * 14 + 1, none⟩ = some (.int .i64 a.num) := (HB.out.cell (p := ⟨pa, oa + i * 14 + 1, none⟩) hpa).trans (ca 1 (by omega))
    have x2 : wr.cell? ⟨pa, oa + i * 14 + 2, none⟩ = some (.string a.text) := (HB.out.cell (p := ⟨pa, oa + i * 14 + 2, none⟩) hpa).trans (ca 2 (by omega))
    have x3 : wr.cell? ⟨pa, oa + i * 14 + 3, none⟩ = some (.string a.ref.sh) := (HB.out.cell (p := ⟨pa, oa + i * 14 + 3, none⟩) hpa).trans (ca 3 (by omega))
    have x4 : wr.cell? ⟨pa, oa + i * 14 + 4, none⟩ = some (.int .i64 a.ref.c) := (HB.out.cell (p := ⟨pa, oa + i * 14 + 4, none⟩) hpa).trans (ca 4 (by omega))
    have x5 : wr.cell? ⟨pa, oa + i * 14 + 5, none⟩ = some (.int .i64 a.ref.r) := (HB.out.cell (p := ⟨pa, oa + i * 14 + 5, none⟩) hpa).trans (ca 5 (by omega))
    have x6 : wr.cell? ⟨pa, oa + i * 14 + 6, none⟩ = some (.bool a.ref.ac) := (HB.out.cell (p := ⟨pa, oa + i * 14 + 6, none⟩) hpa).trans (ca 6 (by omega))
    have x7 : wr.cell? ⟨pa, oa + i * 14 + 7, none⟩ = some (.bool a.ref.ar) := (HB.out.cell (p := ⟨pa, oa + i * 14 + 7, none⟩) hpa).trans (ca 7 (by omega))
    have x8 : wr.cell? ⟨pa, oa + i * 14 + 8, none⟩ = some (.string a.to.sh) := (HB.out.cell (p := ⟨pa, oa + i * 14 + 8, none⟩) hpa).trans (ca 8 (by omega))
    have x9 : wr.cell? ⟨pa, oa + i * 14 + 9, none⟩ = some (.int .i64 a.to.c) := (HB.out.cell (p := ⟨pa, oa + i * 14 + 9, none⟩) hpa).trans (ca 9 (by omega))
    have x10 : wr.cell? ⟨pa, oa + i * 14 + 10, none⟩ = some (.int .i64 a.to.r) := (HB.out.cell (p := ⟨pa, oa + i * 14 + 10, none⟩) hpa).trans (ca 10 (by omega))
    have x11 : wr.cell? ⟨pa, oa + i * 14 + 11, none⟩ = some (.bool a.to.ac) := (HB.out.cell (p := ⟨pa, oa + i * 14 + 11, none⟩) hpa).trans (ca 11 (by omega))
    have x12 : wr.cell? ⟨pa, oa + i * 14 + 12, none⟩ = some (.bool a.to.ar) := (HB.out.cell (p := ⟨pa, oa + i * 14 + 12, none⟩) hpa).trans (ca 12 (by omega))
    have x13 : wr.cell? ⟨pa, oa + i * 14 + 13, none⟩ = some (.slice Aa a.kids.length ma) := (HB.out.cell (p := ⟨pa, oa + i * 14 + 13, none⟩) hpa).trans (ca 13 (by omega))
    have y0 : wr.cell? ⟨pc, oc + i * 14, none⟩ = some (.int .i64 c.kind) := (HB.out.cell (p := ⟨pc, oc + i * 14, none⟩) hpc).trans (cc 0 (by omega))
    have y1 : wr.cell? ⟨pc, oc + i * 14 + 1, none⟩ = some (.int .i64 c.num) := (HB.out.cell (p := ⟨pc, oc + i * 14 + 1, none⟩) hpc).trans (cc 1 (by omega))
    have y2 : wr.cell? ⟨pc, oc + i * 14 + 2, none⟩ = some (.string c.text) := (HB.out.cell (p := ⟨pc, oc + i * 14 + 2, none⟩) hpc).trans (cc 2 (by omega))
    have y3 : wr.cell? ⟨pc, oc + i * 14 + 3, none⟩ = some (.string c.ref.sh) := (HB.out.cell (p := ⟨pc, oc + i * 14 + 3, none⟩) hpc).trans (cc 3 (by omega))
    have y4 : wr.cell? ⟨pc, oc + i * 14 + 4, none⟩ = some (.int .i64 c.ref.c) := (HB.out.cell (p := ⟨pc, oc + i * 14 + 4, none⟩) hpc).trans (cc 4 (by omega))
    have y5 : wr.cell? ⟨pc, oc + i * 14 + 5, none⟩ = some (.int .i64 c.ref.r) := (HB.out.cell (p := ⟨pc, oc + i * 14 + 5, none⟩) hpc).trans (cc 5 (by omega))
    have y6 : wr.cell? ⟨pc, oc + i * 14 + 6, none⟩ = some (.bool c.ref.ac) := (HB.out.cell (p := ⟨pc, oc + i * 14 + 6, none⟩) hpc).trans (cc 6 (by omega))
    have y7 : wr.cell? ⟨pc, oc + i * 14 + 7, none⟩ = some (.bool c.ref.ar) := (HB.out.cell (p := ⟨pc, oc + i * 14 + 7, none⟩) hpc).trans (cc 7 (by omega))
    have y8 : wr.cell? ⟨pc, oc + i * 14 + 8, none⟩ = some (.string c.to.sh) := (HB.out.cell (p := ⟨pc, oc + i * 14 + 8, none⟩) hpc).trans (cc 8 (by omega))
    have y9 : wr.cell? ⟨pc, oc + i * 14 + 9, none⟩ = some (.int .i64 c.to.c) := (HB.out.cell (p := ⟨pc, oc + i * 14 + 9, none⟩) hpc).trans (cc 9 (by omega))
    have y10 : wr.cell? ⟨pc, oc + i * 14 + 10, none⟩ = some (.int .i64 c.to.r) := (HB.out.cell (p := ⟨pc, oc + i * 14 + 10, none⟩) hpc).trans (cc 10 (by omega))
    have y11 : wr.cell? ⟨pc, oc + i * 14 + 11, none⟩ = some (.bool c.to.ac) := (HB.out.cell (p := ⟨pc, oc + i * 14 + 11, none⟩) hpc).trans (cc 11 (by omega))
    have y12 : wr.cell? ⟨pc, oc + i * 14 + 12, none⟩ = some (.bool c.to.ar) := (HB.out.cell (p := ⟨pc, oc + i * 14 + 12, none⟩) hpc).trans (cc 12 (by omega))
    have y13 : wr.cell? ⟨pc, oc + i * 14 + 13, none⟩ = some (.slice Ac c.kids.length mc) := (HB.out.cell (p := ⟨pc, oc + i * 14 + 13, none⟩) hpc).trans (cc 13 (by omega))
    clear ca cc hka hkc hsa hsc hma hmc
    go_upto_region 6 with (fail)
    go_cut [6, 7] from 13 to 67 (fun t6 t7 wx => ∃ p q, t6 = .pointer (some ⟨p, 0, none⟩) ∧ t7 = .pointer (some ⟨q, 0, none⟩) ∧ NdAt wx p a (.slice Aa a.kids.length ma) ∧ NdAt wx q c (.slice Ac c.kids.length mc) ∧ Below wr.heap.size wr wx)
    case first =>
      go_region_held3 (fun w' => w'.cell? ⟨pa, oa + i * 14, none⟩ = some (.int .i64 a.kind) ∧ w'.cell? ⟨pa, oa + i * 14 + 1, none⟩ = some (.int .i64 a.num) ∧ w'.cell? ⟨pa, oa + i * 14 + 2, none⟩ = some (.string a.text) ∧ w'.cell? ⟨pa, oa + i * 14 + 3, none⟩ = some (.string a.ref.sh) ∧ w'.cell? ⟨pa, oa + i * 14 + 4, none⟩ = some (.int .i64 a.ref.c) ∧ w'.cell? ⟨pa, oa + i * 14 + 5, none⟩ = some (.int .i64 a.ref.r) ∧ w'.cell? ⟨pa, oa + i * 14 + 6, none⟩ = some (.bool a.ref.ac) ∧ w'.cell? ⟨pa, oa + i * 14 + 7, none⟩ = some (.bool a.ref.ar) ∧ w'.cell? ⟨pa, oa + i * 14 + 8, none⟩ = some (.string a.to.sh) ∧ w'.cell? ⟨pa, oa + i * 14 + 9, none⟩ = some (.int .i64 a.to.c) ∧ w'.cell? ⟨pa, oa + i * 14 + 10, none⟩ = some (.int .i64 a.to.r) ∧ w'.cell? ⟨pa, oa + i * 14 + 11, none⟩ = some (.bool a.to.ac) ∧ w'.cell? ⟨pa, oa + i * 14 + 12, none⟩ = some (.bool a.to.ar) ∧ w'.cell? ⟨pa, oa + i * 14 + 13, none⟩ = some (.slice Aa a.kids.length ma) ∧ w'.cell? ⟨pc, oc + i * 14, none⟩ = some (.int .i64 c.kind) ∧ w'.cell? ⟨pc, oc + i * 14 + 1, none⟩ = some (.int .i64 c.num) ∧ w'.cell? ⟨pc, oc + i * 14 + 2, none⟩ = some (.string c.text) ∧ w'.cell? ⟨pc, oc + i * 14 + 3, none⟩ = some (.string c.ref.sh) ∧ w'.cell? ⟨pc, oc + i * 14 + 4, none⟩ = some (.int .i64 c.ref.c) ∧ w'.cell? ⟨pc, oc + i * 14 + 5, none⟩ = some (.int .i64 c.ref.r) ∧ w'.cell? ⟨pc, oc + i * 14 + 6, none⟩ = some (.bool c.ref.ac) ∧ w'.cell? ⟨pc, oc + i * 14 + 7, none⟩ = some (.bool c.ref.ar) ∧ w'.cell? ⟨pc, oc + i * 14 + 8, none⟩ = some (.string c.to.sh) ∧ w'.cell? ⟨pc, oc + i * 14 + 9, none⟩ = some (.int .i64 c.to.c) ∧ w'.cell? ⟨pc, oc + i * 14 + 10, none⟩ = some (.int .i64 c.to.r) ∧ w'.cell? ⟨pc, oc + i * 14 + 11, none⟩ = some (.bool c.to.ac) ∧ w'.cell? ⟨pc, oc + i * 14 + 12, none⟩ = some (.bool c.to.ar) ∧ w'.cell? ⟨pc, oc + i * 14 + 13, none⟩ = some (.slice Ac c.kids.length mc)) (go_keep) (fail)
      all_goals go_wp2_with fail
      all_goals go_meet
      all_goals first
        | exact ⟨_, _, rfl, rfl, (two_nd wr a c _ _).1, (two_nd wr a c _ _).2.1, (two_nd wr a c _ _).2.2⟩
        | exact ⟨_, _, rfl, rfl, (two_nd wr c a _ _).2.1, (two_nd wr c a _ _).1, (two_nd wr c a _ _).2.2⟩
    case rest =>
      obtain ⟨p, q, rfl, rfl, hna, hnc, hb⟩ := hcut
      have HB3 := Lib.hid (HB.out.trans (hb.mono HB.out.size))
      have HIN := Lib.hid (refInts_any wc w.heap.size _ _ _ _ (HKA.out.below HB3.out (Nat.le_refl _)) (HKC.out.below HB3.out (Nat.le_refl _)))
      obtain ⟨p0, p1, p2, p3, p4, p5, p6, p7, p8, p9, p10, p11, p12, p13⟩ := hna.cells
      obtain ⟨q0, q1, q2, q3, q4, q5, q6, q7, q8, q9, q10, q11, q12, q13⟩ := hnc.cells
      clear x0 x1 x2 x3 x4 x5 x6 x7 x8 x9 x10 x11 x12 x13 y0 y1 y2 y3 y4 y5 y6 y7 y8 y9 y10 y11 y12 y13 hpa' hpc' hna hnc hb
      by_cases hk : a.kids = c.kids
      · rw [decide_eq_true hk] at HIN
        have HK := Lib.hid hk
        clear hk
        go_wp2_with (go_at_call 28; ((with_reducible refine HIN.out.mono ?_); rintro e w4 ⟨rfl, h1⟩; have HB4 := Lib.hid (HB3.out.trans (h1.mono HB3.out.size)); clear h1))
        any_goals (go_ret; exact ⟨.no (HNO.out fun e => by rename_i h; exact h (by rw [e])), HB3.out⟩)
        rename_i h0 h1 h2 h3 h4 h5 h6 h7 h8 h9 h10 h11 h12
        have HY := Lib.hid (HYES.out (nd_eq h0 h1 h2 h3 h4 h5 h6 h7 h8 h9 h10 h11 h12 HK.out))
        clear h0 h1 h2 h3 h4 h5 h6 h7 h8 h9 h10 h11 h12
        go_roundw
        case rel => exact ⟨i + 1, by omega, by go_num, HY, HB4⟩
        case measure => simp [intOf]; omega
      · rw [decide_eq_false hk] at HIN
        have HR := Lib.hid (HNO.out fun e => hk (by rw [e]))
        clear hk
        go_wp2_with (go_at_call 28; ((with_reducible refine HIN.out.mono ?_); rintro e w4 ⟨rfl, h1⟩; have HB4 := Lib.hid (HB3.out.trans (h1.mono HB3.out.size)); clear h1))
        all_goals go_ret
        all_goals first | exact ⟨.no HR.out, HB3.out⟩ | exact ⟨.no HR.out, HB4.out⟩
end Go.Proofs.YtdfpalocnijefaaGreatDoor

/-
  Layer 5, the laws' parts: nodes that a call made, as an argument.
-/
namespace Go.Proofs.YtdfpalocnijefaaGreatDoor
open Go.RowKit

theorem Own.si {w : World} {lo : Nat} {v : Value} {xs : List Int} (h : Own (encInt .i64) 3 w lo v xs) : SI w w.heap.size v xs := by
  rcases h.shape with ⟨rfl, rfl⟩ | ⟨g, cap, rfl, h1, h2, h3, h4⟩
  · exact ⟨none, 0, rfl, Nat.le_refl _, by unfold maxLen; omega, .inl rfl⟩
  · refine ⟨_, cap, rfl, h3, h4, .inr ⟨g, 0, rfl, h2, fun j x hj => ?_⟩⟩
    rw [Nat.zero_add]
    have := (encInt .i64).at xs j 0 x hj (by omega)
    rw [Nat.mul_one, Nat.add_zero] at this
    exact Own.cells h j _ (by rw [this]; rfl)
theorem NodV.sn {w : World} {lo g n cap : Nat} {vs : List Nv} (h : NodV w lo (.slice (some ⟨g, 0, none⟩) n cap) vs) (hn : vs.length = n) : SN w w.heap.size (.slice (some ⟨g, 0, none⟩) n cap) (vs.map fun v => (v.n, v.kv)) := by
  refine ⟨⟨_, cap, by rw [List.length_map, hn], .inr ⟨g, 0, rfl, (Own.blockLt h.1 g rfl).2.1, fun i nd k hi j hj => ?_⟩⟩, ?_⟩
  · rw [List.getElem?_map] at hi
    obtain ⟨v, hv, e⟩ := Option.map_eq_some_iff.1 hi
    injection e with e1 e2; subst e1; subst e2
    rw [Nat.zero_add]; exact h.cell i v hv j hj
  · intro p hp
    obtain ⟨v, hv, rfl⟩ := List.mem_map.1 hp
    exact (h.2 v hv).si
theorem sn_fst (vs : List Nv) : (vs.map fun v => (v.n, v.kv)).map (·.1) = vs.map Nv.n := by rw [List.map_map]; rfl
end Go.Proofs.YtdfpalocnijefaaGreatDoor

/-
  Layer 5, without the program: the texts that nodes carry are tokens' texts.
-/
namespace Go.Proofs.YtdfpalocnijefaaGreatDoor
open Go.RowKit

def TS (M : Nat) (t : Tk) : Prop := t.text.size ≤ M ∧ t.sh.size ≤ M
def NS (M : Nat) (n : Nd) : Prop := n.text.size ≤ M ∧ n.ref.sh.size ≤ M ∧ n.to.sh.size ≤ M
def TSs (M : Nat) (ts : List Tk) : Prop := ∀ t ∈ ts, TS M t
def NSs (M : Nat) (ns : List Nd) : Prop := ∀ n ∈ ns, NS M n
theorem TSs.tail {M : Nat} {ts : List Tk} (h : TSs M ts) : TSs M ts.tail := fun t ht => h t (List.mem_of_mem_tail ht)
theorem NSs.app {M : Nat} {a b : List Nd} (h : NSs M a) (k : NSs M b) : NSs M (a ++ b) := fun n hn => (List.mem_append.1 hn).elim (h n) (k n)
theorem NSs.one {M : Nat} {n : Nd} (h : NS M n) : NSs M [n] := fun m hm => by rw [List.mem_singleton] at hm; subst hm; exact h
theorem NS.plain (M : Nat) (k n : Int) (ks : List Int) : NS M { Nd.zero with kind := k, num := n, kids := ks } := ⟨Nat.zero_le _, Nat.zero_le _, Nat.zero_le _⟩
theorem refP_sizes {M base : Nat} {t : Tk} {ts : List Tk} {ns : List Nd} {a : Nat} {r : List Tk} (ht : TS M t) (hs : TSs M ts) (h : refP base t ts = .ok (ns, a, r)) : NSs M ns ∧ TSs M r := by
  unfold refP at h
  split at h
  · split at h
    · rename_i u us hu
      split at h
      · injection h with h; injection h with h1 h2; injection h2 with h2 h3
        subst h1; subst h3
        have hus : TSs M (u :: us) := by rw [← hu]; exact hs.tail
        exact ⟨NSs.one ⟨Nat.zero_le _, ht.2, (hus u (by simp)).2⟩, fun x hx => hus x (by simp [hx])⟩
      · cases h
    · cases h
  · injection h with h; injection h with h1 h2; injection h2 with h2 h3
    subst h1; subst h3
    exact ⟨NSs.one ⟨Nat.zero_le _, ht.2, Nat.zero_le _⟩, hs⟩
theorem sizes_all (M : Nat) : ∀ f : Nat, (∀ n deep base ts ns a r, exprP f n deep base ts = some (.ok (ns, a, r)) → TSs M ts → NSs M ns ∧ TSs M r) ∧
    (∀ n deep base ns a ts ns' a' r, rowP f n deep base ns a ts = some (.ok (ns', a', r)) → TSs M ts → NSs M ns → NSs M ns' ∧ TSs M r) ∧
    (∀ deep base ts ns a r, primP f deep base ts = some (.ok (ns, a, r)) → TSs M ts → NSs M ns ∧ TSs M r) ∧
    (∀ deep base ns ks ts ns' ks' r, argsP f deep base ns ks ts = some (.ok (ns', ks', r)) → TSs M ts → NSs M ns → NSs M ns' ∧ TSs M r)
  | 0 => by
    refine ⟨?_, ?_, ?_, ?_⟩
    · intro n deep base ts ns a r h; unfold exprP at h; cases h
    · intro n deep base ns a ts ns' a' r h; unfold rowP at h; cases h
    · intro deep base ts ns a r h; unfold primP at h; cases h
    · intro deep base ns ks ts ns' ks' r h; unfold argsP at h; cases h
  | f + 1 => by
    obtain ⟨i1, i2, i3, i4⟩ := sizes_all M f
    refine ⟨?_, ?_, ?_, ?_⟩
    · intro n deep base ts ns a r h ht
      rw [exprP_succ] at h
      by_cases c : n ≤ 3
      · rw [if_pos c] at h
        rcases bindR_some h with ⟨e, _, h2⟩ | ⟨ms, b, s, h1, h2⟩
        · cases h2
        · obtain ⟨k1, k2⟩ := i1 _ _ _ _ _ _ _ h1 ht
          exact i2 _ _ _ _ _ _ _ _ _ h2 k2 k1
      · rw [if_neg c] at h
        by_cases d : signIs ⟨#[45]⟩ ts = true
        · rw [if_pos d] at h
          by_cases d2 : 12 ≤ deep
          · rw [if_pos d2] at h; cases h
          · rw [if_neg d2] at h
            rcases bindR_some h with ⟨e, _, h2⟩ | ⟨ms, b, s, h1, h2⟩
            · cases h2
            · obtain ⟨k1, k2⟩ := i1 _ _ _ _ _ _ _ h1 ht.tail
              injection h2 with h2; injection h2 with h2; injection h2 with h3 h4; injection h4 with h4 h5
              subst h3; subst h4; subst h5
              exact ⟨k1.app (NSs.one (NS.plain _ _ _ _)), k2⟩
        · rw [if_neg d] at h; exact i3 _ _ _ _ _ _ h ht
    · intro n deep base ns a ts ns' a' r h ht hn
      rw [rowP_succ] at h
      by_cases c : opK n ts = 0
      · rw [if_pos c] at h
        injection h with h; injection h with h; injection h with h1 h2; injection h2 with h2 h3
        subst h1; subst h2; subst h3
        exact ⟨hn, ht⟩
      · rw [if_neg c] at h
        rcases bindR_some h with ⟨e, _, h2⟩ | ⟨ms, b, s, h1, h2⟩
        · cases h2
        · obtain ⟨k1, k2⟩ := i1 _ _ _ _ _ _ _ h1 ht.tail
          exact i2 _ _ _ _ _ _ _ _ _ h2 k2 (hn.app (k1.app (NSs.one (NS.plain _ _ _ _))))
    · intro deep base ts ns a r h ht
      cases ts with
      | nil => rw [primP_nil] at h; cases h
      | cons t ts =>
        have h0 : TS M t := ht t (by simp)
        have hts : TSs M ts := fun x hx => ht x (by simp [hx])
        have leaf : ∀ (x : Nd), NS M x → (some (.ok ([x], base, ts)) : Option Res) = some (.ok (ns, a, r)) → NSs M ns ∧ TSs M r := by
          intro x hk h
          injection h with h; injection h with h; injection h with h1 h2; injection h2 with h2 h3
          subst h1; subst h2; subst h3
          exact ⟨NSs.one hk, hts⟩
        rw [primP_cons] at h
        by_cases c1 : signIs ⟨#[40]⟩ (t :: ts) = true
        · rw [if_pos c1] at h
          by_cases d2 : 12 ≤ deep
          · rw [if_pos d2] at h; cases h
          · rw [if_neg d2] at h
            rcases bindR_some h with ⟨e, _, h2⟩ | ⟨ms, b, s, h1, h2⟩
            · cases h2
            · obtain ⟨k1, k2⟩ := i1 _ _ _ _ _ _ _ h1 hts
              split at h2
              · injection h2 with h2; injection h2 with h2; injection h2 with h3 h4; injection h4 with h4 h5
                subst h3; subst h4; subst h5
                exact ⟨k1, k2.tail⟩
              · cases h2
        rw [if_neg c1] at h
        by_cases c2 : t.kind = 1
        · rw [if_pos c2] at h; exact leaf _ (NS.plain _ _ _ _) h
        rw [if_neg c2] at h
        by_cases c3 : t.kind = 2
        · rw [if_pos c3] at h; exact leaf _ ⟨h0.1, Nat.zero_le _, Nat.zero_le _⟩ h
        rw [if_neg c3] at h
        by_cases c4 : t.kind = 6
        · rw [if_pos c4] at h; exact leaf _ (NS.plain _ _ _ _) h
        rw [if_neg c4] at h
        by_cases c5 : t.kind = 4
        · rw [if_pos c5] at h; injection h with h; exact refP_sizes h0 hts h
        rw [if_neg c5] at h
        by_cases c6 : t.kind = 3
        · rw [if_pos c6] at h
          by_cases e1 : t.text = ⟨#[84, 82, 85, 69]⟩
          · rw [if_pos e1] at h; exact leaf _ (NS.plain _ _ _ _) h
          rw [if_neg e1] at h
          by_cases e2 : t.text = ⟨#[70, 65, 76, 83, 69]⟩
          · rw [if_pos e2] at h; exact leaf _ (NS.plain _ _ _ _) h
          rw [if_neg e2] at h
          by_cases e3 : signIs ⟨#[40]⟩ ts = true
          · rw [if_pos e3] at h
            by_cases d2 : 12 ≤ deep
            · rw [if_pos d2] at h; cases h
            · rw [if_neg d2] at h
              rcases bindR_some h with ⟨e, _, h2⟩ | ⟨ms, ks, s, h1, h2⟩
              · cases h2
              · have hk : NSs M ms ∧ TSs M s := by
                  split at h1
                  · injection h1 with h1; injection h1 with h1; injection h1 with h3 h4; injection h4 with h4 h5
                    subst h3; subst h5
                    exact ⟨fun _ h => absurd h (by simp), hts.tail⟩
                  · exact i4 _ _ _ _ _ _ _ _ h1 hts.tail (fun _ h => absurd h (by simp))
                split at h2
                · injection h2 with h2; injection h2 with h2; injection h2 with h3 h4; injection h4 with h4 h5
                  subst h3; subst h4; subst h5
                  exact ⟨hk.1.app (NSs.one ⟨h0.1, Nat.zero_le _, Nat.zero_le _⟩), hk.2.tail⟩
                · cases h2
          · rw [if_neg e3] at h; cases h
        · rw [if_neg c6] at h; cases h
    · intro deep base ns ks ts ns' ks' r h ht hn
      rw [argsP_succ] at h
      rcases bindR_some h with ⟨e, _, h2⟩ | ⟨ms, b, s, h1, h2⟩
      · cases h2
      · obtain ⟨k1, k2⟩ := i1 _ _ _ _ _ _ _ h1 ht
        split at h2
        · exact i4 _ _ _ _ _ _ _ _ h2 k2.tail (hn.app k1)
        · injection h2 with h2; injection h2 with h2; injection h2 with h3 h4; injection h4 with h4 h5
          subst h3; subst h4; subst h5
          exact ⟨hn.app k1, k2⟩
theorem parseP_sizes {M f : Nat} {ts : List Tk} {ns : List Nd} (h : parseP f ts = some (.ok ns)) (ht : TSs M ts) : NSs M ns := by
  unfold parseP at h
  rcases bindR_some h with ⟨e, _, h2⟩ | ⟨ms, b, s, h1, h2⟩
  · cases h2
  · split at h2
    · injection h2 with h2; injection h2 with h2; subst h2
      exact ((sizes_all M f).1 _ _ _ _ _ _ _ h1 ht).1
    · cases h2
end Go.Proofs.YtdfpalocnijefaaGreatDoor

/-
  Layer 5, without the program: tokens' texts are no longer than the text.
-/
namespace Go.Proofs.YtdfpalocnijefaaGreatDoor
open Go.RowKit

theorem strN_size {l : List Int} (h : Bytes l) : (strOfNums l).size = l.length := by rw [← length_sb, sb_str _ h]
theorem quoF_size : ∀ (n : Nat) (l : List Int) (t : List Int) (k : Nat), l.length ≤ n → quoF l = some (t, k) → t.length ≤ l.length
  | _, [], _, _, _, h => by simp [quoF] at h
  | 0, _ :: _, _, _, hn, _ => by simp at hn
  | n + 1, x :: l, t, k, hn, h => by
    rw [quoF_cons] at h
    by_cases h1 : x < 32
    · rw [if_pos h1] at h; cases h
    · rw [if_neg h1] at h
      by_cases h2 : x ≠ 34
      · rw [if_pos h2] at h
        cases hq : quoF l with
        | none => rw [hq] at h; cases h
        | some q =>
          rw [hq] at h
          simp only [Option.map_some, Option.some.injEq, Prod.mk.injEq] at h
          have := quoF_size n l q.1 q.2 (by simp at hn; omega) hq
          rw [← h.1]; simp only [List.length_cons]; omega
      · rw [if_neg h2] at h
        cases l with
        | nil => simp only [Option.some.injEq, Prod.mk.injEq] at h; rw [← h.1]; simp
        | cons y m =>
          simp only at h
          by_cases h3 : y = 34
          · rw [if_pos h3] at h
            cases hq : quoF m with
            | none => rw [hq] at h; cases h
            | some q =>
              rw [hq] at h
              simp only [Option.map_some, Option.some.injEq, Prod.mk.injEq] at h
              have := quoF_size n m q.1 q.2 (by simp at hn; omega) hq
              rw [← h.1]; simp only [List.length_cons]; omega
          · rw [if_neg h3] at h
            simp only [Option.some.injEq, Prod.mk.injEq] at h; rw [← h.1]; simp
theorem textL_size (sh : List Int) (c r : Int) (ac ar : Bool) (hm : mayL sh c r = true) : sh.length ≤ (textL sh c r ac ar).length := by
  unfold textL
  rw [if_pos hm]
  by_cases h : sh = []
  · rw [h]; exact Nat.zero_le _
  · rw [if_neg h]; simp only [List.length_append]; omega
theorem tokT_size (l : List Int) (t : Tk) (n p M : Nat) (hb : Bytes l) (hM : l.length ≤ M) (h : tokT l = some (t, n)) : TS M (t.goto p) := by
  have z : (⟨#[]⟩ : ByteArray).size ≤ M := Nat.zero_le _
  cases l with
  | nil => simp [tokT] at h
  | cons x l =>
    have hspan : ∀ q : Int → Bool, ((x :: l).takeWhile q).length ≤ M := fun q => Nat.le_trans (take_le q _) hM
    rw [tokT_cons] at h
    by_cases h1 : isNum x = true
    · rw [if_pos h1] at h
      unfold numT at h
      split at h
      · cases h
      · simp only [Option.some.injEq, Prod.mk.injEq] at h
        rw [← h.1]; exact ⟨z, z⟩
    · rw [if_neg h1] at h
      by_cases h2 : x = 34
      · rw [if_pos h2] at h
        unfold quoT at h
        cases hq : quoF l with
        | none => rw [hq] at h; cases h
        | some q =>
          rw [hq] at h
          simp only [Option.map_some, Option.some.injEq, Prod.mk.injEq] at h
          obtain ⟨g1, g2⟩ := quoF_good _ l q.1 q.2 (Nat.le_refl _) (fun y hy => hb y (by simp [hy])) hq
          rw [← h.1]
          refine ⟨?_, z⟩
          show (strOfNums q.1).size ≤ M
          rw [strN_size g1]
          have := quoF_size _ l q.1 q.2 (Nat.le_refl _) hq
          simp only [List.length_cons] at hM; omega
      · rw [if_neg h2] at h
        by_cases h3 : x = 35
        · rw [if_pos h3] at h
          unfold deadT at h
          split at h
          · simp only [Option.some.injEq, Prod.mk.injEq] at h
            rw [← h.1]; exact ⟨z, z⟩
          · cases h
        · rw [if_neg h3] at h
          by_cases h4 : isLet x = true ∨ x = 36
          · rw [if_pos h4] at h
            unfold wordT at h
            cases hq : readS (strOfNums ((x :: l).takeWhile isWord)) with
            | some d =>
              rw [hq] at h
              simp only [Option.some.injEq, Prod.mk.injEq] at h
              rw [← h.1]
              refine ⟨z, ?_⟩
              show d.sh.size ≤ M
              have e := (read_some _ d hq).2.2
              rw [sb_str _ (hb.span isWord)] at e
              have k1 := textL_size (sb d.sh) d.c d.r d.ac d.ar (read_some _ d hq).2.1
              rw [e, length_sb] at k1
              exact Nat.le_trans k1 (hspan isWord)
            | none =>
              rw [hq] at h
              simp only at h
              by_cases hc : calledL ((x :: l).takeWhile isWord) = true
              · rw [if_pos hc] at h
                simp only [Option.some.injEq, Prod.mk.injEq] at h
                rw [← h.1]
                refine ⟨?_, z⟩
                show (strOfNums ((x :: l).takeWhile isWord)).size ≤ M
                rw [strN_size (hb.span isWord)]; exact hspan isWord
              · rw [if_neg hc] at h; cases h
          · rw [if_neg h4] at h
            unfold signT at h
            split at h
            · cases h
            · simp only [Option.some.injEq, Prod.mk.injEq] at h
              rw [← h.1]
              refine ⟨?_, z⟩
              show (strOfNums ((x :: l).take (signN (x :: l)))).size ≤ M
              rw [strN_size (fun y hy => hb y (List.mem_of_mem_take hy)), List.length_take]; omega
theorem lexF_sizes (M : Nat) : ∀ (f p : Nat) (l : List Int) (ts : List Tk), Bytes l → l.length ≤ M → lexF f p l = some ts → TSs M ts
  | f, p, [], ts, _, _, h => by
    have h0 : lexF f p [] = some [Tk.zero.goto p] := by unfold lexF; rfl
    rw [h0] at h; injection h with h; subst h
    intro t ht; rw [List.mem_singleton] at ht; subst ht
    exact ⟨Nat.zero_le _, Nat.zero_le _⟩
  | 0, _, _ :: _, _, _, _, h => by unfold lexF at h; cases h
  | f + 1, p, x :: l, ts, hb, hM, h => by
    have hbl : Bytes l := fun y hy => hb y (by simp [hy])
    rw [lexF_cons] at h
    by_cases hx : x = 32
    · rw [if_pos hx] at h
      exact lexF_sizes M f (p + 1) l ts hbl (by simp only [List.length_cons] at hM; omega) h
    · rw [if_neg hx] at h
      cases hq : tokT (x :: l) with
      | none => rw [hq] at h; cases h
      | some q =>
        obtain ⟨t0, n⟩ := q
        rw [hq] at h
        simp only [Option.map_eq_some_iff] at h
        obtain ⟨us, h1, rfl⟩ := h
        have k1 := lexF_sizes M f (p + n) _ us (fun y hy => hb y (List.mem_of_mem_drop hy)) (by rw [List.length_drop]; omega) h1
        intro t ht
        rcases List.mem_cons.1 ht with rfl | ht
        · exact tokT_size (x :: l) t0 n p M hb hM hq
        · exact k1 t ht
end Go.Proofs.YtdfpalocnijefaaGreatDoor
