/-
  'chequerlaw5.ParseOrder': for any bytes: numbers with operators between them, as the bytes say, are told as a formula of so many nodes, whose last node is the last of the weakest operators, with the nodes ahead of it and the last but one as its kids; the document's example holds. Condition: none (the operators, the list of signs, the library's two errors and its tables start as the program's text lays them: the card ties them).
-/
import Derived.Test.YtdfpalocnijefaaGreatDoorMO4
import Derived.BigQuiet
import Derived.OpenShut
import Derived.ProofKit
import Derived.Deep.DeepHandedRow
import Derived.Lib.LaidTab
import Derived.Test.YtdfpalocnijefaaGreatDoorCards
import Derived.Test.YtdfpalocnijefaaGreatDoorTie
import Derived.Deep.Strs
import Derived.Stop.LaidErr
import Derived.Lay
/-
  Layer 5, the program: slices of numbers compared.
-/
namespace Go.Proofs.YtdfpalocnijefaaGreatDoor
open Go.RowKit

/-- A slice of numbers that reads as xs, below block B. -/
def SI (w : World) (B : Nat) (v : Value) (xs : List Int) : Prop :=
  ∃ A cap, v = .slice A xs.length cap ∧ xs.length ≤ cap ∧ cap ≤ maxLen ∧ (xs = [] ∨ ∃ pb po, A = some ⟨pb, po, none⟩ ∧ pb < B ∧ ∀ (j : Nat) (x : Int), xs[j]? = some x → w.cell? ⟨pb, po + j, none⟩ = some (.int .i64 x))
theorem SI.below {w w' : World} {B C : Nat} {v : Value} {xs : List Int} (h : SI w B v xs) (hb : Below C w w') (hC : B ≤ C) : SI w' B v xs := by
  obtain ⟨A, cap, h1, h2, h3, h4⟩ := h
  refine ⟨A, cap, h1, h2, h3, h4.imp id ?_⟩
  rintro ⟨pb, po, e1, e2, e3⟩
  exact ⟨pb, po, e1, e2, fun j x hj => (hb.cell (p := ⟨pb, po + j, none⟩) (by show pb < C; omega)).trans (e3 j x hj)⟩
theorem SI.mono {w : World} {B C : Nat} {v : Value} {xs : List Int} (h : SI w B v xs) (hC : B ≤ C) : SI w C v xs := by
  obtain ⟨A, cap, h1, h2, h3, h4⟩ := h
  refine ⟨A, cap, h1, h2, h3, h4.imp id ?_⟩
  rintro ⟨pb, po, e1, e2, e3⟩
  exact ⟨pb, po, e1, by omega, e3⟩
theorem own_at {w : World} {base g n cap : Nat} {st : List Int} (h : Own (encInt .i64) 3 w base (.slice (some ⟨g, 0, none⟩) n cap) st) (j : Nat) (x : Int) (hj : st[j]? = some x) : w.cell? ⟨g, j, none⟩ = some (.int .i64 x) := by
  have hl := (List.getElem?_eq_some_iff.1 hj).1
  have h1 := Own.intCell h j hl
  rw [List.getD_eq_getElem?_getD, hj] at h1; exact h1
/-- The end of a slice that the call made. -/
theorem SI.tail {w : World} {base g cap : Nat} {st : List Int} (h : Own (encInt .i64) 3 w base (.slice (some ⟨g, 0, none⟩) st.length cap) st) (f : Nat) (hf : f ≤ st.length) (hc : st.length ≤ cap) (hm : cap ≤ maxLen) (hg : g < w.heap.size) : SI w w.heap.size (.slice (if cap = f then some ⟨g, 0, none⟩ else some ⟨g, f, none⟩) (st.length - f) (cap - f)) (st.drop f) := by
  refine ⟨_, _, by rw [List.length_drop], by rw [List.length_drop]; omega, by omega, ?_⟩
  by_cases h0 : st.drop f = []
  · exact .inl h0
  · have hne : ¬ cap = f := fun e => h0 (List.drop_of_length_le (by omega))
    refine .inr ⟨g, f, by rw [if_neg hne], hg, fun j x hj => ?_⟩
    rw [List.getElem?_drop] at hj
    exact own_at h (f + j) x hj
theorem own_take {w : World} {base g cap : Nat} {st : List Int} (h : Own (encInt .i64) 3 w base (.slice (some ⟨g, 0, none⟩) st.length cap) st) (k : Nat) (hk : k ≤ st.length) : Own (encInt .i64) 3 w base (.slice (some ⟨g, 0, none⟩) k cap) (st.take k) := by
  have hl : (st.take k).length = k := by rw [List.length_take]; omega
  rcases h.2 with ⟨h1, _⟩ | ⟨g', cap', cur, h1, h2, h3, h4, h5, h6, h7⟩
  · cases h1
  · injection h1 with e1 e2 e3
    injection e1 with e1; injection e1 with e1
    subst e1; subst e3
    refine ⟨by rw [Enc.length_all], .inr ⟨g, cap, cur, by rw [hl], h2, h3, by omega, h5, h6, ?_⟩⟩
    rw [hl, all_encInt, List.map_take, ← all_encInt, ← h7, List.take_take, Nat.mul_one, Nat.mul_one]
    congr 1; omega

theorem take_snoc {xs ys : List Int} {k : Nat} {x : Int} (h : xs.take k = ys.take k) (hx : xs[k]? = some x) (hy : ys[k]? = some x) : xs.take (k + 1) = ys.take (k + 1) := by
  rw [List.take_add_one, List.take_add_one, h, hx, hy]
set_option maxRecDepth 100000 in
set_option maxHeartbeats 1600000 in
theorem equal_any (w : World) (B : Nat) (v1 v2 : Value) (xs ys : List Int) (h1 : SI w B v1 xs) (h2 : SI w B v2 ys) : Calls Tryz.prog 29 #[v1, v2] w fun e w' => e = .returned (.bool (decide (xs = ys))) ∧ Below w.heap.size w w' := by
  obtain ⟨A1, cap1, rfl, hc1, hm1, a1⟩ := h1
  obtain ⟨A2, cap2, rfl, hc2, hm2, a2⟩ := h2
  unfold maxLen at hm1 hm2
  obtain ⟨n1, hn1⟩ : ∃ n1, xs.length = n1 := ⟨_, rfl⟩
  obtain ⟨n2, hn2⟩ : ∃ n2, ys.length = n2 := ⟨_, rfl⟩
  rw [hn1] at hc1 ⊢
  rw [hn2] at hc2 ⊢
  by_cases hl : n1 = n2
  · subst hl
    have HA1 := Lib.hid a1; have HA2 := Lib.hid a2; have HN1 := Lib.hid hn1; have HN2 := Lib.hid hn2
    clear a1 a2 hn1 hn2
    go_enter Tryz.func29, Tryz.ntmps29
    go_upto_region 4 with (fail)
    go_loopw [13] (fun i wr => ∃ (k m : Nat), k ≤ n1 ∧ i = .int .i64 (k : Int) ∧ Hid (xs.take k = ys.take k) ∧ w.drewN m = wr)
      (fun i _ => n1 - (intOf i).toNat)
    case atStart => exact ⟨0, 0, Nat.zero_le _, rfl, Lib.hid rfl, rfl⟩
    case round =>
      obtain ⟨k, m, hk, rfl, HT, rfl⟩ := hrel
      by_cases hlt : k < n1
      · have hki : (k : Int) < (n1 : Int) := by omega
        obtain ⟨x, hx⟩ : ∃ x, xs[k]? = some x := ⟨_, List.getElem?_eq_getElem (by rw [HN1.out]; exact hlt)⟩
        obtain ⟨y, hy⟩ : ∃ y, ys[k]? = some y := ⟨_, List.getElem?_eq_getElem (by rw [HN2.out]; exact hlt)⟩
        rcases HA1.out with e | ⟨p1, o1, rfl, -, c1⟩
        · exfalso; rw [e] at hx; simp at hx
        rcases HA2.out with e | ⟨p2, o2, rfl, -, c2⟩
        · exfalso; rw [e] at hy; simp at hy
        have k1 := c1 k x hx
        have k2 := c2 k y hy
        have HX := Lib.hid hx; have HY := Lib.hid hy
        clear c1 c2 hx hy
        by_cases hxy : x = y
        · have ex : (x != y) = false := by rw [hxy]; simp
          have HT2 := Lib.hid (take_snoc HT.out HX.out (by rw [hxy]; exact HY.out))
          clear hxy
          go_wp2_with fail
          go_quiet (fail)
          go_wp2_with fail
          go_roundw
          case rel => exact ⟨k + 1, _, by omega, by go_num, HT2, by first | rfl | trivial⟩
          case measure => simp [intOf]; omega
        · have ex : (x != y) = true := by rw [bne_iff_ne]; exact hxy
          have HR := Lib.hid (show ¬ xs = ys from fun e => hxy (by have h1 := HX.out; rw [e, HY.out] at h1; exact (Option.some.inj h1).symm))
          clear hxy
          go_wp2_with fail
          go_quiet (fail)
          go_wp2_with fail
          go_ret
          exact ⟨by rw [decide_eq_false HR.out] <;> rfl, drew_below (drew_below (Below.refl _ _) m) nq⟩
      · have hki : ¬ (k : Int) < (n1 : Int) := by omega
        have HR := Lib.hid (show xs = ys by
          have h1 := HT.out
          rw [List.take_of_length_le (by rw [HN1.out]; omega), List.take_of_length_le (by rw [HN2.out]; omega)] at h1
          exact h1)
        go_wp2_with fail
        go_ret
        exact ⟨by rw [decide_eq_true HR.out] <;> rfl, drew_below (Below.refl _ _) m⟩
  · have hne : ((n1 : Int) != (n2 : Int)) = true := by rw [bne_iff_ne]; omega
    have HR := Lib.hid (show ¬ xs = ys from fun e => hl (by rw [← hn1, ← hn2, e]))
    clear a1 a2 hn1 hn2
    go_enter Tryz.func29, Tryz.ntmps29
    go_wp2_with fail
    go_ret
    exact ⟨by rw [decide_eq_false HR.out] <;> rfl, Below.refl _ _⟩
end Go.Proofs.YtdfpalocnijefaaGreatDoor

/-
  Layer 5, the program: Tree.
-/
namespace Go.Proofs.YtdfpalocnijefaaGreatDoor
open Go.RowKit

/-- A slice of nodes that reads as these, each with its kids' slice, below block B. -/
def SN (w : World) (B : Nat) (v : Value) (vs : List (Nd × Value)) : Prop :=
  (∃ A cap, v = .slice A vs.length cap ∧ (vs = [] ∨ ∃ pb po, A = some ⟨pb, po, none⟩ ∧ pb < B ∧ ∀ (i : Nat) (n : Nd) (k : Value), vs[i]? = some (n, k) → ∀ j, j < 14 → w.cell? ⟨pb, po + i * 14 + j, none⟩ = (nodA n k).toList[j]?)) ∧ ∀ p ∈ vs, SI w B p.2 p.1.kids
/-- Sizes that are no trouble. -/
def SZ (vs : List (Nd × Value)) : Prop := vs.length ≤ 1000 ∧ ∀ p ∈ vs, p.1.text.size ≤ 1000000 ∧ p.1.ref.sh.size ≤ 1000000 ∧ p.1.to.sh.size ≤ 1000000
set_option maxRecDepth 100000 in
set_option maxHeartbeats 16000000 in
theorem ptree_any (w : World) (v : Value) (vs : List (Nd × Value)) (hv : Vars w) (h : SN w w.heap.size v vs) (hz : SZ vs) : Calls Tryz.prog 15 #[v] w fun e w' => e = .returned (.bool (treeB (vs.map (·.1)))) ∧ Below w.heap.size w w' := by
  obtain ⟨⟨A, cap, rfl, hat⟩, hkid⟩ := h
  obtain ⟨hlen, hsz⟩ := hz
  obtain ⟨nl, hnl⟩ : ∃ nl, vs.length = nl := ⟨_, rfl⟩
  rw [hnl] at hlen ⊢
  have HV := Lib.hid hv; have HAT := Lib.hid hat; have HKID := Lib.hid hkid; have HSZ := Lib.hid hsz; have HNL := Lib.hid hnl
  obtain ⟨eb, hEB, EL⟩ := Elem.kid
  have HEL := Lib.hid EL
  clear hv hat hkid hsz hnl EL
  go_enter Tryz.func15, Tryz.ntmps15
  go_upto_region 3 with (fail)
  go_loopw [3, 9] (fun rv iv wr => ∃ (i : Nat) (st : List Int) (rk : Value), i ≤ nl ∧ st.length ≤ i ∧ rk = rv ∧ iv = .int .i64 (i : Int) ∧ Hid (treeB (vs.map (·.1)) = treeF st i ((vs.map (·.1)).drop i)) ∧ Hid (Own (encInt .i64) 3 wr w.heap.size rk st) ∧ Hid (Below w.heap.size w wr))
    (fun _ iv _ => nl - (intOf iv).toNat)
  case atStart => exact ⟨0, [], .slice none 0 0, Nat.zero_le _, Nat.le_refl _, rfl, rfl, Lib.hid rfl, Lib.hid (Own.nil _ _ _ _), Lib.hid (Below.refl _ _)⟩
  case round =>
    obtain ⟨i, st, rk, hi, hsi, rfl, rfl, HT, HO, HB⟩ := hrel
    by_cases hlt : i < nl
    · have hii : (i : Int) < (nl : Int) := by omega
      obtain ⟨⟨n, k⟩, hnk⟩ : ∃ q, vs[i]? = some q := ⟨_, List.getElem?_eq_getElem (by rw [HNL.out]; exact hlt)⟩
      have hmem := List.mem_of_getElem? hnk
      obtain ⟨hz1, hz2, hz3⟩ := HSZ.out _ hmem
      have HZ1 := Lib.hid hz1; have HZ2 := Lib.hid hz2; have HZ3 := Lib.hid hz3
      clear hz1 hz2 hz3
      have hski : SI w w.heap.size k n.kids := HKID.out _ hmem
      obtain ⟨Ak, ck, hk, hkc, hkm, _⟩ := id hski
      obtain ⟨m, hm⟩ : ∃ m, n.kids.length = m := ⟨_, rfl⟩
      rw [hm] at hk hkc
      subst hk
      have hmm : m ≤ maxLen := Nat.le_trans hkc hkm
      have hmx : m ≤ 9223372036854775807 := by unfold maxLen at hmm; omega
      have HMM := Lib.hid hmm
      have HM := Lib.hid hm
      have HSK := Lib.hid hski
      have HD := Lib.hid (show (vs.map (·.1)).drop i = n :: (vs.map (·.1)).drop (i + 1) by
        have hl : i < (vs.map (·.1)).length := by rw [List.length_map, HNL.out]; exact hlt
        rw [List.drop_eq_getElem_cons hl]
        congr 1
        have h1 : (vs.map (·.1))[i]? = some n := by rw [List.getElem?_map, hnk]; rfl
        rw [List.getElem?_eq_getElem hl] at h1; exact Option.some.inj h1)
      rcases HAT.out with e | ⟨pb, po, rfl, hpb, hcells⟩
      · exfalso; rw [e] at hnk; simp at hnk
      have hcell := hcells i n _ hnk
      have k0 : wr.cell? ⟨pb, po + i * 14, none⟩ = some (.int .i64 n.kind) := (HB.out.cell (p := ⟨pb, po + i * 14, none⟩) hpb).trans (hcell 0 (by omega))
      have k1 : wr.cell? ⟨pb, po + i * 14 + 1, none⟩ = some (.int .i64 n.num) := (HB.out.cell (p := ⟨pb, po + i * 14 + 1, none⟩) hpb).trans (hcell 1 (by omega))
      have k2 : wr.cell? ⟨pb, po + i * 14 + 2, none⟩ = some (.string n.text) := (HB.out.cell (p := ⟨pb, po + i * 14 + 2, none⟩) hpb).trans (hcell 2 (by omega))
      have k3 : wr.cell? ⟨pb, po + i * 14 + 3, none⟩ = some (.string n.ref.sh) := (HB.out.cell (p := ⟨pb, po + i * 14 + 3, none⟩) hpb).trans (hcell 3 (by omega))
      have k4 : wr.cell? ⟨pb, po + i * 14 + 4, none⟩ = some (.int .i64 n.ref.c) := (HB.out.cell (p := ⟨pb, po + i * 14 + 4, none⟩) hpb).trans (hcell 4 (by omega))
      have k5 : wr.cell? ⟨pb, po + i * 14 + 5, none⟩ = some (.int .i64 n.ref.r) := (HB.out.cell (p := ⟨pb, po + i * 14 + 5, none⟩) hpb).trans (hcell 5 (by omega))
      have k6 : wr.cell? ⟨pb, po + i * 14 + 6, none⟩ = some (.bool n.ref.ac) := (HB.out.cell (p := ⟨pb, po + i * 14 + 6, none⟩) hpb).trans (hcell 6 (by omega))
      have k7 : wr.cell? ⟨pb, po + i * 14 + 7, none⟩ = some (.bool n.ref.ar) := (HB.out.cell (p := ⟨pb, po + i * 14 + 7, none⟩) hpb).trans (hcell 7 (by omega))
      have k8 : wr.cell? ⟨pb, po + i * 14 + 8, none⟩ = some (.string n.to.sh) := (HB.out.cell (p := ⟨pb, po + i * 14 + 8, none⟩) hpb).trans (hcell 8 (by omega))
      have k9 : wr.cell? ⟨pb, po + i * 14 + 9, none⟩ = some (.int .i64 n.to.c) := (HB.out.cell (p := ⟨pb, po + i * 14 + 9, none⟩) hpb).trans (hcell 9 (by omega))
      have k10 : wr.cell? ⟨pb, po + i * 14 + 10, none⟩ = some (.int .i64 n.to.r) := (HB.out.cell (p := ⟨pb, po + i * 14 + 10, none⟩) hpb).trans (hcell 10 (by omega))
      have k11 : wr.cell? ⟨pb, po + i * 14 + 11, none⟩ = some (.bool n.to.ac) := (HB.out.cell (p := ⟨pb, po + i * 14 + 11, none⟩) hpb).trans (hcell 11 (by omega))
      have k12 : wr.cell? ⟨pb, po + i * 14 + 12, none⟩ = some (.bool n.to.ar) := (HB.out.cell (p := ⟨pb, po + i * 14 + 12, none⟩) hpb).trans (hcell 12 (by omega))
      have k13 : wr.cell? ⟨pb, po + i * 14 + 13, none⟩ = some (.slice Ak m ck) := (HB.out.cell (p := ⟨pb, po + i * 14 + 13, none⟩) hpb).trans (hcell 13 (by omega))
      clear hcell hcells hnk hmem hski hm hkc hkm hmm
      have hL : st.length ≤ 1000 := by omega
      rcases HO.out.shape with ⟨rfl, hst⟩ | ⟨rg, rcap, rfl, hrg, hrl, hrc, hrm⟩
      · have hst0 : st.length = 0 := by rw [hst]; rfl
        by_cases hm0 : m = 0
        rotate_left
        · have hneg : -(m : Int) < 0 := by omega
          have hml : ¬ m ≤ st.length := by omega
          have HT2 := Lib.hid (show treeB (vs.map (·.1)) = false by rw [HT.out, HD.out, treeF_cons, HM.out, decide_eq_false hml, Bool.false_and, Bool.and_false])
          have hmp : 0 < m := by omega
          clear hml hst0 hst hm0
          have hB3 : Below wr.heap.size wr (wr.alloc (.cells #[.int .i64 n.kind, .int .i64 n.num, .string n.text, .string n.ref.sh, .int .i64 n.ref.c, .int .i64 n.ref.r, .bool n.ref.ac, .bool n.ref.ar, .string n.to.sh, .int .i64 n.to.c, .int .i64 n.to.r, .bool n.to.ac, .bool n.to.ar, .slice Ak m ck] 38)) := (Below.refl _ _).alloc (Nat.le_refl _) _
          have HN3 : NdAt (wr.alloc (.cells #[.int .i64 n.kind, .int .i64 n.num, .string n.text, .string n.ref.sh, .int .i64 n.ref.c, .int .i64 n.ref.r, .bool n.ref.ac, .bool n.ref.ar, .string n.to.sh, .int .i64 n.to.c, .int .i64 n.to.r, .bool n.to.ac, .bool n.to.ar, .slice Ak m ck] 38)) wr.heap.size n (.slice Ak m ck) := NdAt.new wr n _
          have HB3 := Lib.hid (HB.out.trans (hB3.mono HB.out.size))
          have HO3 := Lib.hid (HO.out.alloc (.cells #[.int .i64 n.kind, .int .i64 n.num, .string n.text, .string n.ref.sh, .int .i64 n.ref.c, .int .i64 n.ref.r, .bool n.ref.ac, .bool n.ref.ar, .string n.to.sh, .int .i64 n.to.c, .int .i64 n.to.r, .bool n.to.ac, .bool n.to.ar, .slice Ak m ck] 38))
          clear hB3
          go_upto_region 6 with (fail)
          generalize hb3 : wr.heap.size = b3 at HN3 ⊢
          generalize wr.alloc (.cells #[.int .i64 n.kind, .int .i64 n.num, .string n.text, .string n.ref.sh, .int .i64 n.ref.c, .int .i64 n.ref.r, .bool n.ref.ac, .bool n.ref.ar, .string n.to.sh, .int .i64 n.to.c, .int .i64 n.to.r, .bool n.to.ac, .bool n.to.ar, .slice Ak m ck] 38) = w3 at HN3 HB3 HO3 ⊢
          clear hb3 k0 k1 k2 k3 k4 k5 k6 k7 k8 k9 k10 k11 k12 k13 HO
          have HN3 := Lib.hid HN3
          refine wp_region_held_drew (S := fun W => Below w3.heap.size w3 W) (by kernel_rfl) (Below.drew (Below.refl w3.heap.size w3)) (fun _ => ?_)
          show wpAnyH _ _ _ _ _ 16 #[false, false, false, false, false, false, false, false, false, false, false, false, false, false, false, false] _ _
          refine held_take (i := 0) (d := some 20) (fuel := 15) (listed' := #[true, false, false, false, false, false, false, false, false, false, false, false, false, false, false, false]) (v := ?_) rfl rfl (by kernel_rfl) (by kernel_rfl) (by kernel_rfl) rfl (fun _ _ _ h => h) (by rfl) ?_ (Below.drew (Below.refl w3.heap.size w3)) ?_
          rotate_left
          · (intro wS hSw; go_simp; try (with_reducible rfl))
          simp only [Act.put, List.setIfInBounds_toArray, List.set_cons_zero, List.set_cons_succ]
          refine held_take (i := 1) (d := some 21) (fuel := 14) (listed' := #[true, true, false, false, false, false, false, false, false, false, false, false, false, false, false, false]) (v := ?_) rfl rfl (by kernel_rfl) (by kernel_rfl) (by kernel_rfl) rfl (fun _ _ _ h => h) (by rfl) ?_ (Below.drew (Below.refl w3.heap.size w3)) ?_
          rotate_left
          · (intro wS hSw; go_simp; try (with_reducible rfl))
          simp only [Act.put, List.setIfInBounds_toArray, List.set_cons_zero, List.set_cons_succ]
          refine held_take (i := 2) (d := some 22) (fuel := 13) (listed' := #[true, true, true, false, false, false, false, false, false, false, false, false, false, false, false, false]) (v := ?_) rfl rfl (by kernel_rfl) (by kernel_rfl) (by kernel_rfl) rfl (fun _ _ _ h => h) (by rfl) ?_ (Below.drew (Below.refl w3.heap.size w3)) ?_
          rotate_left
          · (intro wS hSw; go_simp; try (with_reducible rfl))
          simp only [Act.put, List.setIfInBounds_toArray, List.set_cons_zero, List.set_cons_succ]
          refine held_skip (i := 3) (d := some 23) (fuel := 12) (listed' := #[true, true, true, true, false, false, false, false, false, false, false, false, false, false, false, false]) rfl rfl (by kernel_rfl) (by kernel_rfl) (by kernel_rfl) rfl (fun _ _ _ h => h) (by rfl) (Below.drew (Below.refl w3.heap.size w3)) ?_
          simp only [Act.put, List.setIfInBounds_toArray, List.set_cons_zero, List.set_cons_succ]
          refine held_skip (i := 4) (d := some 24) (fuel := 11) (listed' := #[true, true, true, true, true, false, false, false, false, false, false, false, false, false, false, false]) rfl rfl (by kernel_rfl) (by kernel_rfl) (by kernel_rfl) rfl (fun _ _ _ h => h) (by rfl) (Below.drew (Below.refl w3.heap.size w3)) ?_
          simp only [Act.put, List.setIfInBounds_toArray, List.set_cons_zero, List.set_cons_succ]
          refine held_skip (i := 5) (d := some 25) (fuel := 10) (listed' := #[true, true, true, true, true, true, false, false, false, false, false, false, false, false, false, false]) rfl rfl (by kernel_rfl) (by kernel_rfl) (by kernel_rfl) rfl (fun _ _ _ h => h) (by rfl) (Below.drew (Below.refl w3.heap.size w3)) ?_
          simp only [Act.put, List.setIfInBounds_toArray, List.set_cons_zero, List.set_cons_succ]
          refine held_skip (i := 6) (d := some 26) (fuel := 9) (listed' := #[true, true, true, true, true, true, true, false, false, false, false, false, false, false, false, false]) rfl rfl (by kernel_rfl) (by kernel_rfl) (by kernel_rfl) rfl (fun _ _ _ h => h) (by rfl) (Below.drew (Below.refl w3.heap.size w3)) ?_
          simp only [Act.put, List.setIfInBounds_toArray, List.set_cons_zero, List.set_cons_succ]
          refine held_skip (i := 7) (d := some 27) (fuel := 8) (listed' := #[true, true, true, true, true, true, true, true, false, false, false, false, false, false, false, false]) rfl rfl (by kernel_rfl) (by kernel_rfl) (by kernel_rfl) rfl (fun _ _ _ h => h) (by rfl) (Below.drew (Below.refl w3.heap.size w3)) ?_
          simp only [Act.put, List.setIfInBounds_toArray, List.set_cons_zero, List.set_cons_succ]
          refine held_skip (i := 8) (d := some 28) (fuel := 7) (listed' := #[true, true, true, true, true, true, true, true, true, false, false, false, false, false, false, false]) rfl rfl (by kernel_rfl) (by kernel_rfl) (by kernel_rfl) rfl (fun _ _ _ h => h) (by rfl) (Below.drew (Below.refl w3.heap.size w3)) ?_
          simp only [Act.put, List.setIfInBounds_toArray, List.set_cons_zero, List.set_cons_succ]
          refine held_skip (i := 9) (d := some 29) (fuel := 6) (listed' := #[true, true, true, true, true, true, true, true, true, true, false, false, false, false, false, false]) rfl rfl (by kernel_rfl) (by kernel_rfl) (by kernel_rfl) rfl (fun _ _ _ h => h) (by rfl) (Below.drew (Below.refl w3.heap.size w3)) ?_
          simp only [Act.put, List.setIfInBounds_toArray, List.set_cons_zero, List.set_cons_succ]
          refine held_take (i := 10) (d := some 30) (fuel := 5) (listed' := #[true, true, true, true, true, true, true, true, true, true, true, false, false, false, false, false]) (v := ?_) rfl rfl (by kernel_rfl) (by kernel_rfl) (by kernel_rfl) rfl (fun _ _ _ h => h) (by rfl) ?_ (Below.drew (Below.refl w3.heap.size w3)) ?_
          rotate_left
          · (intro wS hSw; go_simp; try (with_reducible rfl))
          simp only [Act.put, List.setIfInBounds_toArray, List.set_cons_zero, List.set_cons_succ]
          refine held_take (i := 11) (d := some 31) (fuel := 4) (listed' := #[true, true, true, true, true, true, true, true, true, true, true, true, false, false, false, false]) (v := ?_) rfl rfl (by kernel_rfl) (by kernel_rfl) (by kernel_rfl) rfl (fun _ _ _ h => h) (by rfl) ?_ (Below.drew (Below.refl w3.heap.size w3)) ?_
          rotate_left
          · (intro wS hSw; go_simp; try (with_reducible rfl))
          simp only [Act.put, List.setIfInBounds_toArray, List.set_cons_zero, List.set_cons_succ]
          refine held_skip (i := 12) (d := some 32) (fuel := 3) (listed' := #[true, true, true, true, true, true, true, true, true, true, true, true, true, false, false, false]) rfl rfl (by kernel_rfl) (by kernel_rfl) (by kernel_rfl) rfl (fun _ _ _ h => h) (by rfl) (Below.drew (Below.refl w3.heap.size w3)) ?_
          simp only [Act.put, List.setIfInBounds_toArray, List.set_cons_zero, List.set_cons_succ]
          refine held_skip (i := 13) (d := some 33) (fuel := 2) (listed' := #[true, true, true, true, true, true, true, true, true, true, true, true, true, true, false, false]) rfl rfl (by kernel_rfl) (by kernel_rfl) (by kernel_rfl) rfl (fun _ _ _ h => h) (by rfl) (Below.drew (Below.refl w3.heap.size w3)) ?_
          simp only [Act.put, List.setIfInBounds_toArray, List.set_cons_zero, List.set_cons_succ]
          refine held_skip (i := 14) (d := some 34) (fuel := 1) (listed' := #[true, true, true, true, true, true, true, true, true, true, true, true, true, true, true, false]) rfl rfl (by kernel_rfl) (by kernel_rfl) (by kernel_rfl) rfl (fun _ _ _ h => h) (by rfl) (Below.drew (Below.refl w3.heap.size w3)) ?_
          simp only [Act.put, List.setIfInBounds_toArray, List.set_cons_zero, List.set_cons_succ]
          refine held_take (i := 15) (d := some 35) (fuel := 0) (listed' := #[true, true, true, true, true, true, true, true, true, true, true, true, true, true, true, true]) (v := ?_) rfl rfl (by kernel_rfl) (by kernel_rfl) (by kernel_rfl) rfl (fun _ _ _ h => h) (by rfl) ?_ (Below.drew (Below.refl w3.heap.size w3)) ?_
          rotate_left
          · (intro wS hSw; go_simp; try (with_reducible rfl))
          simp only [Act.put, List.setIfInBounds_toArray, List.set_cons_zero, List.set_cons_succ]
          refine wpAnyH_done (by kernel_rfl) ?_ _
          go_wp2_with fail
          go_ret
          exact ⟨by rw [HT2.out] <;> rfl, HB3.out.drew⟩
        subst hm0
        have HST := Lib.hid hst
        clear hst hst0
        have hB3 : Below wr.heap.size wr (wr.alloc (.cells #[.int .i64 n.kind, .int .i64 n.num, .string n.text, .string n.ref.sh, .int .i64 n.ref.c, .int .i64 n.ref.r, .bool n.ref.ac, .bool n.ref.ar, .string n.to.sh, .int .i64 n.to.c, .int .i64 n.to.r, .bool n.to.ac, .bool n.to.ar, .slice Ak 0 ck] 38)) := (Below.refl _ _).alloc (Nat.le_refl _) _
        have HN3 : NdAt (wr.alloc (.cells #[.int .i64 n.kind, .int .i64 n.num, .string n.text, .string n.ref.sh, .int .i64 n.ref.c, .int .i64 n.ref.r, .bool n.ref.ac, .bool n.ref.ar, .string n.to.sh, .int .i64 n.to.c, .int .i64 n.to.r, .bool n.to.ac, .bool n.to.ar, .slice Ak 0 ck] 38)) wr.heap.size n (.slice Ak 0 ck) := NdAt.new wr n _
        have HB3 := Lib.hid (HB.out.trans (hB3.mono HB.out.size))
        have HO3 := Lib.hid (HO.out.alloc (.cells #[.int .i64 n.kind, .int .i64 n.num, .string n.text, .string n.ref.sh, .int .i64 n.ref.c, .int .i64 n.ref.r, .bool n.ref.ac, .bool n.ref.ar, .string n.to.sh, .int .i64 n.to.c, .int .i64 n.to.r, .bool n.to.ac, .bool n.to.ar, .slice Ak 0 ck] 38))
        clear hB3
        go_upto_region 6 with (fail)
        generalize hb3 : wr.heap.size = b3 at HN3 ⊢
        generalize wr.alloc (.cells #[.int .i64 n.kind, .int .i64 n.num, .string n.text, .string n.ref.sh, .int .i64 n.ref.c, .int .i64 n.ref.r, .bool n.ref.ac, .bool n.ref.ar, .string n.to.sh, .int .i64 n.to.c, .int .i64 n.to.r, .bool n.to.ac, .bool n.to.ar, .slice Ak 0 ck] 38) = w3 at HN3 HB3 HO3 ⊢
        clear hb3 k0 k1 k2 k3 k4 k5 k6 k7 k8 k9 k10 k11 k12 k13 HO
        have HN3 := Lib.hid HN3
        obtain ⟨f, hf⟩ : ∃ f, st.length - 0 = f := ⟨_, rfl⟩
        have hml : 0 ≤ st.length := Nat.zero_le _
        have hfL : f ≤ st.length := by omega
        have HS1 := Lib.hid (show ∀ W, Below w3.heap.size w3 W → SI W w3.heap.size (.slice none 0 0) (st.drop f) from fun W hW => ⟨none, 0, by rw [HST.out]; simp, by rw [HST.out]; simp, by unfold maxLen; omega, .inl (by rw [HST.out]; simp)⟩)
        have HSK3 := Lib.hid (HSK.out.below HB3.out (Nat.le_refl _))
        by_cases hdk : st.drop f = n.kids
        rotate_left
        · have HT2 := Lib.hid (show treeB (vs.map (·.1)) = false by rw [HT.out, HD.out, treeF_cons, HM.out, hf, decide_eq_false hdk, Bool.false_and, Bool.and_false, Bool.and_false])
          have HEQ := Lib.hid (show ∀ W, Below w3.heap.size w3 W → Calls Tryz.prog 29 #[.slice none 0 0, .slice Ak 0 ck] W fun e w' => e = .returned (.bool false) ∧ Below W.heap.size W w' from fun W hW => by
            have := equal_any W w3.heap.size _ _ _ _ (HS1.out W hW) ((HSK3.out.mono HB3.out.size).below hW (Nat.le_refl _))
            rw [decide_eq_false hdk] at this; exact this)
          clear hml hdk hf hfL
          refine wp_region_held_drew (S := fun W => Below w3.heap.size w3 W) (by kernel_rfl) (Below.drew (Below.refl w3.heap.size w3)) (fun _ => ?_)
          show wpAnyH _ _ _ _ _ 16 #[false, false, false, false, false, false, false, false, false, false, false, false, false, false, false, false] _ _
          refine held_take (i := 0) (d := some 20) (fuel := 15) (listed' := #[true, false, false, false, false, false, false, false, false, false, false, false, false, false, false, false]) (v := ?_) rfl rfl (by kernel_rfl) (by kernel_rfl) (by kernel_rfl) rfl (fun _ _ _ h => h) (by rfl) ?_ (Below.drew (Below.refl w3.heap.size w3)) ?_
          rotate_left
          · (intro wS hSw; go_simp; try (with_reducible rfl))
          simp only [Act.put, List.setIfInBounds_toArray, List.set_cons_zero, List.set_cons_succ]
          refine held_take (i := 1) (d := some 21) (fuel := 14) (listed' := #[true, true, false, false, false, false, false, false, false, false, false, false, false, false, false, false]) (v := ?_) rfl rfl (by kernel_rfl) (by kernel_rfl) (by kernel_rfl) rfl (fun _ _ _ h => h) (by rfl) ?_ (Below.drew (Below.refl w3.heap.size w3)) ?_
          rotate_left
          · (intro wS hSw; go_simp; try (with_reducible rfl))
          simp only [Act.put, List.setIfInBounds_toArray, List.set_cons_zero, List.set_cons_succ]
          refine held_take (i := 2) (d := some 22) (fuel := 13) (listed' := #[true, true, true, false, false, false, false, false, false, false, false, false, false, false, false, false]) (v := ?_) rfl rfl (by kernel_rfl) (by kernel_rfl) (by kernel_rfl) rfl (fun _ _ _ h => h) (by rfl) ?_ (Below.drew (Below.refl w3.heap.size w3)) ?_
          rotate_left
          · (intro wS hSw; go_simp; try (with_reducible rfl))
          simp only [Act.put, List.setIfInBounds_toArray, List.set_cons_zero, List.set_cons_succ]
          refine held_take (i := 3) (d := some 23) (fuel := 12) (listed' := #[true, true, true, true, false, false, false, false, false, false, false, false, false, false, false, false]) (v := ?_) rfl rfl (by kernel_rfl) (by kernel_rfl) (by kernel_rfl) rfl (fun _ _ _ h => h) (by rfl) ?_ (Below.drew (Below.refl w3.heap.size w3)) ?_
          rotate_left
          · (intro wS hSw; go_simp; try (with_reducible rfl))
          simp only [Act.put, List.setIfInBounds_toArray, List.set_cons_zero, List.set_cons_succ]
          refine held_take (i := 4) (d := some 24) (fuel := 11) (listed' := #[true, true, true, true, true, false, false, false, false, false, false, false, false, false, false, false]) (v := ?_) rfl rfl (by kernel_rfl) (by kernel_rfl) (by kernel_rfl) rfl (fun _ _ _ h => h) (by rfl) ?_ (Below.drew (Below.refl w3.heap.size w3)) ?_
          rotate_left
          · (intro wS hSw; go_simp; try (with_reducible rfl))
          simp only [Act.put, List.setIfInBounds_toArray, List.set_cons_zero, List.set_cons_succ]
          refine held_take (i := 5) (d := some 25) (fuel := 10) (listed' := #[true, true, true, true, true, true, false, false, false, false, false, false, false, false, false, false]) (v := ?_) rfl rfl (by kernel_rfl) (by kernel_rfl) (by kernel_rfl) rfl (fun _ _ _ h => h) (by rfl) ?_ (Below.drew (Below.refl w3.heap.size w3)) ?_
          rotate_left
          · (intro wS hSw; go_simp; try (with_reducible rfl))
          simp only [Act.put, List.setIfInBounds_toArray, List.set_cons_zero, List.set_cons_succ]
          refine held_take (i := 6) (d := some 26) (fuel := 9) (listed' := #[true, true, true, true, true, true, true, false, false, false, false, false, false, false, false, false]) (v := ?_) rfl rfl (by kernel_rfl) (by kernel_rfl) (by kernel_rfl) rfl (fun _ _ _ h => h) (by rfl) ?_ (Below.drew (Below.refl w3.heap.size w3)) ?_
          rotate_left
          · (intro wS hSw; go_simp; try (with_reducible rfl))
          simp only [Act.put, List.setIfInBounds_toArray, List.set_cons_zero, List.set_cons_succ]
          refine held_take (i := 7) (d := some 27) (fuel := 8) (listed' := #[true, true, true, true, true, true, true, true, false, false, false, false, false, false, false, false]) (v := ?_) rfl rfl (by kernel_rfl) (by kernel_rfl) (by kernel_rfl) rfl (fun _ _ _ h => h) (by rfl) ?_ (Below.drew (Below.refl w3.heap.size w3)) ?_
          rotate_left
          · (intro wS hSw; have hz := (HN3.out.below hSw HN3.out.lt).cells; go_simp; try (with_reducible rfl))
          simp only [Act.put, List.setIfInBounds_toArray, List.set_cons_zero, List.set_cons_succ]
          refine held_one (i := 8) (d := some 28) (fuel := 7) (listed' := #[true, true, true, true, true, true, true, true, true, false, false, false, false, false, false, false]) rfl rfl (by kernel_rfl) rfl (by rfl) (fun K hK => ?_)
          go_simp
          refine (HEQ.out _ (Below.drew (Below.refl w3.heap.size w3))).mono ?_
          rintro e w4 ⟨rfl, h1⟩
          have HE := Lib.hid ((Below.drew (Below.refl w3.heap.size w3)).trans h1)
          clear h1
          go_wp2_with fail
          refine hK.out _ _ HE.out ?_
          clear hK K
          simp only [Act.put, List.setIfInBounds_toArray, List.set_cons_zero, List.set_cons_succ]
          refine held_take (i := 9) (d := some 29) (fuel := 6) (listed' := #[true, true, true, true, true, true, true, true, true, true, false, false, false, false, false, false]) (v := ?_) rfl rfl (by kernel_rfl) (by kernel_rfl) (by kernel_rfl) rfl (fun _ _ _ h => h) (by rfl) ?_ HE.out ?_
          rotate_left
          · (intro wS hSw; go_simp; try (with_reducible rfl))
          simp only [Act.put, List.setIfInBounds_toArray, List.set_cons_zero, List.set_cons_succ]
          refine held_take (i := 10) (d := some 30) (fuel := 5) (listed' := #[true, true, true, true, true, true, true, true, true, true, true, false, false, false, false, false]) (v := ?_) rfl rfl (by kernel_rfl) (by kernel_rfl) (by kernel_rfl) rfl (fun _ _ _ h => h) (by rfl) ?_ HE.out ?_
          rotate_left
          · (intro wS hSw; go_simp; try (with_reducible rfl))
          simp only [Act.put, List.setIfInBounds_toArray, List.set_cons_zero, List.set_cons_succ]
          refine held_take (i := 11) (d := some 31) (fuel := 4) (listed' := #[true, true, true, true, true, true, true, true, true, true, true, true, false, false, false, false]) (v := ?_) rfl rfl (by kernel_rfl) (by kernel_rfl) (by kernel_rfl) rfl (fun _ _ _ h => h) (by rfl) ?_ HE.out ?_
          rotate_left
          · (intro wS hSw; go_simp; try (with_reducible rfl))
          simp only [Act.put, List.setIfInBounds_toArray, List.set_cons_zero, List.set_cons_succ]
          refine held_skip (i := 12) (d := some 32) (fuel := 3) (listed' := #[true, true, true, true, true, true, true, true, true, true, true, true, true, false, false, false]) rfl rfl (by kernel_rfl) (by kernel_rfl) (by kernel_rfl) rfl (fun _ _ _ h => h) (by rfl) HE.out ?_
          simp only [Act.put, List.setIfInBounds_toArray, List.set_cons_zero, List.set_cons_succ]
          refine held_skip (i := 13) (d := some 33) (fuel := 2) (listed' := #[true, true, true, true, true, true, true, true, true, true, true, true, true, true, false, false]) rfl rfl (by kernel_rfl) (by kernel_rfl) (by kernel_rfl) rfl (fun _ _ _ h => h) (by rfl) HE.out ?_
          simp only [Act.put, List.setIfInBounds_toArray, List.set_cons_zero, List.set_cons_succ]
          refine held_skip (i := 14) (d := some 34) (fuel := 1) (listed' := #[true, true, true, true, true, true, true, true, true, true, true, true, true, true, true, false]) rfl rfl (by kernel_rfl) (by kernel_rfl) (by kernel_rfl) rfl (fun _ _ _ h => h) (by rfl) HE.out ?_
          simp only [Act.put, List.setIfInBounds_toArray, List.set_cons_zero, List.set_cons_succ]
          refine held_take (i := 15) (d := some 35) (fuel := 0) (listed' := #[true, true, true, true, true, true, true, true, true, true, true, true, true, true, true, true]) (v := ?_) rfl rfl (by kernel_rfl) (by kernel_rfl) (by kernel_rfl) rfl (fun _ _ _ h => h) (by rfl) ?_ HE.out ?_
          rotate_left
          · (intro wS hSw; go_simp; try (with_reducible rfl))
          simp only [Act.put, List.setIfInBounds_toArray, List.set_cons_zero, List.set_cons_succ]
          refine wpAnyH_done (by kernel_rfl) ?_ _
          go_wp2_with fail
          go_ret
          exact ⟨by rw [HT2.out] <;> rfl, HB3.out.trans (HE.out.mono HB3.out.size)⟩
        have HEQ := Lib.hid (show ∀ W, Below w3.heap.size w3 W → Calls Tryz.prog 29 #[.slice none 0 0, .slice Ak 0 ck] W fun e w' => e = .returned (.bool true) ∧ Below W.heap.size W w' from fun W hW => by
          have := equal_any W w3.heap.size _ _ _ _ (HS1.out W hW) ((HSK3.out.mono HB3.out.size).below hW (Nat.le_refl _))
          rw [decide_eq_true hdk] at this; exact this)
        have HDK := Lib.hid hdk
        cases hnb : nodeB n
        · have HT2 := Lib.hid (show treeB (vs.map (·.1)) = false by rw [HT.out, HD.out, treeF_cons, hnb, Bool.false_and])
          have HNO := Lib.hid (show ∀ W, Below w3.heap.size w3 W → Calls Tryz.prog 30 #[.agg #[.int .i64 n.kind, .int .i64 n.num, .string n.text, .string n.ref.sh, .int .i64 n.ref.c, .int .i64 n.ref.r, .bool n.ref.ac, .bool n.ref.ar, .string n.to.sh, .int .i64 n.to.c, .int .i64 n.to.r, .bool n.to.ac, .bool n.to.ar, .slice Ak 0 ck]] W fun e w' => e = .returned (.bool false) ∧ Below W.heap.size W w' from fun W hW => by
            have := isNode_any W n (HV.out.below (HB3.out.trans (hW.mono HB3.out.size))) HZ1.out HZ2.out HZ3.out Ak 0 ck HMM.out
            rw [← HM.out, isNd_eq, hnb] at this; rw [← HM.out]; exact this)
          clear hml hdk hf hfL hnb
          refine wp_region_held_drew (S := fun W => Below w3.heap.size w3 W) (by kernel_rfl) (Below.drew (Below.refl w3.heap.size w3)) (fun _ => ?_)
          show wpAnyH _ _ _ _ _ 16 #[false, false, false, false, false, false, false, false, false, false, false, false, false, false, false, false] _ _
          refine held_take (i := 0) (d := some 20) (fuel := 15) (listed' := #[true, false, false, false, false, false, false, false, false, false, false, false, false, false, false, false]) (v := ?_) rfl rfl (by kernel_rfl) (by kernel_rfl) (by kernel_rfl) rfl (fun _ _ _ h => h) (by rfl) ?_ (Below.drew (Below.refl w3.heap.size w3)) ?_
          rotate_left
          · (intro wS hSw; go_simp; try (with_reducible rfl))
          simp only [Act.put, List.setIfInBounds_toArray, List.set_cons_zero, List.set_cons_succ]
          refine held_take (i := 1) (d := some 21) (fuel := 14) (listed' := #[true, true, false, false, false, false, false, false, false, false, false, false, false, false, false, false]) (v := ?_) rfl rfl (by kernel_rfl) (by kernel_rfl) (by kernel_rfl) rfl (fun _ _ _ h => h) (by rfl) ?_ (Below.drew (Below.refl w3.heap.size w3)) ?_
          rotate_left
          · (intro wS hSw; go_simp; try (with_reducible rfl))
          simp only [Act.put, List.setIfInBounds_toArray, List.set_cons_zero, List.set_cons_succ]
          refine held_take (i := 2) (d := some 22) (fuel := 13) (listed' := #[true, true, true, false, false, false, false, false, false, false, false, false, false, false, false, false]) (v := ?_) rfl rfl (by kernel_rfl) (by kernel_rfl) (by kernel_rfl) rfl (fun _ _ _ h => h) (by rfl) ?_ (Below.drew (Below.refl w3.heap.size w3)) ?_
          rotate_left
          · (intro wS hSw; go_simp; try (with_reducible rfl))
          simp only [Act.put, List.setIfInBounds_toArray, List.set_cons_zero, List.set_cons_succ]
          refine held_take (i := 3) (d := some 23) (fuel := 12) (listed' := #[true, true, true, true, false, false, false, false, false, false, false, false, false, false, false, false]) (v := ?_) rfl rfl (by kernel_rfl) (by kernel_rfl) (by kernel_rfl) rfl (fun _ _ _ h => h) (by rfl) ?_ (Below.drew (Below.refl w3.heap.size w3)) ?_
          rotate_left
          · (intro wS hSw; go_simp; try (with_reducible rfl))
          simp only [Act.put, List.setIfInBounds_toArray, List.set_cons_zero, List.set_cons_succ]
          refine held_take (i := 4) (d := some 24) (fuel := 11) (listed' := #[true, true, true, true, true, false, false, false, false, false, false, false, false, false, false, false]) (v := ?_) rfl rfl (by kernel_rfl) (by kernel_rfl) (by kernel_rfl) rfl (fun _ _ _ h => h) (by rfl) ?_ (Below.drew (Below.refl w3.heap.size w3)) ?_
          rotate_left
          · (intro wS hSw; go_simp; try (with_reducible rfl))
          simp only [Act.put, List.setIfInBounds_toArray, List.set_cons_zero, List.set_cons_succ]
          refine held_take (i := 5) (d := some 25) (fuel := 10) (listed' := #[true, true, true, true, true, true, false, false, false, false, false, false, false, false, false, false]) (v := ?_) rfl rfl (by kernel_rfl) (by kernel_rfl) (by kernel_rfl) rfl (fun _ _ _ h => h) (by rfl) ?_ (Below.drew (Below.refl w3.heap.size w3)) ?_
          rotate_left
          · (intro wS hSw; go_simp; try (with_reducible rfl))
          simp only [Act.put, List.setIfInBounds_toArray, List.set_cons_zero, List.set_cons_succ]
          refine held_take (i := 6) (d := some 26) (fuel := 9) (listed' := #[true, true, true, true, true, true, true, false, false, false, false, false, false, false, false, false]) (v := ?_) rfl rfl (by kernel_rfl) (by kernel_rfl) (by kernel_rfl) rfl (fun _ _ _ h => h) (by rfl) ?_ (Below.drew (Below.refl w3.heap.size w3)) ?_
          rotate_left
          · (intro wS hSw; go_simp; try (with_reducible rfl))
          simp only [Act.put, List.setIfInBounds_toArray, List.set_cons_zero, List.set_cons_succ]
          refine held_take (i := 7) (d := some 27) (fuel := 8) (listed' := #[true, true, true, true, true, true, true, true, false, false, false, false, false, false, false, false]) (v := ?_) rfl rfl (by kernel_rfl) (by kernel_rfl) (by kernel_rfl) rfl (fun _ _ _ h => h) (by rfl) ?_ (Below.drew (Below.refl w3.heap.size w3)) ?_
          rotate_left
          · (intro wS hSw; have hz := (HN3.out.below hSw HN3.out.lt).cells; go_simp; try (with_reducible rfl))
          simp only [Act.put, List.setIfInBounds_toArray, List.set_cons_zero, List.set_cons_succ]
          refine held_one (i := 8) (d := some 28) (fuel := 7) (listed' := #[true, true, true, true, true, true, true, true, true, false, false, false, false, false, false, false]) rfl rfl (by kernel_rfl) rfl (by rfl) (fun K hK => ?_)
          go_simp
          refine (HEQ.out _ (Below.drew (Below.refl w3.heap.size w3))).mono ?_
          rintro e w4 ⟨rfl, h1⟩
          have HE := Lib.hid ((Below.drew (Below.refl w3.heap.size w3)).trans h1)
          clear h1
          go_wp2_with fail
          refine hK.out _ _ HE.out ?_
          clear hK K
          simp only [Act.put, List.setIfInBounds_toArray, List.set_cons_zero, List.set_cons_succ]
          refine held_take (i := 9) (d := some 29) (fuel := 6) (listed' := #[true, true, true, true, true, true, true, true, true, true, false, false, false, false, false, false]) (v := ?_) rfl rfl (by kernel_rfl) (by kernel_rfl) (by kernel_rfl) rfl (fun _ _ _ h => h) (by rfl) ?_ HE.out ?_
          rotate_left
          · (intro wS hSw; go_simp; try (with_reducible rfl))
          simp only [Act.put, List.setIfInBounds_toArray, List.set_cons_zero, List.set_cons_succ]
          refine held_take (i := 10) (d := some 30) (fuel := 5) (listed' := #[true, true, true, true, true, true, true, true, true, true, true, false, false, false, false, false]) (v := ?_) rfl rfl (by kernel_rfl) (by kernel_rfl) (by kernel_rfl) rfl (fun _ _ _ h => h) (by rfl) ?_ HE.out ?_
          rotate_left
          · (intro wS hSw; go_simp; try (with_reducible rfl))
          simp only [Act.put, List.setIfInBounds_toArray, List.set_cons_zero, List.set_cons_succ]
          refine held_take (i := 11) (d := some 31) (fuel := 4) (listed' := #[true, true, true, true, true, true, true, true, true, true, true, true, false, false, false, false]) (v := ?_) rfl rfl (by kernel_rfl) (by kernel_rfl) (by kernel_rfl) rfl (fun _ _ _ h => h) (by rfl) ?_ HE.out ?_
          rotate_left
          · (intro wS hSw; go_simp; try (with_reducible rfl))
          simp only [Act.put, List.setIfInBounds_toArray, List.set_cons_zero, List.set_cons_succ]
          refine held_take (i := 12) (d := some 32) (fuel := 3) (listed' := #[true, true, true, true, true, true, true, true, true, true, true, true, true, false, false, false]) (v := ?_) rfl rfl (by kernel_rfl) (by kernel_rfl) (by kernel_rfl) rfl (fun _ _ _ h => h) (by rfl) ?_ HE.out ?_
          rotate_left
          · (intro wS hSw; have hz := (HN3.out.below hSw HN3.out.lt).cells; go_simp; try (with_reducible rfl))
          simp only [Act.put, List.setIfInBounds_toArray, List.set_cons_zero, List.set_cons_succ]
          refine held_one (i := 13) (d := some 33) (fuel := 2) (listed' := #[true, true, true, true, true, true, true, true, true, true, true, true, true, true, false, false]) rfl rfl (by kernel_rfl) rfl (by rfl) (fun K hK => ?_)
          go_simp
          refine (HNO.out _ HE.out).mono ?_
          rintro e w5 ⟨rfl, h1⟩
          have HF := Lib.hid (HE.out.trans (h1.mono HE.out.size))
          clear h1
          go_wp2_with fail
          refine hK.out _ _ HF.out ?_
          clear hK K
          simp only [Act.put, List.setIfInBounds_toArray, List.set_cons_zero, List.set_cons_succ]
          refine held_take (i := 14) (d := some 34) (fuel := 1) (listed' := #[true, true, true, true, true, true, true, true, true, true, true, true, true, true, true, false]) (v := ?_) rfl rfl (by kernel_rfl) (by kernel_rfl) (by kernel_rfl) rfl (fun _ _ _ h => h) (by rfl) ?_ HF.out ?_
          rotate_left
          · (intro wS hSw; go_simp; try (with_reducible rfl))
          simp only [Act.put, List.setIfInBounds_toArray, List.set_cons_zero, List.set_cons_succ]
          refine held_take (i := 15) (d := some 35) (fuel := 0) (listed' := #[true, true, true, true, true, true, true, true, true, true, true, true, true, true, true, true]) (v := ?_) rfl rfl (by kernel_rfl) (by kernel_rfl) (by kernel_rfl) rfl (fun _ _ _ h => h) (by rfl) ?_ HF.out ?_
          rotate_left
          · (intro wS hSw; go_simp; try (with_reducible rfl))
          simp only [Act.put, List.setIfInBounds_toArray, List.set_cons_zero, List.set_cons_succ]
          refine wpAnyH_done (by kernel_rfl) ?_ _
          go_wp2_with fail
          go_ret
          exact ⟨by rw [HT2.out] <;> rfl, HB3.out.trans (HF.out.mono HB3.out.size)⟩
        · have HT2 := Lib.hid (show treeB (vs.map (·.1)) = treeF (st.take f ++ [(i : Int)]) (i + 1) ((vs.map (·.1)).drop (i + 1)) by rw [HT.out, HD.out, treeF_cons, hnb, HM.out, decide_eq_true hml, hf, decide_eq_true hdk, Bool.true_and, Bool.true_and, Bool.true_and])
          have HNO := Lib.hid (show ∀ W, Below w3.heap.size w3 W → Calls Tryz.prog 30 #[.agg #[.int .i64 n.kind, .int .i64 n.num, .string n.text, .string n.ref.sh, .int .i64 n.ref.c, .int .i64 n.ref.r, .bool n.ref.ac, .bool n.ref.ar, .string n.to.sh, .int .i64 n.to.c, .int .i64 n.to.r, .bool n.to.ac, .bool n.to.ar, .slice Ak 0 ck]] W fun e w' => e = .returned (.bool true) ∧ Below W.heap.size W w' from fun W hW => by
            have := isNode_any W n (HV.out.below (HB3.out.trans (hW.mono HB3.out.size))) HZ1.out HZ2.out HZ3.out Ak 0 ck HMM.out
            rw [← HM.out, isNd_eq, hnb] at this; rw [← HM.out]; exact this)
          clear hml hdk hnb
          refine wp_region_held_drew (S := fun W => Below w3.heap.size w3 W) (by kernel_rfl) (Below.drew (Below.refl w3.heap.size w3)) (fun _ => ?_)
          show wpAnyH _ _ _ _ _ 16 #[false, false, false, false, false, false, false, false, false, false, false, false, false, false, false, false] _ _
          refine held_take (i := 0) (d := some 20) (fuel := 15) (listed' := #[true, false, false, false, false, false, false, false, false, false, false, false, false, false, false, false]) (v := ?_) rfl rfl (by kernel_rfl) (by kernel_rfl) (by kernel_rfl) rfl (fun _ _ _ h => h) (by rfl) ?_ (Below.drew (Below.refl w3.heap.size w3)) ?_
          rotate_left
          · (intro wS hSw; go_simp; try (with_reducible rfl))
          simp only [Act.put, List.setIfInBounds_toArray, List.set_cons_zero, List.set_cons_succ]
          refine held_take (i := 1) (d := some 21) (fuel := 14) (listed' := #[true, true, false, false, false, false, false, false, false, false, false, false, false, false, false, false]) (v := ?_) rfl rfl (by kernel_rfl) (by kernel_rfl) (by kernel_rfl) rfl (fun _ _ _ h => h) (by rfl) ?_ (Below.drew (Below.refl w3.heap.size w3)) ?_
          rotate_left
          · (intro wS hSw; go_simp; try (with_reducible rfl))
          simp only [Act.put, List.setIfInBounds_toArray, List.set_cons_zero, List.set_cons_succ]
          refine held_take (i := 2) (d := some 22) (fuel := 13) (listed' := #[true, true, true, false, false, false, false, false, false, false, false, false, false, false, false, false]) (v := ?_) rfl rfl (by kernel_rfl) (by kernel_rfl) (by kernel_rfl) rfl (fun _ _ _ h => h) (by rfl) ?_ (Below.drew (Below.refl w3.heap.size w3)) ?_
          rotate_left
          · (intro wS hSw; go_simp; try (with_reducible rfl))
          simp only [Act.put, List.setIfInBounds_toArray, List.set_cons_zero, List.set_cons_succ]
          refine held_take (i := 3) (d := some 23) (fuel := 12) (listed' := #[true, true, true, true, false, false, false, false, false, false, false, false, false, false, false, false]) (v := ?_) rfl rfl (by kernel_rfl) (by kernel_rfl) (by kernel_rfl) rfl (fun _ _ _ h => h) (by rfl) ?_ (Below.drew (Below.refl w3.heap.size w3)) ?_
          rotate_left
          · (intro wS hSw; go_simp; try (with_reducible rfl))
          simp only [Act.put, List.setIfInBounds_toArray, List.set_cons_zero, List.set_cons_succ]
          refine held_take (i := 4) (d := some 24) (fuel := 11) (listed' := #[true, true, true, true, true, false, false, false, false, false, false, false, false, false, false, false]) (v := ?_) rfl rfl (by kernel_rfl) (by kernel_rfl) (by kernel_rfl) rfl (fun _ _ _ h => h) (by rfl) ?_ (Below.drew (Below.refl w3.heap.size w3)) ?_
          rotate_left
          · (intro wS hSw; go_simp; try (with_reducible rfl))
          simp only [Act.put, List.setIfInBounds_toArray, List.set_cons_zero, List.set_cons_succ]
          refine held_take (i := 5) (d := some 25) (fuel := 10) (listed' := #[true, true, true, true, true, true, false, false, false, false, false, false, false, false, false, false]) (v := ?_) rfl rfl (by kernel_rfl) (by kernel_rfl) (by kernel_rfl) rfl (fun _ _ _ h => h) (by rfl) ?_ (Below.drew (Below.refl w3.heap.size w3)) ?_
          rotate_left
          · (intro wS hSw; go_simp; try (with_reducible rfl))
          simp only [Act.put, List.setIfInBounds_toArray, List.set_cons_zero, List.set_cons_succ]
          refine held_take (i := 6) (d := some 26) (fuel := 9) (listed' := #[true, true, true, true, true, true, true, false, false, false, false, false, false, false, false, false]) (v := ?_) rfl rfl (by kernel_rfl) (by kernel_rfl) (by kernel_rfl) rfl (fun _ _ _ h => h) (by rfl) ?_ (Below.drew (Below.refl w3.heap.size w3)) ?_
          rotate_left
          · (intro wS hSw; go_simp; try (with_reducible rfl))
          simp only [Act.put, List.setIfInBounds_toArray, List.set_cons_zero, List.set_cons_succ]
          refine held_take (i := 7) (d := some 27) (fuel := 8) (listed' := #[true, true, true, true, true, true, true, true, false, false, false, false, false, false, false, false]) (v := ?_) rfl rfl (by kernel_rfl) (by kernel_rfl) (by kernel_rfl) rfl (fun _ _ _ h => h) (by rfl) ?_ (Below.drew (Below.refl w3.heap.size w3)) ?_
          rotate_left
          · (intro wS hSw; have hz := (HN3.out.below hSw HN3.out.lt).cells; go_simp; try (with_reducible rfl))
          simp only [Act.put, List.setIfInBounds_toArray, List.set_cons_zero, List.set_cons_succ]
          refine held_one (i := 8) (d := some 28) (fuel := 7) (listed' := #[true, true, true, true, true, true, true, true, true, false, false, false, false, false, false, false]) rfl rfl (by kernel_rfl) rfl (by rfl) (fun K hK => ?_)
          go_simp
          refine (HEQ.out _ (Below.drew (Below.refl w3.heap.size w3))).mono ?_
          rintro e w4 ⟨rfl, h1⟩
          have HE := Lib.hid ((Below.drew (Below.refl w3.heap.size w3)).trans h1)
          clear h1
          go_wp2_with fail
          refine hK.out _ _ HE.out ?_
          clear hK K
          simp only [Act.put, List.setIfInBounds_toArray, List.set_cons_zero, List.set_cons_succ]
          refine held_take (i := 9) (d := some 29) (fuel := 6) (listed' := #[true, true, true, true, true, true, true, true, true, true, false, false, false, false, false, false]) (v := ?_) rfl rfl (by kernel_rfl) (by kernel_rfl) (by kernel_rfl) rfl (fun _ _ _ h => h) (by rfl) ?_ HE.out ?_
          rotate_left
          · (intro wS hSw; go_simp; try (with_reducible rfl))
          simp only [Act.put, List.setIfInBounds_toArray, List.set_cons_zero, List.set_cons_succ]
          refine held_take (i := 10) (d := some 30) (fuel := 5) (listed' := #[true, true, true, true, true, true, true, true, true, true, true, false, false, false, false, false]) (v := ?_) rfl rfl (by kernel_rfl) (by kernel_rfl) (by kernel_rfl) rfl (fun _ _ _ h => h) (by rfl) ?_ HE.out ?_
          rotate_left
          · (intro wS hSw; go_simp; try (with_reducible rfl))
          simp only [Act.put, List.setIfInBounds_toArray, List.set_cons_zero, List.set_cons_succ]
          refine held_take (i := 11) (d := some 31) (fuel := 4) (listed' := #[true, true, true, true, true, true, true, true, true, true, true, true, false, false, false, false]) (v := ?_) rfl rfl (by kernel_rfl) (by kernel_rfl) (by kernel_rfl) rfl (fun _ _ _ h => h) (by rfl) ?_ HE.out ?_
          rotate_left
          · (intro wS hSw; go_simp; try (with_reducible rfl))
          simp only [Act.put, List.setIfInBounds_toArray, List.set_cons_zero, List.set_cons_succ]
          refine held_take (i := 12) (d := some 32) (fuel := 3) (listed' := #[true, true, true, true, true, true, true, true, true, true, true, true, true, false, false, false]) (v := ?_) rfl rfl (by kernel_rfl) (by kernel_rfl) (by kernel_rfl) rfl (fun _ _ _ h => h) (by rfl) ?_ HE.out ?_
          rotate_left
          · (intro wS hSw; have hz := (HN3.out.below hSw HN3.out.lt).cells; go_simp; try (with_reducible rfl))
          simp only [Act.put, List.setIfInBounds_toArray, List.set_cons_zero, List.set_cons_succ]
          refine held_one (i := 13) (d := some 33) (fuel := 2) (listed' := #[true, true, true, true, true, true, true, true, true, true, true, true, true, true, false, false]) rfl rfl (by kernel_rfl) rfl (by rfl) (fun K hK => ?_)
          go_simp
          refine (HNO.out _ HE.out).mono ?_
          rintro e w5 ⟨rfl, h1⟩
          have HF := Lib.hid (HE.out.trans (h1.mono HE.out.size))
          clear h1
          go_wp2_with fail
          refine hK.out _ _ HF.out ?_
          clear hK K
          simp only [Act.put, List.setIfInBounds_toArray, List.set_cons_zero, List.set_cons_succ]
          refine held_take (i := 14) (d := some 34) (fuel := 1) (listed' := #[true, true, true, true, true, true, true, true, true, true, true, true, true, true, true, false]) (v := ?_) rfl rfl (by kernel_rfl) (by kernel_rfl) (by kernel_rfl) rfl (fun _ _ _ h => h) (by rfl) ?_ HF.out ?_
          rotate_left
          · (intro wS hSw; go_simp; try (with_reducible rfl))
          simp only [Act.put, List.setIfInBounds_toArray, List.set_cons_zero, List.set_cons_succ]
          refine held_take (i := 15) (d := some 35) (fuel := 0) (listed' := #[true, true, true, true, true, true, true, true, true, true, true, true, true, true, true, true]) (v := ?_) rfl rfl (by kernel_rfl) (by kernel_rfl) (by kernel_rfl) rfl (fun _ _ _ h => h) (by rfl) ?_ HF.out ?_
          rotate_left
          · (intro wS hSw; go_simp; try (with_reducible rfl))
          simp only [Act.put, List.setIfInBounds_toArray, List.set_cons_zero, List.set_cons_succ]
          refine wpAnyH_done (by kernel_rfl) ?_ _
          have HB5 := Lib.hid (HB3.out.trans (HF.out.mono HB3.out.size))
          have HO5 := Lib.hid (HO3.out.below HF.out (Nat.le_refl _))
          have hlt5 : (st.take f).length ≤ 1000 := by rw [List.length_take]; omega
          go_wp2_with (at_builtin; refine wpList_app HEL.out (encInt .i64) rfl (.tmp 38) (.tmp 40) rfl w.heap.size (.slice none 0 0) (st.take f) rfl ((show Own (encInt .i64) 3 w5 w.heap.size (.slice none 0 0) (st.take f) from by rw [HST.out, List.take_nil]; exact Own.nil _ _ _ _).alloc _) ⟨w5.heap.size, 0, none⟩ 1 1 [(i : Int)] rfl rfl ?_ ?_ ?_ ?_ ?_; exact cells_new _ _ _ rfl; exact Nat.le_trans (Nat.mul_le_mul_left _ hEB) (by omega); (unfold maxLen; omega); (have := HB5.out.size; simp <;> omega); intro kv' w6 h1 h2; have HO6 := Lib.hid h1; have HB6 := Lib.hid (((HB5.out.alloc HB5.out.size _)).trans h2); clear h1 h2)
          go_roundw
          case rel => exact ⟨i + 1, st.take f ++ [(i : Int)], kv', by omega, by rw [List.length_append, List.length_take, List.length_singleton]; omega, rfl, by go_num, HT2, HO6, HB6⟩
          case measure => simp [intOf]; omega
      · skip
        by_cases hml : m ≤ st.length
        rotate_left
        · have hneg : (st.length : Int) - (m : Int) < 0 := by omega
          have HT2 := Lib.hid (show treeB (vs.map (·.1)) = false by rw [HT.out, HD.out, treeF_cons, HM.out, decide_eq_false hml, Bool.false_and, Bool.and_false])
          have hw1 : -9223372036854775808 ≤ (st.length : Int) - (m : Int) := by omega
          have hw2 : (st.length : Int) - (m : Int) ≤ 9223372036854775807 := by omega
          clear hml
          have hB3 : Below wr.heap.size wr (wr.alloc (.cells #[.int .i64 n.kind, .int .i64 n.num, .string n.text, .string n.ref.sh, .int .i64 n.ref.c, .int .i64 n.ref.r, .bool n.ref.ac, .bool n.ref.ar, .string n.to.sh, .int .i64 n.to.c, .int .i64 n.to.r, .bool n.to.ac, .bool n.to.ar, .slice Ak m ck] 38)) := (Below.refl _ _).alloc (Nat.le_refl _) _
          have HN3 : NdAt (wr.alloc (.cells #[.int .i64 n.kind, .int .i64 n.num, .string n.text, .string n.ref.sh, .int .i64 n.ref.c, .int .i64 n.ref.r, .bool n.ref.ac, .bool n.ref.ar, .string n.to.sh, .int .i64 n.to.c, .int .i64 n.to.r, .bool n.to.ac, .bool n.to.ar, .slice Ak m ck] 38)) wr.heap.size n (.slice Ak m ck) := NdAt.new wr n _
          have HB3 := Lib.hid (HB.out.trans (hB3.mono HB.out.size))
          have HO3 := Lib.hid (HO.out.alloc (.cells #[.int .i64 n.kind, .int .i64 n.num, .string n.text, .string n.ref.sh, .int .i64 n.ref.c, .int .i64 n.ref.r, .bool n.ref.ac, .bool n.ref.ar, .string n.to.sh, .int .i64 n.to.c, .int .i64 n.to.r, .bool n.to.ac, .bool n.to.ar, .slice Ak m ck] 38))
          clear hB3
          go_upto_region 6 with (fail)
          generalize hb3 : wr.heap.size = b3 at HN3 ⊢
          generalize wr.alloc (.cells #[.int .i64 n.kind, .int .i64 n.num, .string n.text, .string n.ref.sh, .int .i64 n.ref.c, .int .i64 n.ref.r, .bool n.ref.ac, .bool n.ref.ar, .string n.to.sh, .int .i64 n.to.c, .int .i64 n.to.r, .bool n.to.ac, .bool n.to.ar, .slice Ak m ck] 38) = w3 at HN3 HB3 HO3 ⊢
          clear hb3 k0 k1 k2 k3 k4 k5 k6 k7 k8 k9 k10 k11 k12 k13 HO
          have HN3 := Lib.hid HN3
          refine wp_region_held_drew (S := fun W => Below w3.heap.size w3 W) (by kernel_rfl) (Below.drew (Below.refl w3.heap.size w3)) (fun _ => ?_)
          show wpAnyH _ _ _ _ _ 16 #[false, false, false, false, false, false, false, false, false, false, false, false, false, false, false, false] _ _
          refine held_take (i := 0) (d := some 20) (fuel := 15) (listed' := #[true, false, false, false, false, false, false, false, false, false, false, false, false, false, false, false]) (v := ?_) rfl rfl (by kernel_rfl) (by kernel_rfl) (by kernel_rfl) rfl (fun _ _ _ h => h) (by rfl) ?_ (Below.drew (Below.refl w3.heap.size w3)) ?_
          rotate_left
          · (intro wS hSw; go_simp; try (with_reducible rfl))
          simp only [Act.put, List.setIfInBounds_toArray, List.set_cons_zero, List.set_cons_succ]
          refine held_take (i := 1) (d := some 21) (fuel := 14) (listed' := #[true, true, false, false, false, false, false, false, false, false, false, false, false, false, false, false]) (v := ?_) rfl rfl (by kernel_rfl) (by kernel_rfl) (by kernel_rfl) rfl (fun _ _ _ h => h) (by rfl) ?_ (Below.drew (Below.refl w3.heap.size w3)) ?_
          rotate_left
          · (intro wS hSw; go_simp; try (with_reducible rfl))
          simp only [Act.put, List.setIfInBounds_toArray, List.set_cons_zero, List.set_cons_succ]
          refine held_take (i := 2) (d := some 22) (fuel := 13) (listed' := #[true, true, true, false, false, false, false, false, false, false, false, false, false, false, false, false]) (v := ?_) rfl rfl (by kernel_rfl) (by kernel_rfl) (by kernel_rfl) rfl (fun _ _ _ h => h) (by rfl) ?_ (Below.drew (Below.refl w3.heap.size w3)) ?_
          rotate_left
          · (intro wS hSw; go_simp; try (with_reducible rfl))
          simp only [Act.put, List.setIfInBounds_toArray, List.set_cons_zero, List.set_cons_succ]
          refine held_skip (i := 3) (d := some 23) (fuel := 12) (listed' := #[true, true, true, true, false, false, false, false, false, false, false, false, false, false, false, false]) rfl rfl (by kernel_rfl) (by kernel_rfl) (by kernel_rfl) rfl (fun _ _ _ h => h) (by rfl) (Below.drew (Below.refl w3.heap.size w3)) ?_
          simp only [Act.put, List.setIfInBounds_toArray, List.set_cons_zero, List.set_cons_succ]
          refine held_skip (i := 4) (d := some 24) (fuel := 11) (listed' := #[true, true, true, true, true, false, false, false, false, false, false, false, false, false, false, false]) rfl rfl (by kernel_rfl) (by kernel_rfl) (by kernel_rfl) rfl (fun _ _ _ h => h) (by rfl) (Below.drew (Below.refl w3.heap.size w3)) ?_
          simp only [Act.put, List.setIfInBounds_toArray, List.set_cons_zero, List.set_cons_succ]
          refine held_skip (i := 5) (d := some 25) (fuel := 10) (listed' := #[true, true, true, true, true, true, false, false, false, false, false, false, false, false, false, false]) rfl rfl (by kernel_rfl) (by kernel_rfl) (by kernel_rfl) rfl (fun _ _ _ h => h) (by rfl) (Below.drew (Below.refl w3.heap.size w3)) ?_
          simp only [Act.put, List.setIfInBounds_toArray, List.set_cons_zero, List.set_cons_succ]
          refine held_skip (i := 6) (d := some 26) (fuel := 9) (listed' := #[true, true, true, true, true, true, true, false, false, false, false, false, false, false, false, false]) rfl rfl (by kernel_rfl) (by kernel_rfl) (by kernel_rfl) rfl (fun _ _ _ h => h) (by rfl) (Below.drew (Below.refl w3.heap.size w3)) ?_
          simp only [Act.put, List.setIfInBounds_toArray, List.set_cons_zero, List.set_cons_succ]
          refine held_skip (i := 7) (d := some 27) (fuel := 8) (listed' := #[true, true, true, true, true, true, true, true, false, false, false, false, false, false, false, false]) rfl rfl (by kernel_rfl) (by kernel_rfl) (by kernel_rfl) rfl (fun _ _ _ h => h) (by rfl) (Below.drew (Below.refl w3.heap.size w3)) ?_
          simp only [Act.put, List.setIfInBounds_toArray, List.set_cons_zero, List.set_cons_succ]
          refine held_skip (i := 8) (d := some 28) (fuel := 7) (listed' := #[true, true, true, true, true, true, true, true, true, false, false, false, false, false, false, false]) rfl rfl (by kernel_rfl) (by kernel_rfl) (by kernel_rfl) rfl (fun _ _ _ h => h) (by rfl) (Below.drew (Below.refl w3.heap.size w3)) ?_
          simp only [Act.put, List.setIfInBounds_toArray, List.set_cons_zero, List.set_cons_succ]
          refine held_skip (i := 9) (d := some 29) (fuel := 6) (listed' := #[true, true, true, true, true, true, true, true, true, true, false, false, false, false, false, false]) rfl rfl (by kernel_rfl) (by kernel_rfl) (by kernel_rfl) rfl (fun _ _ _ h => h) (by rfl) (Below.drew (Below.refl w3.heap.size w3)) ?_
          simp only [Act.put, List.setIfInBounds_toArray, List.set_cons_zero, List.set_cons_succ]
          refine held_take (i := 10) (d := some 30) (fuel := 5) (listed' := #[true, true, true, true, true, true, true, true, true, true, true, false, false, false, false, false]) (v := ?_) rfl rfl (by kernel_rfl) (by kernel_rfl) (by kernel_rfl) rfl (fun _ _ _ h => h) (by rfl) ?_ (Below.drew (Below.refl w3.heap.size w3)) ?_
          rotate_left
          · (intro wS hSw; go_simp; try (with_reducible rfl))
          simp only [Act.put, List.setIfInBounds_toArray, List.set_cons_zero, List.set_cons_succ]
          refine held_take (i := 11) (d := some 31) (fuel := 4) (listed' := #[true, true, true, true, true, true, true, true, true, true, true, true, false, false, false, false]) (v := ?_) rfl rfl (by kernel_rfl) (by kernel_rfl) (by kernel_rfl) rfl (fun _ _ _ h => h) (by rfl) ?_ (Below.drew (Below.refl w3.heap.size w3)) ?_
          rotate_left
          · (intro wS hSw; go_simp; try (with_reducible rfl))
          simp only [Act.put, List.setIfInBounds_toArray, List.set_cons_zero, List.set_cons_succ]
          refine held_skip (i := 12) (d := some 32) (fuel := 3) (listed' := #[true, true, true, true, true, true, true, true, true, true, true, true, true, false, false, false]) rfl rfl (by kernel_rfl) (by kernel_rfl) (by kernel_rfl) rfl (fun _ _ _ h => h) (by rfl) (Below.drew (Below.refl w3.heap.size w3)) ?_
          simp only [Act.put, List.setIfInBounds_toArray, List.set_cons_zero, List.set_cons_succ]
          refine held_skip (i := 13) (d := some 33) (fuel := 2) (listed' := #[true, true, true, true, true, true, true, true, true, true, true, true, true, true, false, false]) rfl rfl (by kernel_rfl) (by kernel_rfl) (by kernel_rfl) rfl (fun _ _ _ h => h) (by rfl) (Below.drew (Below.refl w3.heap.size w3)) ?_
          simp only [Act.put, List.setIfInBounds_toArray, List.set_cons_zero, List.set_cons_succ]
          refine held_skip (i := 14) (d := some 34) (fuel := 1) (listed' := #[true, true, true, true, true, true, true, true, true, true, true, true, true, true, true, false]) rfl rfl (by kernel_rfl) (by kernel_rfl) (by kernel_rfl) rfl (fun _ _ _ h => h) (by rfl) (Below.drew (Below.refl w3.heap.size w3)) ?_
          simp only [Act.put, List.setIfInBounds_toArray, List.set_cons_zero, List.set_cons_succ]
          refine held_take (i := 15) (d := some 35) (fuel := 0) (listed' := #[true, true, true, true, true, true, true, true, true, true, true, true, true, true, true, true]) (v := ?_) rfl rfl (by kernel_rfl) (by kernel_rfl) (by kernel_rfl) rfl (fun _ _ _ h => h) (by rfl) ?_ (Below.drew (Below.refl w3.heap.size w3)) ?_
          rotate_left
          · (intro wS hSw; go_simp; try (with_reducible rfl))
          simp only [Act.put, List.setIfInBounds_toArray, List.set_cons_zero, List.set_cons_succ]
          refine wpAnyH_done (by kernel_rfl) ?_ _
          go_wp2_with fail
          go_ret
          exact ⟨by rw [HT2.out] <;> rfl, HB3.out.drew⟩
        obtain ⟨f, hf⟩ : ∃ f, st.length - m = f := ⟨_, rfl⟩
        have hw1 : -9223372036854775808 ≤ (st.length : Int) - (m : Int) := by omega
        have hw2 : (st.length : Int) - (m : Int) ≤ 9223372036854775807 := by omega
        have hfi : (st.length : Int) - (m : Int) = (f : Int) := by omega
        have hfn : ¬ (f : Int) < 0 := by omega
        have hf0 : (0 : Int) ≤ (f : Int) := by omega
        have hfl : (f : Int) ≤ (st.length : Int) := by omega
        have hfL : f ≤ st.length := by omega
        have hB3 : Below wr.heap.size wr (wr.alloc (.cells #[.int .i64 n.kind, .int .i64 n.num, .string n.text, .string n.ref.sh, .int .i64 n.ref.c, .int .i64 n.ref.r, .bool n.ref.ac, .bool n.ref.ar, .string n.to.sh, .int .i64 n.to.c, .int .i64 n.to.r, .bool n.to.ac, .bool n.to.ar, .slice Ak m ck] 38)) := (Below.refl _ _).alloc (Nat.le_refl _) _
        have HN3 : NdAt (wr.alloc (.cells #[.int .i64 n.kind, .int .i64 n.num, .string n.text, .string n.ref.sh, .int .i64 n.ref.c, .int .i64 n.ref.r, .bool n.ref.ac, .bool n.ref.ar, .string n.to.sh, .int .i64 n.to.c, .int .i64 n.to.r, .bool n.to.ac, .bool n.to.ar, .slice Ak m ck] 38)) wr.heap.size n (.slice Ak m ck) := NdAt.new wr n _
        have HB3 := Lib.hid (HB.out.trans (hB3.mono HB.out.size))
        have HO3 := Lib.hid (HO.out.alloc (.cells #[.int .i64 n.kind, .int .i64 n.num, .string n.text, .string n.ref.sh, .int .i64 n.ref.c, .int .i64 n.ref.r, .bool n.ref.ac, .bool n.ref.ar, .string n.to.sh, .int .i64 n.to.c, .int .i64 n.to.r, .bool n.to.ac, .bool n.to.ar, .slice Ak m ck] 38))
        clear hB3
        go_upto_region 6 with (fail)
        generalize hb3 : wr.heap.size = b3 at HN3 ⊢
        generalize wr.alloc (.cells #[.int .i64 n.kind, .int .i64 n.num, .string n.text, .string n.ref.sh, .int .i64 n.ref.c, .int .i64 n.ref.r, .bool n.ref.ac, .bool n.ref.ar, .string n.to.sh, .int .i64 n.to.c, .int .i64 n.to.r, .bool n.to.ac, .bool n.to.ar, .slice Ak m ck] 38) = w3 at HN3 HB3 HO3 ⊢
        clear hb3 k0 k1 k2 k3 k4 k5 k6 k7 k8 k9 k10 k11 k12 k13 HO
        have HN3 := Lib.hid HN3
        have hflc : (f : Int) ≤ (rcap : Int) := by omega
        obtain ⟨AT, hAT⟩ : ∃ AT, (if rcap = f then some (⟨rg, 0, none⟩ : Addr) else some ⟨rg, f, none⟩) = AT := ⟨_, rfl⟩
        have HS1 := Lib.hid (show ∀ W, Below w3.heap.size w3 W → SI W w3.heap.size (.slice AT (st.length - f) (rcap - f)) (st.drop f) from fun W hW => by rw [← hAT]; exact (SI.tail HO3.out f hfL hrc hrm (by have := (HO3.out.blockLt rg rfl).2.1; exact this)).below hW (Nat.le_refl _))
        have HSK3 := Lib.hid (HSK.out.below HB3.out (Nat.le_refl _))
        by_cases hdk : st.drop f = n.kids
        rotate_left
        · have HT2 := Lib.hid (show treeB (vs.map (·.1)) = false by rw [HT.out, HD.out, treeF_cons, HM.out, hf, decide_eq_false hdk, Bool.false_and, Bool.and_false, Bool.and_false])
          have HEQ := Lib.hid (show ∀ W, Below w3.heap.size w3 W → Calls Tryz.prog 29 #[.slice AT (st.length - f) (rcap - f), .slice Ak m ck] W fun e w' => e = .returned (.bool false) ∧ Below W.heap.size W w' from fun W hW => by
            have := equal_any W w3.heap.size _ _ _ _ (HS1.out W hW) ((HSK3.out.mono HB3.out.size).below hW (Nat.le_refl _))
            rw [decide_eq_false hdk] at this; exact this)
          clear hml hdk hf hfL
          refine wp_region_held_drew (S := fun W => Below w3.heap.size w3 W) (by kernel_rfl) (Below.drew (Below.refl w3.heap.size w3)) (fun _ => ?_)
          show wpAnyH _ _ _ _ _ 16 #[false, false, false, false, false, false, false, false, false, false, false, false, false, false, false, false] _ _
          refine held_take (i := 0) (d := some 20) (fuel := 15) (listed' := #[true, false, false, false, false, false, false, false, false, false, false, false, false, false, false, false]) (v := ?_) rfl rfl (by kernel_rfl) (by kernel_rfl) (by kernel_rfl) rfl (fun _ _ _ h => h) (by rfl) ?_ (Below.drew (Below.refl w3.heap.size w3)) ?_
          rotate_left
          · (intro wS hSw; go_simp; try (with_reducible rfl))
          simp only [Act.put, List.setIfInBounds_toArray, List.set_cons_zero, List.set_cons_succ]
          refine held_take (i := 1) (d := some 21) (fuel := 14) (listed' := #[true, true, false, false, false, false, false, false, false, false, false, false, false, false, false, false]) (v := ?_) rfl rfl (by kernel_rfl) (by kernel_rfl) (by kernel_rfl) rfl (fun _ _ _ h => h) (by rfl) ?_ (Below.drew (Below.refl w3.heap.size w3)) ?_
          rotate_left
          · (intro wS hSw; go_simp; try (with_reducible rfl))
          simp only [Act.put, List.setIfInBounds_toArray, List.set_cons_zero, List.set_cons_succ]
          refine held_take (i := 2) (d := some 22) (fuel := 13) (listed' := #[true, true, true, false, false, false, false, false, false, false, false, false, false, false, false, false]) (v := ?_) rfl rfl (by kernel_rfl) (by kernel_rfl) (by kernel_rfl) rfl (fun _ _ _ h => h) (by rfl) ?_ (Below.drew (Below.refl w3.heap.size w3)) ?_
          rotate_left
          · (intro wS hSw; go_simp; try (with_reducible rfl))
          simp only [Act.put, List.setIfInBounds_toArray, List.set_cons_zero, List.set_cons_succ]
          refine held_take (i := 3) (d := some 23) (fuel := 12) (listed' := #[true, true, true, true, false, false, false, false, false, false, false, false, false, false, false, false]) (v := ?_) rfl rfl (by kernel_rfl) (by kernel_rfl) (by kernel_rfl) rfl (fun _ _ _ h => h) (by rfl) ?_ (Below.drew (Below.refl w3.heap.size w3)) ?_
          rotate_left
          · (intro wS hSw; go_simp; try (with_reducible rfl))
          simp only [Act.put, List.setIfInBounds_toArray, List.set_cons_zero, List.set_cons_succ]
          refine held_take (i := 4) (d := some 24) (fuel := 11) (listed' := #[true, true, true, true, true, false, false, false, false, false, false, false, false, false, false, false]) (v := ?_) rfl rfl (by kernel_rfl) (by kernel_rfl) (by kernel_rfl) rfl (fun _ _ _ h => h) (by rfl) ?_ (Below.drew (Below.refl w3.heap.size w3)) ?_
          rotate_left
          · (intro wS hSw; go_simp; try (with_reducible rfl))
          simp only [Act.put, List.setIfInBounds_toArray, List.set_cons_zero, List.set_cons_succ]
          refine held_take (i := 5) (d := some 25) (fuel := 10) (listed' := #[true, true, true, true, true, true, false, false, false, false, false, false, false, false, false, false]) (v := ?_) rfl rfl (by kernel_rfl) (by kernel_rfl) (by kernel_rfl) rfl (fun _ _ _ h => h) (by rfl) ?_ (Below.drew (Below.refl w3.heap.size w3)) ?_
          rotate_left
          · (intro wS hSw; go_simp; try (with_reducible rfl))
          simp only [Act.put, List.setIfInBounds_toArray, List.set_cons_zero, List.set_cons_succ]
          refine held_take (i := 6) (d := some 26) (fuel := 9) (listed' := #[true, true, true, true, true, true, true, false, false, false, false, false, false, false, false, false]) (v := ?_) rfl rfl (by kernel_rfl) (by kernel_rfl) (by kernel_rfl) rfl (fun _ _ _ h => h) (by rfl) ?_ (Below.drew (Below.refl w3.heap.size w3)) ?_
          rotate_left
          · (intro wS hSw; go_simp; try (with_reducible rfl))
          simp only [Act.put, List.setIfInBounds_toArray, List.set_cons_zero, List.set_cons_succ]
          refine held_take (i := 7) (d := some 27) (fuel := 8) (listed' := #[true, true, true, true, true, true, true, true, false, false, false, false, false, false, false, false]) (v := ?_) rfl rfl (by kernel_rfl) (by kernel_rfl) (by kernel_rfl) rfl (fun _ _ _ h => h) (by rfl) ?_ (Below.drew (Below.refl w3.heap.size w3)) ?_
          rotate_left
          · (intro wS hSw; have hz := (HN3.out.below hSw HN3.out.lt).cells; go_simp; try (with_reducible rfl))
          simp only [Act.put, List.setIfInBounds_toArray, List.set_cons_zero, List.set_cons_succ]
          refine held_one (i := 8) (d := some 28) (fuel := 7) (listed' := #[true, true, true, true, true, true, true, true, true, false, false, false, false, false, false, false]) rfl rfl (by kernel_rfl) rfl (by rfl) (fun K hK => ?_)
          go_simp
          refine (HEQ.out _ (Below.drew (Below.refl w3.heap.size w3))).mono ?_
          rintro e w4 ⟨rfl, h1⟩
          have HE := Lib.hid ((Below.drew (Below.refl w3.heap.size w3)).trans h1)
          clear h1
          go_wp2_with fail
          refine hK.out _ _ HE.out ?_
          clear hK K
          simp only [Act.put, List.setIfInBounds_toArray, List.set_cons_zero, List.set_cons_succ]
          refine held_take (i := 9) (d := some 29) (fuel := 6) (listed' := #[true, true, true, true, true, true, true, true, true, true, false, false, false, false, false, false]) (v := ?_) rfl rfl (by kernel_rfl) (by kernel_rfl) (by kernel_rfl) rfl (fun _ _ _ h => h) (by rfl) ?_ HE.out ?_
          rotate_left
          · (intro wS hSw; go_simp; try (with_reducible rfl))
          simp only [Act.put, List.setIfInBounds_toArray, List.set_cons_zero, List.set_cons_succ]
          refine held_take (i := 10) (d := some 30) (fuel := 5) (listed' := #[true, true, true, true, true, true, true, true, true, true, true, false, false, false, false, false]) (v := ?_) rfl rfl (by kernel_rfl) (by kernel_rfl) (by kernel_rfl) rfl (fun _ _ _ h => h) (by rfl) ?_ HE.out ?_
          rotate_left
          · (intro wS hSw; go_simp; try (with_reducible rfl))
          simp only [Act.put, List.setIfInBounds_toArray, List.set_cons_zero, List.set_cons_succ]
          refine held_take (i := 11) (d := some 31) (fuel := 4) (listed' := #[true, true, true, true, true, true, true, true, true, true, true, true, false, false, false, false]) (v := ?_) rfl rfl (by kernel_rfl) (by kernel_rfl) (by kernel_rfl) rfl (fun _ _ _ h => h) (by rfl) ?_ HE.out ?_
          rotate_left
          · (intro wS hSw; go_simp; try (with_reducible rfl))
          simp only [Act.put, List.setIfInBounds_toArray, List.set_cons_zero, List.set_cons_succ]
          refine held_skip (i := 12) (d := some 32) (fuel := 3) (listed' := #[true, true, true, true, true, true, true, true, true, true, true, true, true, false, false, false]) rfl rfl (by kernel_rfl) (by kernel_rfl) (by kernel_rfl) rfl (fun _ _ _ h => h) (by rfl) HE.out ?_
          simp only [Act.put, List.setIfInBounds_toArray, List.set_cons_zero, List.set_cons_succ]
          refine held_skip (i := 13) (d := some 33) (fuel := 2) (listed' := #[true, true, true, true, true, true, true, true, true, true, true, true, true, true, false, false]) rfl rfl (by kernel_rfl) (by kernel_rfl) (by kernel_rfl) rfl (fun _ _ _ h => h) (by rfl) HE.out ?_
          simp only [Act.put, List.setIfInBounds_toArray, List.set_cons_zero, List.set_cons_succ]
          refine held_skip (i := 14) (d := some 34) (fuel := 1) (listed' := #[true, true, true, true, true, true, true, true, true, true, true, true, true, true, true, false]) rfl rfl (by kernel_rfl) (by kernel_rfl) (by kernel_rfl) rfl (fun _ _ _ h => h) (by rfl) HE.out ?_
          simp only [Act.put, List.setIfInBounds_toArray, List.set_cons_zero, List.set_cons_succ]
          refine held_take (i := 15) (d := some 35) (fuel := 0) (listed' := #[true, true, true, true, true, true, true, true, true, true, true, true, true, true, true, true]) (v := ?_) rfl rfl (by kernel_rfl) (by kernel_rfl) (by kernel_rfl) rfl (fun _ _ _ h => h) (by rfl) ?_ HE.out ?_
          rotate_left
          · (intro wS hSw; go_simp; try (with_reducible rfl))
          simp only [Act.put, List.setIfInBounds_toArray, List.set_cons_zero, List.set_cons_succ]
          refine wpAnyH_done (by kernel_rfl) ?_ _
          go_wp2_with fail
          go_ret
          exact ⟨by rw [HT2.out] <;> rfl, HB3.out.trans (HE.out.mono HB3.out.size)⟩
        have HEQ := Lib.hid (show ∀ W, Below w3.heap.size w3 W → Calls Tryz.prog 29 #[.slice AT (st.length - f) (rcap - f), .slice Ak m ck] W fun e w' => e = .returned (.bool true) ∧ Below W.heap.size W w' from fun W hW => by
          have := equal_any W w3.heap.size _ _ _ _ (HS1.out W hW) ((HSK3.out.mono HB3.out.size).below hW (Nat.le_refl _))
          rw [decide_eq_true hdk] at this; exact this)
        have HDK := Lib.hid hdk
        cases hnb : nodeB n
        · have HT2 := Lib.hid (show treeB (vs.map (·.1)) = false by rw [HT.out, HD.out, treeF_cons, hnb, Bool.false_and])
          have HNO := Lib.hid (show ∀ W, Below w3.heap.size w3 W → Calls Tryz.prog 30 #[.agg #[.int .i64 n.kind, .int .i64 n.num, .string n.text, .string n.ref.sh, .int .i64 n.ref.c, .int .i64 n.ref.r, .bool n.ref.ac, .bool n.ref.ar, .string n.to.sh, .int .i64 n.to.c, .int .i64 n.to.r, .bool n.to.ac, .bool n.to.ar, .slice Ak m ck]] W fun e w' => e = .returned (.bool false) ∧ Below W.heap.size W w' from fun W hW => by
            have := isNode_any W n (HV.out.below (HB3.out.trans (hW.mono HB3.out.size))) HZ1.out HZ2.out HZ3.out Ak m ck HMM.out
            rw [← HM.out, isNd_eq, hnb] at this; rw [← HM.out]; exact this)
          clear hml hdk hf hfL hnb
          refine wp_region_held_drew (S := fun W => Below w3.heap.size w3 W) (by kernel_rfl) (Below.drew (Below.refl w3.heap.size w3)) (fun _ => ?_)
          show wpAnyH _ _ _ _ _ 16 #[false, false, false, false, false, false, false, false, false, false, false, false, false, false, false, false] _ _
          refine held_take (i := 0) (d := some 20) (fuel := 15) (listed' := #[true, false, false, false, false, false, false, false, false, false, false, false, false, false, false, false]) (v := ?_) rfl rfl (by kernel_rfl) (by kernel_rfl) (by kernel_rfl) rfl (fun _ _ _ h => h) (by rfl) ?_ (Below.drew (Below.refl w3.heap.size w3)) ?_
          rotate_left
          · (intro wS hSw; go_simp; try (with_reducible rfl))
          simp only [Act.put, List.setIfInBounds_toArray, List.set_cons_zero, List.set_cons_succ]
          refine held_take (i := 1) (d := some 21) (fuel := 14) (listed' := #[true, true, false, false, false, false, false, false, false, false, false, false, false, false, false, false]) (v := ?_) rfl rfl (by kernel_rfl) (by kernel_rfl) (by kernel_rfl) rfl (fun _ _ _ h => h) (by rfl) ?_ (Below.drew (Below.refl w3.heap.size w3)) ?_
          rotate_left
          · (intro wS hSw; go_simp; try (with_reducible rfl))
          simp only [Act.put, List.setIfInBounds_toArray, List.set_cons_zero, List.set_cons_succ]
          refine held_take (i := 2) (d := some 22) (fuel := 13) (listed' := #[true, true, true, false, false, false, false, false, false, false, false, false, false, false, false, false]) (v := ?_) rfl rfl (by kernel_rfl) (by kernel_rfl) (by kernel_rfl) rfl (fun _ _ _ h => h) (by rfl) ?_ (Below.drew (Below.refl w3.heap.size w3)) ?_
          rotate_left
          · (intro wS hSw; go_simp; try (with_reducible rfl))
          simp only [Act.put, List.setIfInBounds_toArray, List.set_cons_zero, List.set_cons_succ]
          refine held_take (i := 3) (d := some 23) (fuel := 12) (listed' := #[true, true, true, true, false, false, false, false, false, false, false, false, false, false, false, false]) (v := ?_) rfl rfl (by kernel_rfl) (by kernel_rfl) (by kernel_rfl) rfl (fun _ _ _ h => h) (by rfl) ?_ (Below.drew (Below.refl w3.heap.size w3)) ?_
          rotate_left
          · (intro wS hSw; go_simp; try (with_reducible rfl))
          simp only [Act.put, List.setIfInBounds_toArray, List.set_cons_zero, List.set_cons_succ]
          refine held_take (i := 4) (d := some 24) (fuel := 11) (listed' := #[true, true, true, true, true, false, false, false, false, false, false, false, false, false, false, false]) (v := ?_) rfl rfl (by kernel_rfl) (by kernel_rfl) (by kernel_rfl) rfl (fun _ _ _ h => h) (by rfl) ?_ (Below.drew (Below.refl w3.heap.size w3)) ?_
          rotate_left
          · (intro wS hSw; go_simp; try (with_reducible rfl))
          simp only [Act.put, List.setIfInBounds_toArray, List.set_cons_zero, List.set_cons_succ]
          refine held_take (i := 5) (d := some 25) (fuel := 10) (listed' := #[true, true, true, true, true, true, false, false, false, false, false, false, false, false, false, false]) (v := ?_) rfl rfl (by kernel_rfl) (by kernel_rfl) (by kernel_rfl) rfl (fun _ _ _ h => h) (by rfl) ?_ (Below.drew (Below.refl w3.heap.size w3)) ?_
          rotate_left
          · (intro wS hSw; go_simp; try (with_reducible rfl))
          simp only [Act.put, List.setIfInBounds_toArray, List.set_cons_zero, List.set_cons_succ]
          refine held_take (i := 6) (d := some 26) (fuel := 9) (listed' := #[true, true, true, true, true, true, true, false, false, false, false, false, false, false, false, false]) (v := ?_) rfl rfl (by kernel_rfl) (by kernel_rfl) (by kernel_rfl) rfl (fun _ _ _ h => h) (by rfl) ?_ (Below.drew (Below.refl w3.heap.size w3)) ?_
          rotate_left
          · (intro wS hSw; go_simp; try (with_reducible rfl))
          simp only [Act.put, List.setIfInBounds_toArray, List.set_cons_zero, List.set_cons_succ]
          refine held_take (i := 7) (d := some 27) (fuel := 8) (listed' := #[true, true, true, true, true, true, true, true, false, false, false, false, false, false, false, false]) (v := ?_) rfl rfl (by kernel_rfl) (by kernel_rfl) (by kernel_rfl) rfl (fun _ _ _ h => h) (by rfl) ?_ (Below.drew (Below.refl w3.heap.size w3)) ?_
          rotate_left
          · (intro wS hSw; have hz := (HN3.out.below hSw HN3.out.lt).cells; go_simp; try (with_reducible rfl))
          simp only [Act.put, List.setIfInBounds_toArray, List.set_cons_zero, List.set_cons_succ]
          refine held_one (i := 8) (d := some 28) (fuel := 7) (listed' := #[true, true, true, true, true, true, true, true, true, false, false, false, false, false, false, false]) rfl rfl (by kernel_rfl) rfl (by rfl) (fun K hK => ?_)
          go_simp
          refine (HEQ.out _ (Below.drew (Below.refl w3.heap.size w3))).mono ?_
          rintro e w4 ⟨rfl, h1⟩
          have HE := Lib.hid ((Below.drew (Below.refl w3.heap.size w3)).trans h1)
          clear h1
          go_wp2_with fail
          refine hK.out _ _ HE.out ?_
          clear hK K
          simp only [Act.put, List.setIfInBounds_toArray, List.set_cons_zero, List.set_cons_succ]
          refine held_take (i := 9) (d := some 29) (fuel := 6) (listed' := #[true, true, true, true, true, true, true, true, true, true, false, false, false, false, false, false]) (v := ?_) rfl rfl (by kernel_rfl) (by kernel_rfl) (by kernel_rfl) rfl (fun _ _ _ h => h) (by rfl) ?_ HE.out ?_
          rotate_left
          · (intro wS hSw; go_simp; try (with_reducible rfl))
          simp only [Act.put, List.setIfInBounds_toArray, List.set_cons_zero, List.set_cons_succ]
          refine held_take (i := 10) (d := some 30) (fuel := 5) (listed' := #[true, true, true, true, true, true, true, true, true, true, true, false, false, false, false, false]) (v := ?_) rfl rfl (by kernel_rfl) (by kernel_rfl) (by kernel_rfl) rfl (fun _ _ _ h => h) (by rfl) ?_ HE.out ?_
          rotate_left
          · (intro wS hSw; go_simp; try (with_reducible rfl))
          simp only [Act.put, List.setIfInBounds_toArray, List.set_cons_zero, List.set_cons_succ]
          refine held_take (i := 11) (d := some 31) (fuel := 4) (listed' := #[true, true, true, true, true, true, true, true, true, true, true, true, false, false, false, false]) (v := ?_) rfl rfl (by kernel_rfl) (by kernel_rfl) (by kernel_rfl) rfl (fun _ _ _ h => h) (by rfl) ?_ HE.out ?_
          rotate_left
          · (intro wS hSw; go_simp; try (with_reducible rfl))
          simp only [Act.put, List.setIfInBounds_toArray, List.set_cons_zero, List.set_cons_succ]
          refine held_take (i := 12) (d := some 32) (fuel := 3) (listed' := #[true, true, true, true, true, true, true, true, true, true, true, true, true, false, false, false]) (v := ?_) rfl rfl (by kernel_rfl) (by kernel_rfl) (by kernel_rfl) rfl (fun _ _ _ h => h) (by rfl) ?_ HE.out ?_
          rotate_left
          · (intro wS hSw; have hz := (HN3.out.below hSw HN3.out.lt).cells; go_simp; try (with_reducible rfl))
          simp only [Act.put, List.setIfInBounds_toArray, List.set_cons_zero, List.set_cons_succ]
          refine held_one (i := 13) (d := some 33) (fuel := 2) (listed' := #[true, true, true, true, true, true, true, true, true, true, true, true, true, true, false, false]) rfl rfl (by kernel_rfl) rfl (by rfl) (fun K hK => ?_)
          go_simp
          refine (HNO.out _ HE.out).mono ?_
          rintro e w5 ⟨rfl, h1⟩
          have HF := Lib.hid (HE.out.trans (h1.mono HE.out.size))
          clear h1
          go_wp2_with fail
          refine hK.out _ _ HF.out ?_
          clear hK K
          simp only [Act.put, List.setIfInBounds_toArray, List.set_cons_zero, List.set_cons_succ]
          refine held_take (i := 14) (d := some 34) (fuel := 1) (listed' := #[true, true, true, true, true, true, true, true, true, true, true, true, true, true, true, false]) (v := ?_) rfl rfl (by kernel_rfl) (by kernel_rfl) (by kernel_rfl) rfl (fun _ _ _ h => h) (by rfl) ?_ HF.out ?_
          rotate_left
          · (intro wS hSw; go_simp; try (with_reducible rfl))
          simp only [Act.put, List.setIfInBounds_toArray, List.set_cons_zero, List.set_cons_succ]
          refine held_take (i := 15) (d := some 35) (fuel := 0) (listed' := #[true, true, true, true, true, true, true, true, true, true, true, true, true, true, true, true]) (v := ?_) rfl rfl (by kernel_rfl) (by kernel_rfl) (by kernel_rfl) rfl (fun _ _ _ h => h) (by rfl) ?_ HF.out ?_
          rotate_left
          · (intro wS hSw; go_simp; try (with_reducible rfl))
          simp only [Act.put, List.setIfInBounds_toArray, List.set_cons_zero, List.set_cons_succ]
          refine wpAnyH_done (by kernel_rfl) ?_ _
          go_wp2_with fail
          go_ret
          exact ⟨by rw [HT2.out] <;> rfl, HB3.out.trans (HF.out.mono HB3.out.size)⟩
        · have HT2 := Lib.hid (show treeB (vs.map (·.1)) = treeF (st.take f ++ [(i : Int)]) (i + 1) ((vs.map (·.1)).drop (i + 1)) by rw [HT.out, HD.out, treeF_cons, hnb, HM.out, decide_eq_true hml, hf, decide_eq_true hdk, Bool.true_and, Bool.true_and, Bool.true_and])
          have HNO := Lib.hid (show ∀ W, Below w3.heap.size w3 W → Calls Tryz.prog 30 #[.agg #[.int .i64 n.kind, .int .i64 n.num, .string n.text, .string n.ref.sh, .int .i64 n.ref.c, .int .i64 n.ref.r, .bool n.ref.ac, .bool n.ref.ar, .string n.to.sh, .int .i64 n.to.c, .int .i64 n.to.r, .bool n.to.ac, .bool n.to.ar, .slice Ak m ck]] W fun e w' => e = .returned (.bool true) ∧ Below W.heap.size W w' from fun W hW => by
            have := isNode_any W n (HV.out.below (HB3.out.trans (hW.mono HB3.out.size))) HZ1.out HZ2.out HZ3.out Ak m ck HMM.out
            rw [← HM.out, isNd_eq, hnb] at this; rw [← HM.out]; exact this)
          clear hml hdk hnb
          refine wp_region_held_drew (S := fun W => Below w3.heap.size w3 W) (by kernel_rfl) (Below.drew (Below.refl w3.heap.size w3)) (fun _ => ?_)
          show wpAnyH _ _ _ _ _ 16 #[false, false, false, false, false, false, false, false, false, false, false, false, false, false, false, false] _ _
          refine held_take (i := 0) (d := some 20) (fuel := 15) (listed' := #[true, false, false, false, false, false, false, false, false, false, false, false, false, false, false, false]) (v := ?_) rfl rfl (by kernel_rfl) (by kernel_rfl) (by kernel_rfl) rfl (fun _ _ _ h => h) (by rfl) ?_ (Below.drew (Below.refl w3.heap.size w3)) ?_
          rotate_left
          · (intro wS hSw; go_simp; try (with_reducible rfl))
          simp only [Act.put, List.setIfInBounds_toArray, List.set_cons_zero, List.set_cons_succ]
          refine held_take (i := 1) (d := some 21) (fuel := 14) (listed' := #[true, true, false, false, false, false, false, false, false, false, false, false, false, false, false, false]) (v := ?_) rfl rfl (by kernel_rfl) (by kernel_rfl) (by kernel_rfl) rfl (fun _ _ _ h => h) (by rfl) ?_ (Below.drew (Below.refl w3.heap.size w3)) ?_
          rotate_left
          · (intro wS hSw; go_simp; try (with_reducible rfl))
          simp only [Act.put, List.setIfInBounds_toArray, List.set_cons_zero, List.set_cons_succ]
          refine held_take (i := 2) (d := some 22) (fuel := 13) (listed' := #[true, true, true, false, false, false, false, false, false, false, false, false, false, false, false, false]) (v := ?_) rfl rfl (by kernel_rfl) (by kernel_rfl) (by kernel_rfl) rfl (fun _ _ _ h => h) (by rfl) ?_ (Below.drew (Below.refl w3.heap.size w3)) ?_
          rotate_left
          · (intro wS hSw; go_simp; try (with_reducible rfl))
          simp only [Act.put, List.setIfInBounds_toArray, List.set_cons_zero, List.set_cons_succ]
          refine held_take (i := 3) (d := some 23) (fuel := 12) (listed' := #[true, true, true, true, false, false, false, false, false, false, false, false, false, false, false, false]) (v := ?_) rfl rfl (by kernel_rfl) (by kernel_rfl) (by kernel_rfl) rfl (fun _ _ _ h => h) (by rfl) ?_ (Below.drew (Below.refl w3.heap.size w3)) ?_
          rotate_left
          · (intro wS hSw; go_simp; try (with_reducible rfl))
          simp only [Act.put, List.setIfInBounds_toArray, List.set_cons_zero, List.set_cons_succ]
          refine held_take (i := 4) (d := some 24) (fuel := 11) (listed' := #[true, true, true, true, true, false, false, false, false, false, false, false, false, false, false, false]) (v := ?_) rfl rfl (by kernel_rfl) (by kernel_rfl) (by kernel_rfl) rfl (fun _ _ _ h => h) (by rfl) ?_ (Below.drew (Below.refl w3.heap.size w3)) ?_
          rotate_left
          · (intro wS hSw; go_simp; try (with_reducible rfl))
          simp only [Act.put, List.setIfInBounds_toArray, List.set_cons_zero, List.set_cons_succ]
          refine held_take (i := 5) (d := some 25) (fuel := 10) (listed' := #[true, true, true, true, true, true, false, false, false, false, false, false, false, false, false, false]) (v := ?_) rfl rfl (by kernel_rfl) (by kernel_rfl) (by kernel_rfl) rfl (fun _ _ _ h => h) (by rfl) ?_ (Below.drew (Below.refl w3.heap.size w3)) ?_
          rotate_left
          · (intro wS hSw; go_simp; try (with_reducible rfl))
          simp only [Act.put, List.setIfInBounds_toArray, List.set_cons_zero, List.set_cons_succ]
          refine held_take (i := 6) (d := some 26) (fuel := 9) (listed' := #[true, true, true, true, true, true, true, false, false, false, false, false, false, false, false, false]) (v := ?_) rfl rfl (by kernel_rfl) (by kernel_rfl) (by kernel_rfl) rfl (fun _ _ _ h => h) (by rfl) ?_ (Below.drew (Below.refl w3.heap.size w3)) ?_
          rotate_left
          · (intro wS hSw; go_simp; try (with_reducible rfl))
          simp only [Act.put, List.setIfInBounds_toArray, List.set_cons_zero, List.set_cons_succ]
          refine held_take (i := 7) (d := some 27) (fuel := 8) (listed' := #[true, true, true, true, true, true, true, true, false, false, false, false, false, false, false, false]) (v := ?_) rfl rfl (by kernel_rfl) (by kernel_rfl) (by kernel_rfl) rfl (fun _ _ _ h => h) (by rfl) ?_ (Below.drew (Below.refl w3.heap.size w3)) ?_
          rotate_left
          · (intro wS hSw; have hz := (HN3.out.below hSw HN3.out.lt).cells; go_simp; try (with_reducible rfl))
          simp only [Act.put, List.setIfInBounds_toArray, List.set_cons_zero, List.set_cons_succ]
          refine held_one (i := 8) (d := some 28) (fuel := 7) (listed' := #[true, true, true, true, true, true, true, true, true, false, false, false, false, false, false, false]) rfl rfl (by kernel_rfl) rfl (by rfl) (fun K hK => ?_)
          go_simp
          refine (HEQ.out _ (Below.drew (Below.refl w3.heap.size w3))).mono ?_
          rintro e w4 ⟨rfl, h1⟩
          have HE := Lib.hid ((Below.drew (Below.refl w3.heap.size w3)).trans h1)
          clear h1
          go_wp2_with fail
          refine hK.out _ _ HE.out ?_
          clear hK K
          simp only [Act.put, List.setIfInBounds_toArray, List.set_cons_zero, List.set_cons_succ]
          refine held_take (i := 9) (d := some 29) (fuel := 6) (listed' := #[true, true, true, true, true, true, true, true, true, true, false, false, false, false, false, false]) (v := ?_) rfl rfl (by kernel_rfl) (by kernel_rfl) (by kernel_rfl) rfl (fun _ _ _ h => h) (by rfl) ?_ HE.out ?_
          rotate_left
          · (intro wS hSw; go_simp; try (with_reducible rfl))
          simp only [Act.put, List.setIfInBounds_toArray, List.set_cons_zero, List.set_cons_succ]
          refine held_take (i := 10) (d := some 30) (fuel := 5) (listed' := #[true, true, true, true, true, true, true, true, true, true, true, false, false, false, false, false]) (v := ?_) rfl rfl (by kernel_rfl) (by kernel_rfl) (by kernel_rfl) rfl (fun _ _ _ h => h) (by rfl) ?_ HE.out ?_
          rotate_left
          · (intro wS hSw; go_simp; try (with_reducible rfl))
          simp only [Act.put, List.setIfInBounds_toArray, List.set_cons_zero, List.set_cons_succ]
          refine held_take (i := 11) (d := some 31) (fuel := 4) (listed' := #[true, true, true, true, true, true, true, true, true, true, true, true, false, false, false, false]) (v := ?_) rfl rfl (by kernel_rfl) (by kernel_rfl) (by kernel_rfl) rfl (fun _ _ _ h => h) (by rfl) ?_ HE.out ?_
          rotate_left
          · (intro wS hSw; go_simp; try (with_reducible rfl))
          simp only [Act.put, List.setIfInBounds_toArray, List.set_cons_zero, List.set_cons_succ]
          refine held_take (i := 12) (d := some 32) (fuel := 3) (listed' := #[true, true, true, true, true, true, true, true, true, true, true, true, true, false, false, false]) (v := ?_) rfl rfl (by kernel_rfl) (by kernel_rfl) (by kernel_rfl) rfl (fun _ _ _ h => h) (by rfl) ?_ HE.out ?_
          rotate_left
          · (intro wS hSw; have hz := (HN3.out.below hSw HN3.out.lt).cells; go_simp; try (with_reducible rfl))
          simp only [Act.put, List.setIfInBounds_toArray, List.set_cons_zero, List.set_cons_succ]
          refine held_one (i := 13) (d := some 33) (fuel := 2) (listed' := #[true, true, true, true, true, true, true, true, true, true, true, true, true, true, false, false]) rfl rfl (by kernel_rfl) rfl (by rfl) (fun K hK => ?_)
          go_simp
          refine (HNO.out _ HE.out).mono ?_
          rintro e w5 ⟨rfl, h1⟩
          have HF := Lib.hid (HE.out.trans (h1.mono HE.out.size))
          clear h1
          go_wp2_with fail
          refine hK.out _ _ HF.out ?_
          clear hK K
          simp only [Act.put, List.setIfInBounds_toArray, List.set_cons_zero, List.set_cons_succ]
          refine held_take (i := 14) (d := some 34) (fuel := 1) (listed' := #[true, true, true, true, true, true, true, true, true, true, true, true, true, true, true, false]) (v := ?_) rfl rfl (by kernel_rfl) (by kernel_rfl) (by kernel_rfl) rfl (fun _ _ _ h => h) (by rfl) ?_ HF.out ?_
          rotate_left
          · (intro wS hSw; go_simp; try (with_reducible rfl))
          simp only [Act.put, List.setIfInBounds_toArray, List.set_cons_zero, List.set_cons_succ]
          refine held_take (i := 15) (d := some 35) (fuel := 0) (listed' := #[true, true, true, true, true, true, true, true, true, true, true, true, true, true, true, true]) (v := ?_) rfl rfl (by kernel_rfl) (by kernel_rfl) (by kernel_rfl) rfl (fun _ _ _ h => h) (by rfl) ?_ HF.out ?_
          rotate_left
          · (intro wS hSw; go_simp; try (with_reducible rfl))
          simp only [Act.put, List.setIfInBounds_toArray, List.set_cons_zero, List.set_cons_succ]
          refine wpAnyH_done (by kernel_rfl) ?_ _
          have HB5 := Lib.hid (HB3.out.trans (HF.out.mono HB3.out.size))
          have HO5 := Lib.hid (HO3.out.below HF.out (Nat.le_refl _))
          have hlt5 : (st.take f).length ≤ 1000 := by rw [List.length_take]; omega
          go_wp2_with (at_builtin; refine wpList_app HEL.out (encInt .i64) rfl (.tmp 38) (.tmp 40) rfl w.heap.size (.slice (some ⟨rg, 0, none⟩) f rcap) (st.take f) rfl ((own_take HO5.out f hfL).alloc _) ⟨w5.heap.size, 0, none⟩ 1 1 [(i : Int)] rfl rfl ?_ ?_ ?_ ?_ ?_; exact cells_new _ _ _ rfl; exact Nat.le_trans (Nat.mul_le_mul_left _ hEB) (by omega); (unfold maxLen; omega); (have := HB5.out.size; simp <;> omega); intro kv' w6 h1 h2; have HO6 := Lib.hid h1; have HB6 := Lib.hid (((HB5.out.alloc HB5.out.size _)).trans h2); clear h1 h2)
          go_roundw
          case rel => exact ⟨i + 1, st.take f ++ [(i : Int)], kv', by omega, by rw [List.length_append, List.length_take, List.length_singleton]; omega, rfl, by go_num, HT2, HO6, HB6⟩
          case measure => simp [intOf]; omega
    · have hii : ¬ (i : Int) < (nl : Int) := by omega
      have hin : i = nl := by omega
      have HT2 := Lib.hid (show treeB (vs.map (·.1)) = decide (st.length = 1) by
        rw [HT.out, List.drop_of_length_le (by rw [List.length_map, HNL.out]; omega)]; rfl)
      rcases HO.out.shape with ⟨rfl, hst⟩ | ⟨rg, rcap, rfl, -⟩
      · rw [hst] at HT2
        go_wp2_with fail
        go_ret
        exact ⟨by rw [HT2.out] <;> rfl, HB.out⟩
      · by_cases h1 : st.length = 1
        · have h1i : ((st.length : Int) == 1) = true := by rw [beq_iff_eq]; omega
          rw [decide_eq_true h1] at HT2
          clear h1
          go_wp2_with fail
          go_ret
          exact ⟨by rw [HT2.out] <;> rfl, HB.out⟩
        · have h1i : ((st.length : Int) == 1) = false := by rw [beq_eq_false_iff_ne]; omega
          rw [decide_eq_false h1] at HT2
          clear h1
          go_wp2_with fail
          go_ret
          exact ⟨by rw [HT2.out] <;> rfl, HB.out⟩
end Go.Proofs.YtdfpalocnijefaaGreatDoor

/-
  Layer 5, the laws' parts: nodes that a call made, as an argument.
-/
namespace Go.Proofs.YtdfpalocnijefaaGreatDoor
open Go.RowKit

theorem Own.si {w : World} {lo : Nat} {v : Value} {xs : List Int} (h : Own (encInt .i64) 3 w lo v xs) : SI w w.heap.size v xs := by
  rcases h.shape with ⟨rfl, rfl⟩ | ⟨g, cap, rfl, h1, h2, h3, h4⟩
  · exact ⟨none, 0, rfl, Nat.le_refl _, by unfold maxLen; omega, .inl rfl⟩
  · refine ⟨_, cap, rfl, h3, h4, .inr ⟨g, 0, rfl, h2, fun j x hj => ?_⟩⟩
    rw [Nat.zero_add]
    have := (encInt .i64).at xs j 0 x hj (by omega)
    rw [Nat.mul_one, Nat.add_zero] at this
    exact Own.cells h j _ (by rw [this]; rfl)
theorem NodV.sn {w : World} {lo g n cap : Nat} {vs : List Nv} (h : NodV w lo (.slice (some ⟨g, 0, none⟩) n cap) vs) (hn : vs.length = n) : SN w w.heap.size (.slice (some ⟨g, 0, none⟩) n cap) (vs.map fun v => (v.n, v.kv)) := by
  refine ⟨⟨_, cap, by rw [List.length_map, hn], .inr ⟨g, 0, rfl, (Own.blockLt h.1 g rfl).2.1, fun i nd k hi j hj => ?_⟩⟩, ?_⟩
  · rw [List.getElem?_map] at hi
    obtain ⟨v, hv, e⟩ := Option.map_eq_some_iff.1 hi
    injection e with e1 e2; subst e1; subst e2
    rw [Nat.zero_add]; exact h.cell i v hv j hj
  · intro p hp
    obtain ⟨v, hv, rfl⟩ := List.mem_map.1 hp
    exact (h.2 v hv).si
theorem sn_fst (vs : List Nv) : (vs.map fun v => (v.n, v.kv)).map (·.1) = vs.map Nv.n := by rw [List.map_map]; rfl
end Go.Proofs.YtdfpalocnijefaaGreatDoor

/-
  Layer 5, without the program: the texts that nodes carry are tokens' texts.
-/
namespace Go.Proofs.YtdfpalocnijefaaGreatDoor
open Go.RowKit

def TS (M : Nat) (t : Tk) : Prop := t.text.size ≤ M ∧ t.sh.size ≤ M
def NS (M : Nat) (n : Nd) : Prop := n.text.size ≤ M ∧ n.ref.sh.size ≤ M ∧ n.to.sh.size ≤ M
def TSs (M : Nat) (ts : List Tk) : Prop := ∀ t ∈ ts, TS M t
def NSs (M : Nat) (ns : List Nd) : Prop := ∀ n ∈ ns, NS M n
theorem TSs.tail {M : Nat} {ts : List Tk} (h : TSs M ts) : TSs M ts.tail := fun t ht => h t (List.mem_of_mem_tail ht)
theorem NSs.app {M : Nat} {a b : List Nd} (h : NSs M a) (k : NSs M b) : NSs M (a ++ b) := fun n hn => (List.mem_append.1 hn).elim (h n) (k n)
theorem NSs.one {M : Nat} {n : Nd} (h : NS M n) : NSs M [n] := fun m hm => by rw [List.mem_singleton] at hm; subst hm; exact h
theorem NS.plain (M : Nat) (k n : Int) (ks : List Int) : NS M { Nd.zero with kind := k, num := n, kids := ks } := ⟨Nat.zero_le _, Nat.zero_le _, Nat.zero_le _⟩
theorem refP_sizes {M base : Nat} {t : Tk} {ts : List Tk} {ns : List Nd} {a : Nat} {r : List Tk} (ht : TS M t) (hs : TSs M ts) (h : refP base t ts = .ok (ns, a, r)) : NSs M ns ∧ TSs M r := by
  unfold refP at h
  split at h
  · split at h
    · rename_i u us hu
      split at h
      · injection h with h; injection h with h1 h2; injection h2 with h2 h3
        subst h1; subst h3
        have hus : TSs M (u :: us) := by rw [← hu]; exact hs.tail
        exact ⟨NSs.one ⟨Nat.zero_le _, ht.2, (hus u (by simp)).2⟩, fun x hx => hus x (by simp [hx])⟩
      · cases h
    · cases h
  · injection h with h; injection h with h1 h2; injection h2 with h2 h3
    subst h1; subst h3
    exact ⟨NSs.one ⟨Nat.zero_le _, ht.2, Nat.zero_le _⟩, hs⟩
theorem sizes_all (M : Nat) : ∀ f : Nat, (∀ n deep base ts ns a r, exprP f n deep base ts = some (.ok (ns, a, r)) → TSs M ts → NSs M ns ∧ TSs M r) ∧
    (∀ n deep base ns a ts ns' a' r, rowP f n deep base ns a ts = some (.ok (ns', a', r)) → TSs M ts → NSs M ns → NSs M ns' ∧ TSs M r) ∧
    (∀ deep base ts ns a r, primP f deep base ts = some (.ok (ns, a, r)) → TSs M ts → NSs M ns ∧ TSs M r) ∧
    (∀ deep base ns ks ts ns' ks' r, argsP f deep base ns ks ts = some (.ok (ns', ks', r)) → TSs M ts → NSs M ns → NSs M ns' ∧ TSs M r)
  | 0 => by
    refine ⟨?_, ?_, ?_, ?_⟩
    · intro n deep base ts ns a r h; unfold exprP at h; cases h
    · intro n deep base ns a ts ns' a' r h; unfold rowP at h; cases h
    · intro deep base ts ns a r h; unfold primP at h; cases h
    · intro deep base ns ks ts ns' ks' r h; unfold argsP at h; cases h
  | f + 1 => by
    obtain ⟨i1, i2, i3, i4⟩ := sizes_all M f
    refine ⟨?_, ?_, ?_, ?_⟩
    · intro n deep base ts ns a r h ht
      rw [exprP_succ] at h
      by_cases c : n ≤ 3
      · rw [if_pos c] at h
        rcases bindR_some h with ⟨e, _, h2⟩ | ⟨ms, b, s, h1, h2⟩
        · cases h2
        · obtain ⟨k1, k2⟩ := i1 _ _ _ _ _ _ _ h1 ht
          exact i2 _ _ _ _ _ _ _ _ _ h2 k2 k1
      · rw [if_neg c] at h
        by_cases d : signIs ⟨#[45]⟩ ts = true
        · rw [if_pos d] at h
          by_cases d2 : 12 ≤ deep
          · rw [if_pos d2] at h; cases h
          · rw [if_neg d2] at h
            rcases bindR_some h with ⟨e, _, h2⟩ | ⟨ms, b, s, h1, h2⟩
            · cases h2
            · obtain ⟨k1, k2⟩ := i1 _ _ _ _ _ _ _ h1 ht.tail
              injection h2 with h2; injection h2 with h2; injection h2 with h3 h4; injection h4 with h4 h5
              subst h3; subst h4; subst h5
              exact ⟨k1.app (NSs.one (NS.plain _ _ _ _)), k2⟩
        · rw [if_neg d] at h; exact i3 _ _ _ _ _ _ h ht
    · intro n deep base ns a ts ns' a' r h ht hn
      rw [rowP_succ] at h
      by_cases c : opK n ts = 0
      · rw [if_pos c] at h
        injection h with h; injection h with h; injection h with h1 h2; injection h2 with h2 h3
        subst h1; subst h2; subst h3
        exact ⟨hn, ht⟩
      · rw [if_neg c] at h
        rcases bindR_some h with ⟨e, _, h2⟩ | ⟨ms, b, s, h1, h2⟩
        · cases h2
        · obtain ⟨k1, k2⟩ := i1 _ _ _ _ _ _ _ h1 ht.tail
          exact i2 _ _ _ _ _ _ _ _ _ h2 k2 (hn.app (k1.app (NSs.one (NS.plain _ _ _ _))))
    · intro deep base ts ns a r h ht
      cases ts with
      | nil => rw [primP_nil] at h; cases h
      | cons t ts =>
        have h0 : TS M t := ht t (by simp)
        have hts : TSs M ts := fun x hx => ht x (by simp [hx])
        have leaf : ∀ (x : Nd), NS M x → (some (.ok ([x], base, ts)) : Option Res) = some (.ok (ns, a, r)) → NSs M ns ∧ TSs M r := by
          intro x hk h
          injection h with h; injection h with h; injection h with h1 h2; injection h2 with h2 h3
          subst h1; subst h2; subst h3
          exact ⟨NSs.one hk, hts⟩
        rw [primP_cons] at h
        by_cases c1 : signIs ⟨#[40]⟩ (t :: ts) = true
        · rw [if_pos c1] at h
          by_cases d2 : 12 ≤ deep
          · rw [if_pos d2] at h; cases h
          · rw [if_neg d2] at h
            rcases bindR_some h with ⟨e, _, h2⟩ | ⟨ms, b, s, h1, h2⟩
            · cases h2
            · obtain ⟨k1, k2⟩ := i1 _ _ _ _ _ _ _ h1 hts
              split at h2
              · injection h2 with h2; injection h2 with h2; injection h2 with h3 h4; injection h4 with h4 h5
                subst h3; subst h4; subst h5
                exact ⟨k1, k2.tail⟩
              · cases h2
        rw [if_neg c1] at h
        by_cases c2 : t.kind = 1
        · rw [if_pos c2] at h; exact leaf _ (NS.plain _ _ _ _) h
        rw [if_neg c2] at h
        by_cases c3 : t.kind = 2
        · rw [if_pos c3] at h; exact leaf _ ⟨h0.1, Nat.zero_le _, Nat.zero_le _⟩ h
        rw [if_neg c3] at h
        by_cases c4 : t.kind = 6
        · rw [if_pos c4] at h; exact leaf _ (NS.plain _ _ _ _) h
        rw [if_neg c4] at h
        by_cases c5 : t.kind = 4
        · rw [if_pos c5] at h; injection h with h; exact refP_sizes h0 hts h
        rw [if_neg c5] at h
        by_cases c6 : t.kind = 3
        · rw [if_pos c6] at h
          by_cases e1 : t.text = ⟨#[84, 82, 85, 69]⟩
          · rw [if_pos e1] at h; exact leaf _ (NS.plain _ _ _ _) h
          rw [if_neg e1] at h
          by_cases e2 : t.text = ⟨#[70, 65, 76, 83, 69]⟩
          · rw [if_pos e2] at h; exact leaf _ (NS.plain _ _ _ _) h
          rw [if_neg e2] at h
          by_cases e3 : signIs ⟨#[40]⟩ ts = true
          · rw [if_pos e3] at h
            by_cases d2 : 12 ≤ deep
            · rw [if_pos d2] at h; cases h
            · rw [if_neg d2] at h
              rcases bindR_some h with ⟨e, _, h2⟩ | ⟨ms, ks, s, h1, h2⟩
              · cases h2
              · have hk : NSs M ms ∧ TSs M s := by
                  split at h1
                  · injection h1 with h1; injection h1 with h1; injection h1 with h3 h4; injection h4 with h4 h5
                    subst h3; subst h5
                    exact ⟨fun _ h => absurd h (by simp), hts.tail⟩
                  · exact i4 _ _ _ _ _ _ _ _ h1 hts.tail (fun _ h => absurd h (by simp))
                split at h2
                · injection h2 with h2; injection h2 with h2; injection h2 with h3 h4; injection h4 with h4 h5
                  subst h3; subst h4; subst h5
                  exact ⟨hk.1.app (NSs.one ⟨h0.1, Nat.zero_le _, Nat.zero_le _⟩), hk.2.tail⟩
                · cases h2
          · rw [if_neg e3] at h; cases h
        · rw [if_neg c6] at h; cases h
    · intro deep base ns ks ts ns' ks' r h ht hn
      rw [argsP_succ] at h
      rcases bindR_some h with ⟨e, _, h2⟩ | ⟨ms, b, s, h1, h2⟩
      · cases h2
      · obtain ⟨k1, k2⟩ := i1 _ _ _ _ _ _ _ h1 ht
        split at h2
        · exact i4 _ _ _ _ _ _ _ _ h2 k2.tail (hn.app k1)
        · injection h2 with h2; injection h2 with h2; injection h2 with h3 h4; injection h4 with h4 h5
          subst h3; subst h4; subst h5
          exact ⟨hn.app k1, k2⟩
theorem parseP_sizes {M f : Nat} {ts : List Tk} {ns : List Nd} (h : parseP f ts = some (.ok ns)) (ht : TSs M ts) : NSs M ns := by
  unfold parseP at h
  rcases bindR_some h with ⟨e, _, h2⟩ | ⟨ms, b, s, h1, h2⟩
  · cases h2
  · split at h2
    · injection h2 with h2; injection h2 with h2; subst h2
      exact ((sizes_all M f).1 _ _ _ _ _ _ _ h1 ht).1
    · cases h2
end Go.Proofs.YtdfpalocnijefaaGreatDoor

/-
  Layer 5, without the program: tokens' texts are no longer than the text.
-/
namespace Go.Proofs.YtdfpalocnijefaaGreatDoor
open Go.RowKit

theorem strN_size {l : List Int} (h : Bytes l) : (strOfNums l).size = l.length := by rw [← length_sb, sb_str _ h]
theorem quoF_size : ∀ (n : Nat) (l : List Int) (t : List Int) (k : Nat), l.length ≤ n → quoF l = some (t, k) → t.length ≤ l.length
  | _, [], _, _, _, h => by simp [quoF] at h
  | 0, _ :: _, _, _, hn, _ => by simp at hn
  | n + 1, x :: l, t, k, hn, h => by
    rw [quoF_cons] at h
    by_cases h1 : x < 32
    · rw [if_pos h1] at h; cases h
    · rw [if_neg h1] at h
      by_cases h2 : x ≠ 34
      · rw [if_pos h2] at h
        cases hq : quoF l with
        | none => rw [hq] at h; cases h
        | some q =>
          rw [hq] at h
          simp only [Option.map_some, Option.some.injEq, Prod.mk.injEq] at h
          have := quoF_size n l q.1 q.2 (by simp at hn; omega) hq
          rw [← h.1]; simp only [List.length_cons]; omega
      · rw [if_neg h2] at h
        cases l with
        | nil => simp only [Option.some.injEq, Prod.mk.injEq] at h; rw [← h.1]; simp
        | cons y m =>
          simp only at h
          by_cases h3 : y = 34
          · rw [if_pos h3] at h
            cases hq : quoF m with
            | none => rw [hq] at h; cases h
            | some q =>
              rw [hq] at h
              simp only [Option.map_some, Option.some.injEq, Prod.mk.injEq] at h
              have := quoF_size n m q.1 q.2 (by simp at hn; omega) hq
              rw [← h.1]; simp only [List.length_cons]; omega
          · rw [if_neg h3] at h
            simp only [Option.some.injEq, Prod.mk.injEq] at h; rw [← h.1]; simp
theorem textL_size (sh : List Int) (c r : Int) (ac ar : Bool) (hm : mayL sh c r = true) : sh.length ≤ (textL sh c r ac ar).length := by
  unfold textL
  rw [if_pos hm]
  by_cases h : sh = []
  · rw [h]; exact Nat.zero_le _
  · rw [if_neg h]; simp only [List.length_append]; omega
theorem tokT_size (l : List Int) (t : Tk) (n p M : Nat) (hb : Bytes l) (hM : l.length ≤ M) (h : tokT l = some (t, n)) : TS M (t.goto p) := by
  have z : (⟨#[]⟩ : ByteArray).size ≤ M := Nat.zero_le _
  cases l with
  | nil => simp [tokT] at h
  | cons x l =>
    have hspan : ∀ q : Int → Bool, ((x :: l).takeWhile q).length ≤ M := fun q => Nat.le_trans (take_le q _) hM
    rw [tokT_cons] at h
    by_cases h1 : isNum x = true
    · rw [if_pos h1] at h
      unfold numT at h
      split at h
      · cases h
      · simp only [Option.some.injEq, Prod.mk.injEq] at h
        rw [← h.1]; exact ⟨z, z⟩
    · rw [if_neg h1] at h
      by_cases h2 : x = 34
      · rw [if_pos h2] at h
        unfold quoT at h
        cases hq : quoF l with
        | none => rw [hq] at h; cases h
        | some q =>
          rw [hq] at h
          simp only [Option.map_some, Option.some.injEq, Prod.mk.injEq] at h
          obtain ⟨g1, g2⟩ := quoF_good _ l q.1 q.2 (Nat.le_refl _) (fun y hy => hb y (by simp [hy])) hq
          rw [← h.1]
          refine ⟨?_, z⟩
          show (strOfNums q.1).size ≤ M
          rw [strN_size g1]
          have := quoF_size _ l q.1 q.2 (Nat.le_refl _) hq
          simp only [List.length_cons] at hM; omega
      · rw [if_neg h2] at h
        by_cases h3 : x = 35
        · rw [if_pos h3] at h
          unfold deadT at h
          split at h
          · simp only [Option.some.injEq, Prod.mk.injEq] at h
            rw [← h.1]; exact ⟨z, z⟩
          · cases h
        · rw [if_neg h3] at h
          by_cases h4 : isLet x = true ∨ x = 36
          · rw [if_pos h4] at h
            unfold wordT at h
            cases hq : readS (strOfNums ((x :: l).takeWhile isWord)) with
            | some d =>
              rw [hq] at h
              simp only [Option.some.injEq, Prod.mk.injEq] at h
              rw [← h.1]
              refine ⟨z, ?_⟩
              show d.sh.size ≤ M
              have e := (read_some _ d hq).2.2
              rw [sb_str _ (hb.span isWord)] at e
              have k1 := textL_size (sb d.sh) d.c d.r d.ac d.ar (read_some _ d hq).2.1
              rw [e, length_sb] at k1
              exact Nat.le_trans k1 (hspan isWord)
            | none =>
              rw [hq] at h
              simp only at h
              by_cases hc : calledL ((x :: l).takeWhile isWord) = true
              · rw [if_pos hc] at h
                simp only [Option.some.injEq, Prod.mk.injEq] at h
                rw [← h.1]
                refine ⟨?_, z⟩
                show (strOfNums ((x :: l).takeWhile isWord)).size ≤ M
                rw [strN_size (hb.span isWord)]; exact hspan isWord
              · rw [if_neg hc] at h; cases h
          · rw [if_neg h4] at h
            unfold signT at h
            split at h
            · cases h
            · simp only [Option.some.injEq, Prod.mk.injEq] at h
              rw [← h.1]
              refine ⟨?_, z⟩
              show (strOfNums ((x :: l).take (signN (x :: l)))).size ≤ M
              rw [strN_size (fun y hy => hb y (List.mem_of_mem_take hy)), List.length_take]; omega
theorem lexF_sizes (M : Nat) : ∀ (f p : Nat) (l : List Int) (ts : List Tk), Bytes l → l.length ≤ M → lexF f p l = some ts → TSs M ts
  | f, p, [], ts, _, _, h => by
    have h0 : lexF f p [] = some [Tk.zero.goto p] := by unfold lexF; rfl
    rw [h0] at h; injection h with h; subst h
    intro t ht; rw [List.mem_singleton] at ht; subst ht
    exact ⟨Nat.zero_le _, Nat.zero_le _⟩
  | 0, _, _ :: _, _, _, _, h => by unfold lexF at h; cases h
  | f + 1, p, x :: l, ts, hb, hM, h => by
    have hbl : Bytes l := fun y hy => hb y (by simp [hy])
    rw [lexF_cons] at h
    by_cases hx : x = 32
    · rw [if_pos hx] at h
      exact lexF_sizes M f (p + 1) l ts hbl (by simp only [List.length_cons] at hM; omega) h
    · rw [if_neg hx] at h
      cases hq : tokT (x :: l) with
      | none => rw [hq] at h; cases h
      | some q =>
        obtain ⟨t0, n⟩ := q
        rw [hq] at h
        simp only [Option.map_eq_some_iff] at h
        obtain ⟨us, h1, rfl⟩ := h
        have k1 := lexF_sizes M f (p + n) _ us (fun y hy => hb y (List.mem_of_mem_drop hy)) (by rw [List.length_drop]; omega) h1
        intro t ht
        rcases List.mem_cons.1 ht with rfl | ht
        · exact tokT_size (x :: l) t0 n p M hb hM hq
        · exact k1 t ht
end Go.Proofs.YtdfpalocnijefaaGreatDoor

/-
  'chequerlaw5.ParseOrder', walked: the text.
-/
namespace Go.Proofs.YtdfpalocnijefaaGreatDoor
open Go.RowKit

def sgnA : Array Value := #[.string ⟨#[61]⟩, .string ⟨#[60, 62]⟩, .string ⟨#[60]⟩, .string ⟨#[60, 61]⟩, .string ⟨#[62]⟩, .string ⟨#[62, 61]⟩, .string ⟨#[38]⟩, .string ⟨#[43]⟩, .string ⟨#[45]⟩, .string ⟨#[42]⟩, .string ⟨#[47]⟩]
def rkA : Array Value := #[.int .i64 0, .int .i64 0, .int .i64 0, .int .i64 0, .int .i64 0, .int .i64 0, .int .i64 1, .int .i64 2, .int .i64 2, .int .i64 3, .int .i64 3]
theorem sgn_at (o : Nat) (ho : o < 11) : sgnA.toList[o]? = some (.string (opS.getD o ⟨#[]⟩)) := by
  match o, ho with
  | 0, _ => rfl
  | 1, _ => rfl
  | 2, _ => rfl
  | 3, _ => rfl
  | 4, _ => rfl
  | 5, _ => rfl
  | 6, _ => rfl
  | 7, _ => rfl
  | 8, _ => rfl
  | 9, _ => rfl
  | 10, _ => rfl
  | o + 11, h => omega
theorem rk_at (o : Nat) (ho : o < 11) : rkA.toList[o]? = some (.int .i64 (rk o : Nat)) := by
  match o, ho with
  | 0, _ => rfl
  | 1, _ => rfl
  | 2, _ => rfl
  | 3, _ => rfl
  | 4, _ => rfl
  | 5, _ => rfl
  | 6, _ => rfl
  | 7, _ => rfl
  | 8, _ => rfl
  | 9, _ => rfl
  | 10, _ => rfl
  | o + 11, h => omega
theorem drewB {w w' : World} {c : Nat} (h : Below c w w') (n : Nat) : Below c w (w'.drewN n) := ⟨h.os, h.tape, h.output, h.size, h.block⟩
theorem PIs_sizes (s : ByteArray) (ns : List Nd) (h : PIs s (.ok ns)) : ∀ n ∈ ns, n.text.size ≤ 1000000 ∧ n.ref.sh.size ≤ 1000000 ∧ n.to.sh.size ≤ 1000000 := by
  rcases h with ⟨_, h⟩ | ⟨_, _, h⟩ | ⟨h0, ts, f, h1, h2⟩
  · cases h
  · cases h
  · exact parseP_sizes h2 (lexF_sizes 1000000 _ _ _ _ (fun x hx => sb_bd s x hx) (by rw [length_sb]; omega) h1)
structure Two (w : World) (b : Nat) : Prop where
  s : w.heap[b]? = some (.cells sgnA 9)
  r : w.heap[b + 1]? = some (.cells rkA 3)
theorem Two.below {w w' : World} {b B : Nat} (h : Two w b) (hb : Below B w w') (hB : b + 1 < B) : Two w' b :=
  ⟨by rw [hb.block b (by omega)]; exact h.s, by rw [hb.block (b + 1) hB]; exact h.r⟩
theorem Two.sgn {w : World} {b : Nat} (h : Two w b) (o : Nat) (ho : o < 11) : w.cell? ⟨b, o, none⟩ = some (.string (opS.getD o ⟨#[]⟩)) := by
  rw [cell_of_row w b o _ _ _ h.s, ← Array.getElem?_toList]; exact sgn_at o ho
theorem Two.rk {w : World} {b : Nat} (h : Two w b) (o : Nat) (ho : o < 11) : w.cell? ⟨b + 1, o, none⟩ = some (.int .i64 (rk o : Nat)) := by
  rw [cell_of_row w (b + 1) o _ _ _ h.r, ← Array.getElem?_toList]; exact rk_at o ho
theorem Two.new (w : World) : Two ((w.alloc (.cells sgnA 9)).alloc (.cells rkA 3)) w.heap.size := by
  have h1 := Go.MapKept.heap_alloc w (.cells sgnA 9)
  have h2 := Go.MapKept.heap_alloc (w.alloc (.cells sgnA 9)) (.cells rkA 3)
  have hz : (w.alloc (.cells sgnA 9)).heap.size = w.heap.size + 1 := by simp
  refine ⟨?_, ?_⟩
  · rw [h2.2 _ (by omega)]; exact h1.1
  · rw [← hz]; exact h2.1
theorem sb_digO (u : Nat) : sb (strOfNums (digL u)) = digL u := sb_str _ (fun x hx => by have := num_bd (isNum_digL u x hx); omega)
theorem dig2 (u : Nat) (h : u < 100) : (digL u).length ≤ 2 := by
  by_cases hu : u < 10
  · rw [digL_small u hu]; simp
  · rw [digL_more u hu, digL_small (u / 10) (by omega)]; simp
theorem size_dig2 (u : Nat) (h : u < 100) : (strOfNums (digL u)).size ≤ 2 := by
  rw [← length_sb, sb_digO]; exact dig2 u h

set_option maxRecDepth 100000 in
set_option maxHeartbeats 8000000 in
theorem parseOrder_any (A : Option Addr) (L cap : Nat) (xs : List Int) (w : World) (hx : S8 w w.heap.size A L cap xs) (hv : Vars w) (ho : OpV w) :
    Calls Tryz.prog 5 #[.slice A L cap] w fun e w' => e = .returned (.bool true) ∧ Below w.heap.size w w' := by
  have HV := Lib.hid hv; have HO := Lib.hid ho; have HX := Lib.hid hx
  have hlm : L ≤ maxLen := Nat.le_trans hx.le hx.max
  have hlx : L ≤ 9223372036854775807 := by unfold maxLen at hlm; omega
  have HSIZE := Lib.hid PIs_sizes
  clear hv ho hx hlm
  go_enter Tryz.func5, Tryz.ntmps5
  go_upto_region 3 with (fail)
  have HB1 := Lib.hid (show Below w.heap.size w ((w.alloc (.cells sgnA 9)).alloc (.cells rkA 3)) from ((Below.refl w.heap.size w).alloc (Nat.le_refl _) _).alloc (by simp) _)
  have HT1 := Lib.hid (Two.new w)
  have hz1 : w.heap.size + 2 = ((w.alloc (.cells sgnA 9)).alloc (.cells rkA 3)).heap.size := by simp
  unfold sgnA rkA at HB1 HT1 hz1
  generalize (w.alloc _).alloc _ = w1 at HB1 HT1 hz1 ⊢
  have HV1 := Lib.hid (HV.out.below HB1.out); have HO1 := Lib.hid (HO.out.below HB1.out)
  obtain ⟨b, hb⟩ : ∃ b, w.heap.size = b := ⟨_, rfl⟩
  rw [hb] at HB1 HT1 hz1 HX ⊢
  by_cases h0 : L = 0
  · subst h0
    go_wp2_with (first
      | (go_at_call 10; ((with_reducible refine (awake5_any _ HV1.out HO1.out).mono ?_); rintro e w3 ⟨rfl, h1⟩; have HB3 := Lib.hid (HB1.out.trans (h1.mono (by omega))); clear h1)))
    go_ret
    exact ⟨rfl, by first | exact HB3.out | (rw [hb]; exact HB3.out)⟩
  by_cases h20 : 20 < L
  · have h20i : (20 : Int) < (L : Int) := by omega
    have h0i : ¬ (L : Int) = 0 := by omega
    go_wp2_with (first
      | (go_at_call 10; ((with_reducible refine (awake5_any _ HV1.out HO1.out).mono ?_); rintro e w3 ⟨rfl, h1⟩; have HB3 := Lib.hid (HB1.out.trans (h1.mono (by omega))); clear h1)))
    go_ret
    exact ⟨rfl, by first | exact HB3.out | (rw [hb]; exact HB3.out)⟩
  have h20i : ¬ (20 : Int) < (L : Int) := by omega
  have h0i : ¬ (L : Int) = 0 := by omega
  obtain ⟨os, hos⟩ : ∃ os, opsOf xs = os := ⟨_, rfl⟩
  have hosl : os.length = L := by rw [← hos, opsOf, List.length_map]; exact HX.out.hlen
  have HOS := Lib.hid hos
  have HOL := Lib.hid hosl
  have HX1 := Lib.hid (HX.out.below HB1.out (Nat.le_refl _))
  rcases HX1.out.at_ with e | ⟨pb, po, rfl, hpb, hcell⟩
  · exact absurd e h0
  have HCELL := Lib.hid hcell
  clear hcell hos hosl
  go_upto_region 8 with (fail)
  go_loopw [5, 6, 7] (fun sv tv iv wr => ∃ (i k : Nat) (S : ByteArray), i ≤ L ∧ sv = .string S ∧ tv = .int .i64 (k : Int) ∧ iv = .int .i64 (i : Int) ∧ S.size ≤ 1 + 4 * i ∧ Hid (sb S = 48 :: opsL 0 (os.take i)) ∧ k ≤ i ∧ k < L ∧ Hid ((i = 0 ∧ k = 0) ∨ TopOf os i k) ∧ Hid (Below w1.heap.size w1 wr))
    (fun _ _ iv _ => L - (intOf iv).toNat)
  case atStart => exact ⟨0, 0, ⟨#[48]⟩, Nat.zero_le _, rfl, rfl, rfl, by decide, Lib.hid rfl, Nat.le_refl _, by omega, Lib.hid (.inl ⟨rfl, rfl⟩), Lib.hid (Below.refl _ _)⟩
  case round =>
    obtain ⟨i, k, S, hi, rfl, rfl, rfl, hS, HS, hki, hkL, HTop, HB⟩ := hrel
    by_cases hlt : i < L
    · have hii : (i : Int) < (L : Int) := by omega
      obtain ⟨n, hn, hn255⟩ : ∃ n : Nat, xs.getD i 0 = (n : Int) ∧ n ≤ 255 := by
        have := HX1.out.bytes (xs.getD i 0) (by rw [List.getD_eq_getElem?_getD, List.getElem?_eq_getElem (by rw [HX1.out.hlen]; exact hlt)]; exact List.getElem_mem _)
        exact ⟨(xs.getD i 0).toNat, by omega, by omega⟩
      obtain ⟨m, hm, hm255⟩ : ∃ m : Nat, xs.getD k 0 = (m : Int) ∧ m ≤ 255 := by
        have := HX1.out.bytes (xs.getD k 0) (by rw [List.getD_eq_getElem?_getD, List.getElem?_eq_getElem (by rw [HX1.out.hlen]; exact hkL)]; exact List.getElem_mem _)
        exact ⟨(xs.getD k 0).toNat, by omega, by omega⟩
      obtain ⟨o, hno⟩ : ∃ o, n % 11 = o := ⟨_, rfl⟩
      obtain ⟨q, hmq⟩ : ∃ q, m % 11 = q := ⟨_, rfl⟩
      have hwn : IntKind.i64.wrap (n : Int) = (n : Int) := by rw [IntKind.wrap_i64]; omega
      have hwm : IntKind.i64.wrap (m : Int) = (m : Int) := by rw [IntKind.wrap_i64]; omega
      have hoi : Int.tmod (n : Int) 11 = (o : Int) := by rw [Int.tmod_eq_emod_of_nonneg (by omega)]; omega
      have hqi : Int.tmod (m : Int) 11 = (q : Int) := by rw [Int.tmod_eq_emod_of_nonneg (by omega)]; omega
      have hwi : IntKind.i64.wrap ((i : Int) + 1) = (i : Int) + 1 := by rw [IntKind.wrap_i64]; omega
      have hw1 : -9223372036854775808 ≤ (i : Int) + 1 := by omega
      have hw2 : (i : Int) + 1 ≤ 9223372036854775807 := by omega
      have ho0 : (0 : Int) ≤ (o : Int) := by omega
      have hq0 : (0 : Int) ≤ (q : Int) := by omega
      have ho11 : o < 11 := by omega
      have hq11 : q < 11 := by omega
      have ho11i : (o : Int) < 11 := by omega
      have hq11i : (q : Int) < 11 := by omega
      have HAo := Lib.hid (show os[i]? = some o by rw [← HOS.out, opsOf_at xs i n (by rw [HX1.out.hlen]; exact hlt) hn, hno])
      have HAq := Lib.hid (show os[k]? = some q by rw [← HOS.out, opsOf_at xs k m (by rw [HX1.out.hlen]; exact hkL) hm, hmq])
      have HN := Lib.hid hn; have HM := Lib.hid hm
      clear hn hm hno hmq
      obtain ⟨T, hT⟩ : ∃ T, opS.getD o ⟨#[]⟩ = T := ⟨_, rfl⟩
      have hTz : T.size ≤ 2 := by rw [← hT]; exact opL_len o ho11
      have HTS := Lib.hid hT
      clear hT
      obtain ⟨D, hD⟩ : ∃ D, strOfNums (digL (i + 1)) = D := ⟨_, rfl⟩
      have hDz : D.size ≤ 2 := by rw [← hD]; exact size_dig2 (i + 1) (by omega)
      have HD := Lib.hid hD
      clear hD
      generalize hw3 : wr = w3 at HB ⊢
      clear hw3
      have HCC := Lib.hid (show ∀ W, Below w3.heap.size w3 W → W.cell? ⟨pb, po + i, none⟩ = some (.int .u8 (n : Int)) ∧ W.cell? ⟨b, o, none⟩ = some (.string T) ∧ W.cell? ⟨pb, po + k, none⟩ = some (.int .u8 (m : Int)) ∧ W.cell? ⟨b + 1, o, none⟩ = some (.int .i64 (rk o : Nat)) ∧ W.cell? ⟨b + 1, q, none⟩ = some (.int .i64 (rk q : Nat)) from fun W hW => by
        have hW1 : Below w1.heap.size w1 W := HB.out.trans (hW.mono HB.out.size)
        have hTT := HT1.out.below hW1 (by omega)
        refine ⟨?_, by rw [← HTS.out]; exact hTT.sgn o ho11, ?_, hTT.rk o ho11, hTT.rk q hq11⟩
        · exact (hW1.cell (p := ⟨pb, po + i, none⟩) (by show pb < _; omega)).trans ((HCELL.out i hlt).trans (by rw [HN.out]))
        · exact (hW1.cell (p := ⟨pb, po + k, none⟩) (by show pb < _; omega)).trans ((HCELL.out k hkL).trans (by rw [HM.out])))
      have HDG := Lib.hid (show ∀ W, Below w3.heap.size w3 W → Calls Tryz.prog 17 #[.int .i64 ((i : Int) + 1)] W fun e w' => e = .returned (.string D) ∧ Below W.heap.size W w' from fun W _ => by
        have := refDigits_nat (i + 1) (by omega) W
        rw [HD.out] at this; exact this)
      have hz1' : ¬ 9223372036854775807 < S.size + T.size := by omega
      have hz2' : ¬ 9223372036854775807 < S.size + T.size + D.size := by omega
      go_upto_region 10 with (fail)
      · skip
        refine wp_region_held_drew (S := fun W => Below w3.heap.size w3 W) (by kernel_rfl) (Below.drew (Below.refl w3.heap.size w3)) (fun _ => ?_)
        show wpAnyH _ _ _ _ _ 16 #[false, false, false, false, false, false, false, false, false, false, false, false, false, false, false, false] _ _
        refine held_take (i := 0) (d := some 28) (fuel := 15) (listed' := #[true, false, false, false, false, false, false, false, false, false, false, false, false, false, false, false]) (v := ?_) rfl rfl (by kernel_rfl) (by kernel_rfl) (by kernel_rfl) rfl (fun _ _ _ h => h) (by rfl) ?_ (Below.drew (Below.refl w3.heap.size w3)) ?_
        rotate_left
        · (intro wS hSw; go_simp; try (with_reducible rfl))
        simp only [Act.put, List.setIfInBounds_toArray, List.set_cons_zero, List.set_cons_succ]
        refine held_take (i := 1) (d := some 29) (fuel := 14) (listed' := #[true, true, false, false, false, false, false, false, false, false, false, false, false, false, false, false]) (v := ?_) rfl rfl (by kernel_rfl) (by kernel_rfl) (by kernel_rfl) rfl (fun _ _ _ h => h) (by rfl) ?_ (Below.drew (Below.refl w3.heap.size w3)) ?_
        rotate_left
        · (intro wS hSw; go_simp; try (with_reducible rfl))
        simp only [Act.put, List.setIfInBounds_toArray, List.set_cons_zero, List.set_cons_succ]
        refine held_take (i := 2) (d := some 30) (fuel := 13) (listed' := #[true, true, true, false, false, false, false, false, false, false, false, false, false, false, false, false]) (v := ?_) rfl rfl (by kernel_rfl) (by kernel_rfl) (by kernel_rfl) rfl (fun _ _ _ h => h) (by rfl) ?_ (Below.drew (Below.refl w3.heap.size w3)) ?_
        rotate_left
        · (intro wS hSw; go_simp; try (with_reducible rfl))
        simp only [Act.put, List.setIfInBounds_toArray, List.set_cons_zero, List.set_cons_succ]
        refine held_take (i := 3) (d := some 31) (fuel := 12) (listed' := #[true, true, true, true, false, false, false, false, false, false, false, false, false, false, false, false]) (v := ?_) rfl rfl (by kernel_rfl) (by kernel_rfl) (by kernel_rfl) rfl (fun _ _ _ h => h) (by rfl) ?_ (Below.drew (Below.refl w3.heap.size w3)) ?_
        rotate_left
        · (intro wS hSw; go_simp; try (with_reducible rfl))
        simp only [Act.put, List.setIfInBounds_toArray, List.set_cons_zero, List.set_cons_succ]
        refine held_take (i := 4) (d := some 32) (fuel := 11) (listed' := #[true, true, true, true, true, false, false, false, false, false, false, false, false, false, false, false]) (v := ?_) rfl rfl (by kernel_rfl) (by kernel_rfl) (by kernel_rfl) rfl (fun _ _ _ h => h) (by rfl) ?_ (Below.drew (Below.refl w3.heap.size w3)) ?_
        rotate_left
        · (intro wS hSw; go_simp; try (with_reducible rfl))
        simp only [Act.put, List.setIfInBounds_toArray, List.set_cons_zero, List.set_cons_succ]
        refine held_take (i := 5) (d := some 33) (fuel := 10) (listed' := #[true, true, true, true, true, true, false, false, false, false, false, false, false, false, false, false]) (v := ?_) rfl rfl (by kernel_rfl) (by kernel_rfl) (by kernel_rfl) rfl (fun _ _ _ h => h) (by rfl) ?_ (Below.drew (Below.refl w3.heap.size w3)) ?_
        rotate_left
        · (intro wS hSw; have hz := (HCC.out wS hSw); go_simp; try (with_reducible rfl))
        simp only [Act.put, List.setIfInBounds_toArray, List.set_cons_zero, List.set_cons_succ]
        refine held_take (i := 6) (d := some 34) (fuel := 9) (listed' := #[true, true, true, true, true, true, true, false, false, false, false, false, false, false, false, false]) (v := ?_) rfl rfl (by kernel_rfl) (by kernel_rfl) (by kernel_rfl) rfl (fun _ _ _ h => h) (by rfl) ?_ (Below.drew (Below.refl w3.heap.size w3)) ?_
        rotate_left
        · (intro wS hSw; go_simp; try (with_reducible rfl))
        simp only [Act.put, List.setIfInBounds_toArray, List.set_cons_zero, List.set_cons_succ]
        refine held_take (i := 7) (d := some 35) (fuel := 8) (listed' := #[true, true, true, true, true, true, true, true, false, false, false, false, false, false, false, false]) (v := ?_) rfl rfl (by kernel_rfl) (by kernel_rfl) (by kernel_rfl) rfl (fun _ _ _ h => h) (by rfl) ?_ (Below.drew (Below.refl w3.heap.size w3)) ?_
        rotate_left
        · (intro wS hSw; go_simp; try (with_reducible rfl))
        simp only [Act.put, List.setIfInBounds_toArray, List.set_cons_zero, List.set_cons_succ]
        refine held_take (i := 8) (d := some 36) (fuel := 7) (listed' := #[true, true, true, true, true, true, true, true, true, false, false, false, false, false, false, false]) (v := ?_) rfl rfl (by kernel_rfl) (by kernel_rfl) (by kernel_rfl) rfl (fun _ _ _ h => h) (by rfl) ?_ (Below.drew (Below.refl w3.heap.size w3)) ?_
        rotate_left
        · (intro wS hSw; go_simp; try (with_reducible rfl))
        simp only [Act.put, List.setIfInBounds_toArray, List.set_cons_zero, List.set_cons_succ]
        refine held_take (i := 9) (d := some 37) (fuel := 6) (listed' := #[true, true, true, true, true, true, true, true, true, true, false, false, false, false, false, false]) (v := ?_) rfl rfl (by kernel_rfl) (by kernel_rfl) (by kernel_rfl) rfl (fun _ _ _ h => h) (by rfl) ?_ (Below.drew (Below.refl w3.heap.size w3)) ?_
        rotate_left
        · (intro wS hSw; have hz := (HCC.out wS hSw); go_simp; try (with_reducible rfl))
        simp only [Act.put, List.setIfInBounds_toArray, List.set_cons_zero, List.set_cons_succ]
        refine held_take (i := 10) (d := some 38) (fuel := 5) (listed' := #[true, true, true, true, true, true, true, true, true, true, true, false, false, false, false, false]) (v := ?_) rfl rfl (by kernel_rfl) (by kernel_rfl) (by kernel_rfl) rfl (fun _ _ _ h => h) (by rfl) ?_ (Below.drew (Below.refl w3.heap.size w3)) ?_
        rotate_left
        · (intro wS hSw; go_simp; try (with_reducible rfl))
        simp only [Act.put, List.setIfInBounds_toArray, List.set_cons_zero, List.set_cons_succ]
        refine held_take (i := 11) (d := some 39) (fuel := 4) (listed' := #[true, true, true, true, true, true, true, true, true, true, true, true, false, false, false, false]) (v := ?_) rfl rfl (by kernel_rfl) (by kernel_rfl) (by kernel_rfl) rfl (fun _ _ _ h => h) (by rfl) ?_ (Below.drew (Below.refl w3.heap.size w3)) ?_
        rotate_left
        · (intro wS hSw; go_simp; try (with_reducible rfl))
        simp only [Act.put, List.setIfInBounds_toArray, List.set_cons_zero, List.set_cons_succ]
        refine held_take (i := 12) (d := some 40) (fuel := 3) (listed' := #[true, true, true, true, true, true, true, true, true, true, true, true, true, false, false, false]) (v := ?_) rfl rfl (by kernel_rfl) (by kernel_rfl) (by kernel_rfl) rfl (fun _ _ _ h => h) (by rfl) ?_ (Below.drew (Below.refl w3.heap.size w3)) ?_
        rotate_left
        · (intro wS hSw; go_simp; try (with_reducible rfl))
        simp only [Act.put, List.setIfInBounds_toArray, List.set_cons_zero, List.set_cons_succ]
        refine held_one (i := 13) (d := some 41) (fuel := 2) (listed' := #[true, true, true, true, true, true, true, true, true, true, true, true, true, true, false, false]) rfl rfl (by kernel_rfl) rfl (by rfl) (fun K hK => ?_)
        go_simp
        refine (HDG.out _ (Below.drew (Below.refl w3.heap.size w3))).mono ?_
        rintro e w4 ⟨rfl, h1⟩
        have HE := Lib.hid ((Below.drew (Below.refl w3.heap.size w3)).trans h1)
        clear h1
        go_wp2_with fail
        refine hK.out _ _ HE.out ?_
        clear hK K
        simp only [Act.put, List.setIfInBounds_toArray, List.set_cons_zero, List.set_cons_succ]
        refine held_take (i := 14) (d := some 42) (fuel := 1) (listed' := #[true, true, true, true, true, true, true, true, true, true, true, true, true, true, true, false]) (v := ?_) rfl rfl (by kernel_rfl) (by kernel_rfl) (by kernel_rfl) rfl (fun _ _ _ h => h) (by rfl) ?_ HE.out ?_
        rotate_left
        · (intro wS hSw; go_simp; try (with_reducible rfl))
        simp only [Act.put, List.setIfInBounds_toArray, List.set_cons_zero, List.set_cons_succ]
        refine held_take (i := 15) (d := some 5) (fuel := 0) (listed' := #[true, true, true, true, true, true, true, true, true, true, true, true, true, true, true, true]) (v := ?_) rfl rfl (by kernel_rfl) (by kernel_rfl) (by kernel_rfl) rfl (fun _ _ _ h => h) (by rfl) ?_ HE.out ?_
        rotate_left
        · (intro wS hSw; go_simp; try (with_reducible rfl))
        simp only [Act.put, List.setIfInBounds_toArray, List.set_cons_zero, List.set_cons_succ]
        refine wpAnyH_done (by kernel_rfl) ?_ _
        have HB4 := Lib.hid (HB.out.trans (HE.out.mono HB.out.size))
        obtain ⟨c1, c2, c3, c4, c5⟩ := HCC.out w4 HE.out
        have HS4 := Lib.hid (show sb (S ++ T ++ D) = 48 :: opsL 0 (os.take (i + 1)) by
          rw [sb_append, sb_append, HS.out, ← HTS.out, (opL_sb o ho11).1, ← HD.out, sb_digO, List.take_add_one, HAo.out]
          show _ = 48 :: opsL 0 (os.take i ++ [o])
          rw [opsL_snoc, List.length_take, show min i os.length = i by rw [HOL.out]; omega, show 0 + i + 1 = i + 1 by omega]
          simp [List.append_assoc])
        clear HE HCC HDG hz1' hz2' c2
        by_cases hr : rk o ≤ rk q
        · have HTOP : TopOf os (i + 1) i := by
            rcases HTop.out with ⟨rfl, rfl⟩ | h
            · exact TopOf.first HAo.out
            · exact h.le HAo.out HAq.out hr
          obtain ⟨ro, hro⟩ : ∃ ro, rk o = ro := ⟨_, rfl⟩
          obtain ⟨rq, hrq⟩ : ∃ rq, rk q = rq := ⟨_, rfl⟩
          rw [hro] at c4 hr; rw [hrq] at c5 hr
          have hri : (ro : Int) ≤ (rq : Int) := by omega
          have HTOP := Lib.hid HTOP
          clear hro hrq
          go_upto_region 11 with (fail)
          go_quiet (fail)
          go_wp2_with fail
          go_roundw
          case rel => exact ⟨i + 1, i, S ++ T ++ D, by omega, rfl, rfl, by go_num, by rw [ByteArray.size_append, ByteArray.size_append]; omega, HS4, by omega, by omega, Lib.hid (.inr HTOP.out), by first | exact HB4 | exact Lib.hid (below_drewN HB4.out _)⟩
          case measure => simp [intOf]; omega
        · have HTOP : TopOf os (i + 1) k := by
            rcases HTop.out with ⟨rfl, rfl⟩ | h
            · rw [HAo.out] at HAq; have e := Option.some.inj HAq.out; subst e; exact absurd (Nat.le_refl _) hr
            · exact h.gt HAo.out HAq.out hr
          obtain ⟨ro, hro⟩ : ∃ ro, rk o = ro := ⟨_, rfl⟩
          obtain ⟨rq, hrq⟩ : ∃ rq, rk q = rq := ⟨_, rfl⟩
          rw [hro] at c4 hr; rw [hrq] at c5 hr
          have hri : ¬ (ro : Int) ≤ (rq : Int) := by omega
          have HTOP := Lib.hid HTOP
          clear hro hrq
          go_upto_region 11 with (fail)
          go_quiet (fail)
          go_wp2_with fail
          go_roundw
          case rel => exact ⟨i + 1, k, S ++ T ++ D, by omega, rfl, rfl, by go_num, by rw [ByteArray.size_append, ByteArray.size_append]; omega, HS4, by omega, by omega, Lib.hid (.inr HTOP.out), by first | exact HB4 | exact Lib.hid (below_drewN HB4.out _)⟩
          case measure => simp [intOf]; omega
    · have hii : ¬ (i : Int) < (L : Int) := by omega
      have hil : L = i := by omega
      subst hil
      have hsS : sb S = 48 :: opsL 0 os := by rw [HS.out, List.take_of_length_le (Nat.le_of_eq HOL.out)]
      have hne : os ≠ [] := by intro h; have := HOL.out; rw [h] at this; exact h0 this.symm
      obtain ⟨ns, hp, hl, k', hk1, hk2⟩ := order_PIs S os (by omega) hsS (by rw [← HOS.out]; exact opsOf_lt xs) (by rw [HOL.out]; omega) hne
      have hkk : k = k' := TopOf.is (by rw [HOL.out]; rcases HTop.out with ⟨h, _⟩ | h; exact absurd h h0; exact h) hk1
      subst hkk
      obtain ⟨o, nd, hoo, hn1, hn2, hn3⟩ := hk2
      rw [HOL.out] at hl hn3
      obtain ⟨m, hm, hm255⟩ : ∃ m : Nat, xs.getD k 0 = (m : Int) ∧ m ≤ 255 := by
        have := HX1.out.bytes (xs.getD k 0) (by rw [List.getD_eq_getElem?_getD, List.getElem?_eq_getElem (by rw [HX1.out.hlen]; exact hkL)]; exact List.getElem_mem _)
        exact ⟨(xs.getD k 0).toNat, by omega, by omega⟩
      have hmo : m % 11 = o := by
        have := opsOf_at xs k m (by rw [HX1.out.hlen]; exact hkL) hm
        rw [HOS.out, hoo] at this; exact (Option.some.inj this).symm
      have hwm : IntKind.i64.wrap (m : Int) = (m : Int) := by rw [IntKind.wrap_i64]; omega
      have hoi : Int.tmod (m : Int) 11 = (o : Int) := by rw [Int.tmod_eq_emod_of_nonneg (by omega)]; omega
      have ho11 : o < 11 := by omega
      have HX5 := Lib.hid (parse_ok S wr (HV1.out.below HB.out) (HO1.out.below HB.out) ns hp (by omega))
      rw [hl] at HX5
      have HSIZ := Lib.hid (HSIZE.out S ns hp)
      have HN1 := Lib.hid hn1; have HN2 := Lib.hid hn2; have HN3 := Lib.hid hn3; have HM := Lib.hid hm; have HL := Lib.hid hl
      clear hsS hne hp hk1 hoo hn1 hn2 hn3 hm hmo
      have hBw : Below w.heap.size w wr := by have := HB.out; exact (show Below w.heap.size w w1 from by rw [hb]; exact HB1.out).trans (this.mono (by omega))
      have HBW := Lib.hid hBw
      clear hBw
      go_upto_region 16 with (first
        | (go_at_call 11; ((with_reducible refine HX5.out.mono ?_); rintro e w5 ⟨h1, g, gc, vs, rfl, hvn, hvl, hnv, ht⟩; have HB5 := Lib.hid (HBW.out.trans (h1.mono HBW.out.size)); have HVN := Lib.hid hvn; have HVL := Lib.hid hvl; have HNV := Lib.hid hnv; have HTB := Lib.hid ht; have H5 := Lib.hid h1; clear h1 hvn hvl hnv ht))
        | (go_at_call 15; (have HTR := Lib.hid (show Calls Tryz.prog 15 #[.slice (some ⟨g, 0, none⟩) (2 * L + 1) gc] w5 (fun e w' => e = .returned (.bool true) ∧ Below w5.heap.size w5 w') from by
            have := ptree_any w5 _ _ (HV.out.below HB5.out) (HNV.out.sn HVL.out) ⟨by rw [List.length_map, HVL.out]; omega, fun p hp => by
              obtain ⟨v, hv, rfl⟩ := List.mem_map.1 hp
              exact HSIZ.out v.n (by rw [← HVN.out]; exact List.mem_map_of_mem hv)⟩
            rw [sn_fst, HVN.out, HTB.out] at this
            exact this)); ((with_reducible refine HTR.out.mono ?_); rintro e w6 ⟨rfl, h1⟩; have H6 := Lib.hid h1; have HB6 := Lib.hid (HB5.out.trans (h1.mono HB5.out.size)); clear h1))
        | (go_at_call 14; ((with_reducible refine (num_is _ _).mono ?_); rintro e wn ⟨rfl, rfl⟩)))
      have hgl : g < w5.heap.size := (Own.blockLt HNV.out.1 g rfl).2.1
      obtain ⟨⟨n, kvo⟩, hv⟩ : ∃ v, vs[2 * L]? = some v := ⟨_, List.getElem?_eq_getElem (by rw [HVL.out]; omega)⟩
      obtain ⟨kv, hkv⟩ : ∃ kv, (⟨n, kvo⟩ : Nv).kv = kv := ⟨_, rfl⟩
      have hnd : n = nd := by
        have h1 := HN1.out
        rw [List.getLast?_eq_getElem?, HL.out, ← HVN.out, show 2 * L + 1 - 1 = 2 * L by omega, List.getElem?_map, hv] at h1
        exact Option.some.inj h1
      have hown : Own (encInt .i64) 3 w5 wr.heap.size kv n.kids := by rw [← hkv]; exact HNV.out.2 _ (List.mem_of_getElem? hv)
      have hn3 : n.kids = [((2 * k : Nat) : Int), ((2 * L - 1 : Nat) : Int)] := by rw [hnd, HN3.out, show 0 + 2 * (0 + k) = 2 * k by omega, show 0 + 2 * (0 + L) - 1 = 2 * L - 1 by omega]
      rw [hn3] at hown
      have hnk := Lib.hid (show n.kind = 9 + (o : Int) by rw [hnd]; exact HN2.out)
      obtain ⟨g2, c2, hkv2, hg2, hg3, -, -⟩ := Own.some hown (by simp)
      rw [hkv2] at hown
      have q0 := (H6.out.cell (p := ⟨g2, 0, none⟩) hg3).trans (Own.cells hown 0 (.int .i64 ((2 * k : Nat) : Int)) rfl)
      have q1 := (H6.out.cell (p := ⟨g2, 1, none⟩) hg3).trans (Own.cells hown 1 (.int .i64 ((2 * L - 1 : Nat) : Int)) rfl)
      have hkl : ([((2 * k : Nat) : Int), ((2 * L - 1 : Nat) : Int)] : List Int).length = 2 := rfl
      rw [hkl] at hkv2
      have hkv := hkv.trans hkv2
      clear hown hnd hn3
      subst hkv2
      have k0 : w6.cell? ⟨g, 2 * L * 14, none⟩ = some (.int .i64 n.kind) := (H6.out.cell (p := ⟨g, 2 * L * 14, none⟩) hgl).trans (HNV.out.cell (2 * L) ⟨n, kvo⟩ hv 0 (by omega))
      have k1 : w6.cell? ⟨g, 2 * L * 14 + 1, none⟩ = some (.int .i64 n.num) := (H6.out.cell (p := ⟨g, 2 * L * 14 + 1, none⟩) hgl).trans (HNV.out.cell (2 * L) ⟨n, kvo⟩ hv 1 (by omega))
      have k2 : w6.cell? ⟨g, 2 * L * 14 + 2, none⟩ = some (.string n.text) := (H6.out.cell (p := ⟨g, 2 * L * 14 + 2, none⟩) hgl).trans (HNV.out.cell (2 * L) ⟨n, kvo⟩ hv 2 (by omega))
      have k3 : w6.cell? ⟨g, 2 * L * 14 + 3, none⟩ = some (.string n.ref.sh) := (H6.out.cell (p := ⟨g, 2 * L * 14 + 3, none⟩) hgl).trans (HNV.out.cell (2 * L) ⟨n, kvo⟩ hv 3 (by omega))
      have k4 : w6.cell? ⟨g, 2 * L * 14 + 4, none⟩ = some (.int .i64 n.ref.c) := (H6.out.cell (p := ⟨g, 2 * L * 14 + 4, none⟩) hgl).trans (HNV.out.cell (2 * L) ⟨n, kvo⟩ hv 4 (by omega))
      have k5 : w6.cell? ⟨g, 2 * L * 14 + 5, none⟩ = some (.int .i64 n.ref.r) := (H6.out.cell (p := ⟨g, 2 * L * 14 + 5, none⟩) hgl).trans (HNV.out.cell (2 * L) ⟨n, kvo⟩ hv 5 (by omega))
      have k6 : w6.cell? ⟨g, 2 * L * 14 + 6, none⟩ = some (.bool n.ref.ac) := (H6.out.cell (p := ⟨g, 2 * L * 14 + 6, none⟩) hgl).trans (HNV.out.cell (2 * L) ⟨n, kvo⟩ hv 6 (by omega))
      have k7 : w6.cell? ⟨g, 2 * L * 14 + 7, none⟩ = some (.bool n.ref.ar) := (H6.out.cell (p := ⟨g, 2 * L * 14 + 7, none⟩) hgl).trans (HNV.out.cell (2 * L) ⟨n, kvo⟩ hv 7 (by omega))
      have k8 : w6.cell? ⟨g, 2 * L * 14 + 8, none⟩ = some (.string n.to.sh) := (H6.out.cell (p := ⟨g, 2 * L * 14 + 8, none⟩) hgl).trans (HNV.out.cell (2 * L) ⟨n, kvo⟩ hv 8 (by omega))
      have k9 : w6.cell? ⟨g, 2 * L * 14 + 9, none⟩ = some (.int .i64 n.to.c) := (H6.out.cell (p := ⟨g, 2 * L * 14 + 9, none⟩) hgl).trans (HNV.out.cell (2 * L) ⟨n, kvo⟩ hv 9 (by omega))
      have k10 : w6.cell? ⟨g, 2 * L * 14 + 10, none⟩ = some (.int .i64 n.to.r) := (H6.out.cell (p := ⟨g, 2 * L * 14 + 10, none⟩) hgl).trans (HNV.out.cell (2 * L) ⟨n, kvo⟩ hv 10 (by omega))
      have k11 : w6.cell? ⟨g, 2 * L * 14 + 11, none⟩ = some (.bool n.to.ac) := (H6.out.cell (p := ⟨g, 2 * L * 14 + 11, none⟩) hgl).trans (HNV.out.cell (2 * L) ⟨n, kvo⟩ hv 11 (by omega))
      have k12 : w6.cell? ⟨g, 2 * L * 14 + 12, none⟩ = some (.bool n.to.ar) := (H6.out.cell (p := ⟨g, 2 * L * 14 + 12, none⟩) hgl).trans (HNV.out.cell (2 * L) ⟨n, kvo⟩ hv 12 (by omega))
      have k13 : w6.cell? ⟨g, 2 * L * 14 + 13, none⟩ = some (.slice (some ⟨g2, 0, none⟩) 2 c2) := (H6.out.cell (p := ⟨g, 2 * L * 14 + 13, none⟩) hgl).trans ((HNV.out.cell (2 * L) ⟨n, kvo⟩ hv 13 (by omega)).trans (by rw [hkv]; rfl))
      clear hv hkv hg2
      go_upto_region 17 with (fail)
      have hal : Below w6.heap.size w6 (w6.alloc (.cells (nodA n (.slice (some ⟨g2, 0, none⟩) 2 c2)) 38)) := (Below.refl _ _).alloc (Nat.le_refl _) _
      have HND : NdAt (w6.alloc (.cells (nodA n (.slice (some ⟨g2, 0, none⟩) 2 c2)) 38)) w6.heap.size n (.slice (some ⟨g2, 0, none⟩) 2 c2) := NdAt.new w6 n _
      have hx6 : w6.cell? ⟨pb, po + k, none⟩ = some (.int .u8 (m : Int)) := by
        have e1 := HB.out.cell (p := ⟨pb, po + k, none⟩) (by show pb < _; omega)
        have e2 := H5.out.cell (p := ⟨pb, po + k, none⟩) (by show pb < _; have := HB.out.size; omega)
        have e3 := H6.out.cell (p := ⟨pb, po + k, none⟩) (by show pb < _; have := HB.out.size; have := H5.out.size; omega)
        exact e3.trans (e2.trans (e1.trans ((HCELL.out k hkL).trans (by rw [HM.out]))))
      have hz6 : pb < w6.heap.size := by have := HB.out.size; have := H5.out.size; have := H6.out.size; omega
      have hz7 : g2 < w6.heap.size := by have := H6.out.size; omega
      have x7 := (hal.cell (p := ⟨pb, po + k, none⟩) hz6).trans hx6
      have y0 := (hal.cell (p := ⟨g2, 0, none⟩) hz7).trans q0
      have y1 := (hal.cell (p := ⟨g2, 1, none⟩) hz7).trans q1
      have HB7 := Lib.hid (HB6.out.trans (hal.mono HB6.out.size))
      clear hx6 q0 q1 k0 k1 k2 k3 k4 k5 k6 k7 k8 k9 k10 k11 k12 k13 hal HB6 H6 H5 HB HX5 HSIZ HVN HNV HTB
      unfold nodA at HND x7 y0 y1 HB7
      generalize hb7 : w6.heap.size = b7 at HND ⊢
      generalize w6.alloc (.cells _ 38) = w7 at HND x7 y0 y1 HB7 ⊢
      obtain ⟨z0, -, -, -, -, -, -, -, -, -, -, -, -, z13⟩ := HND.cells
      rw [hnk.out] at z0
      rw [show ((2 * k : Nat) : Int) = 2 * (k : Int) by omega] at y0
      rw [show ((2 * L - 1 : Nat) : Int) = 2 * (L : Int) - 1 by omega] at y1
      clear HND hb7 hnk
      have hm11 : (o : Int) < 11 := by omega
      go_quiet (fail)
      have HB8 := Lib.hid (drewB HB7.out nq)
      clear HB7 x7 y0 y1 z0 z13
      generalize w7.drewN nq = w8 at HB8 ⊢
      go_wp2_with (first
        | (go_at_call 10; ((with_reducible refine (awake5_any _ (HV.out.below HB8.out) (HO.out.below HB8.out)).mono ?_); rintro e w9 ⟨rfl, h1⟩; have HB9 := Lib.hid (HB8.out.trans (h1.mono HB8.out.size)); clear h1)))
      go_ret
      exact ⟨rfl, HB9.out⟩
end Go.Proofs.YtdfpalocnijefaaGreatDoor

/-
  Arguments opened: slices of bytes.
-/
namespace Go.Proofs.YtdfpalocnijefaaGreatDoor
open Go.ChangeShapes Go.WideShapes Go.ChangeAt Go.RowKit

theorem cells_u8 : Tryz.prog.cellsOf 5 = 1 := by kernel_rfl
set_option maxRecDepth 100000 in
theorem open_s8 {H : Type} {enc : TypeId × Value → H} {W : World} {base : Nat} {v : Value} {d : DataW H} {p : List MemPlace} (hval : Value.okWide Tryz.prog W .any base 39 v) (h : DataW.Trod enc Tryz.prog W 0 (fun _ => true) true 39 v d p) :
    ∃ A len cap xs, v = .slice A len cap ∧ S8 W W.heap.size A len cap xs := by
  obtain ⟨A, len, cap, rfl⟩ := okWide_slice Tryz.underlying39 hval
  obtain ⟨fuel, hf⟩ := h
  rcases open_ints Tryz.underlying39 Tryz.underlying5 cells_u8 hf with ⟨hcs, _⟩ | ⟨a, len', cap', zs, hcs, _, hl, hm, hz, _, hcell, hwz⟩
  · simp [Value.cells] at hcs
    obtain ⟨rfl, rfl, rfl⟩ := hcs
    exact ⟨none, 0, 0, [], rfl, rfl, Nat.le_refl _, by unfold maxLen; omega, Bytes.nil, .inl rfl⟩
  · simp [Value.cells] at hcs
    obtain ⟨rfl, rfl, rfl⟩ := hcs
    simp only [if_true] at hz
    have hb : Bytes zs := fun n hn => bounds_u8 (hwz n hn)
    by_cases h0 : cap = 0
    · have hl0 : len = 0 := by omega
      exact ⟨some a, len, cap, zs.take len, rfl, by rw [List.length_take]; omega, hl, hm, hb.take _, .inl hl0⟩
    · obtain ⟨b, off, rfl, hc⟩ := ints_at hcell (by omega)
      refine ⟨some ⟨b, off, none⟩, len, cap, zs.take len, rfl, by rw [List.length_take]; omega, hl, hm, hb.take _, .inr ⟨b, off, rfl, block_lt_of_cell (hc 0 (by omega)), fun j hj => ?_⟩⟩
      rw [hc j (by omega)]
      congr 2
      simp only [List.getD_eq_getElem?_getD]
      rw [List.getElem?_take_of_lt hj]
end Go.Proofs.YtdfpalocnijefaaGreatDoor

/-
  What every law's row asks behind its walk: the answer true; the arguments read as they did. One lemma for all laws, whatever their parameters.
-/
namespace Go.Proofs.YtdfpalocnijefaaGreatDoor
open Go.ChangeShapes Go.WideShapes Go.ChangeAt Go.RowKit

/-- Whatever was there below the old heap's end reads as it did. -/
theorem trodAll_below {H : Type} {enc : TypeId × Value → H} {P : Program} (hl : laidOutB P = true) {W W' : World} (hb : Below W.heap.size W W') :
    ∀ (ts : List TypeId) (vs : List Value) (ds : List (DataW H)) (p : List MemPlace), (ts.all fun t => P.readableRec t && decide (t < P.types.size)) = true → (∀ x ∈ p, x.block < W.heap.size) →
      DataW.TrodAll enc P W 0 (fun _ => true) true ts vs ds p → DataW.TrodAll enc P W' 0 (fun b => decide (b < W.heap.size)) true ts vs ds p := by
  intro ts
  induction ts with
  | nil =>
    intro vs ds p _ _ h
    obtain ⟨rfl, rfl, rfl⟩ := trodAll_nil h
    exact trodAll_mk0
  | cons t ts ih =>
    intro vs ds p ht hlt h
    obtain ⟨v, vs', d, ds', p1, q1, rfl, rfl, rfl, h0, hr⟩ := trodAll_cons h
    rw [List.all_cons, Bool.and_eq_true, Bool.and_eq_true, decide_eq_true_eq] at ht
    exact trodAll_cons_mk (Below.trod hl ht.1.1 ht.1.2 h0 hb (fun x hx => hlt x (List.mem_append_left _ hx))) (ih vs' ds' q1 ht.2 (fun x hx => hlt x (List.mem_append_right _ hx)) hr)

theorem own : ownKnob Tryz.prog.godebug = none := by kernel_rfl
theorem laidOut : laidOutB Tryz.prog = true := by kernel_rfl
/-- THE CLOSING: the law answers true and has left what was there. -/
theorem law_post {H : Type} {enc : TypeId × Value → H} {f : Func} {s : ChangeSpec} {W W' : World} {args : Array Value} {ds gs : List (DataW H)} {before : List MemPlace} (hl : laidOutB Tryz.prog = true)
    (hparams : (f.params.toList.all fun t => Tryz.prog.readableRec t && decide (t < Tryz.prog.types.size)) = true) (hres : f.resultTypes = #[4])
    (hvars : s.vars = []) (hfn : s.fn H (ds ++ gs) = { results := [.lit (.bool true)], args := ds })
    (hW : DataW.Whole enc Tryz.prog f.params.toList s.vars false W args.toList ds gs before) (hlt : ∀ x ∈ before, x.block < W.heap.size) (hb : Below W.heap.size W W') :
    s.post enc Tryz.prog f false true false false W args (.bool true) W' := by
  have hW0 := hW
  obtain ⟨p, q, hA, hV, rfl, _, _⟩ := hW
  refine ⟨ds, gs, p ++ q, [], p, [], hW0, ?_, ?_, ?_, hb.frame _, fun h => by cases h⟩
  · rw [hfn, hres]
    exact trodAll_cons_mk (shut_bool Tryz.underlying4 true) trodAll_mk0
  · rw [hfn]
    exact trodAll_below hl hb _ _ _ _ hparams (fun x hx => hlt x (List.mem_append_left _ hx)) hA
  · rw [hvars, hfn]; rfl
end Go.Proofs.YtdfpalocnijefaaGreatDoor

/-
  What a law over the signs, the operators and the library's errors asks: the variables' facts, a world for the witness.
-/
namespace Go.Proofs.YtdfpalocnijefaaGreatDoor
open Go.ChangeShapes Go.WideShapes Go.ChangeAt Go.RowKit

/-- Texts as a datum. -/
def textData {H : Type} (bs : List (List UInt8)) : DataW H := .agg (bs.map fun b => .lit (.string b))
/-- An array of texts that reads so holds the texts, cell for cell. -/
theorem cells_of_texts {H : Type} {enc : TypeId × Value → H} {P : Program} {w : World} {base : Nat} {sp : Nat → Bool} {held : Bool} {fuel : Nat} {t e : TypeId} {n : Nat} {cs : List Value} {bs : List (List UInt8)} {p : List MemPlace}
    (ht : P.underlying t = some (.array n e)) (he : P.underlying e = some .string) (hce : P.cellsOf e = 1) (hct : P.cellsOf t = n)
    (h : DataW.trod enc P w base sp held fuel t cs = some (textData bs, p)) : cs = bs.map fun b => Value.string ⟨b.toArray⟩ := by
  cases fuel with
  | zero => simp [DataW.trod] at h
  | succ fuel =>
    simp only [DataW.trod, ht, hce, hct, Nat.mul_one] at h
    split at h
    · rename_i hl
      obtain ⟨xs, hm, hx⟩ := Option.map_eq_some_iff.1 h
      have hxs : xs.map (·.1) = bs.map fun b => (DataW.lit (.string b) : DataW H) := by
        have := congrArg Prod.fst hx
        simpa [textData] using this
      have hxl : xs.length = n := by simpa using Lib.mapM_length hm
      have hzl : bs.length = n := by
        have := congrArg List.length hxs
        simp at this
        omega
      apply List.ext_getElem?
      intro i
      by_cases hi : i < n
      · obtain ⟨b, hb, hf⟩ := Lib.mapM_at hm i i (by simp [hi])
        obtain ⟨z, hc, rfl, _⟩ := DataW.trod_string he hf
        have h1 : cs[i]? = some (.string z) := by
          have := congrArg (·[0]?) hc
          simpa [List.getElem?_take, List.getElem?_drop] using this
        have h2 : (xs.map (·.1))[i]? = some (DataW.lit (.string z.data.toList) : DataW H) := by simp [hb]
        rw [hxs] at h2
        simp only [List.getElem?_map, Option.map_eq_some_iff, DataW.lit.injEq, Lit.string.injEq] at h2
        obtain ⟨z', hz', e⟩ := h2
        simp only [h1, List.getElem?_map, hz', Option.map_some, e]
      · rw [List.getElem?_eq_none (by omega), List.getElem?_eq_none (by simp; omega)]
    · cases h
def laidList : List (String × DataW Unit) := [("math/bits.deBruijn32tab", Rows.laid_math_bits_deBruijn32tab), ("math/bits.deBruijn64tab", Rows.laid_math_bits_deBruijn64tab), ("internal/strconv.uint64pow10", Rows.laid_internal_strconv_uint64pow10), ("strconv.ErrRange", Rows.laid_strconv_ErrRange), ("strconv.ErrSyntax", Rows.laid_strconv_ErrSyntax), ("chequer/lex.signs", Rows.laid_chequer_lex_signs), ("chequer/parse.operators", Rows.laid_chequer_parse_operators)]
theorem gErr : Tryz.prog.globalNamed "strconv.ErrRange" = some 4 := by kernel_rfl
theorem gErr_t : (Tryz.prog.globals[(4 : Nat)]?).map (·.type) = some 105 := by kernel_rfl
theorem gSig : Tryz.prog.globalNamed "chequer/lex.signs" = some 1 := by kernel_rfl
theorem gSig_t : (Tryz.prog.globals[(1 : Nat)]?).map (·.type) = some 139 := by kernel_rfl
theorem cellsErr : Tryz.prog.cellsOf 187 = 1 := by kernel_rfl
theorem cellsStr : Tryz.prog.cellsOf 9 = 1 := by kernel_rfl
theorem cellsSig : Tryz.prog.cellsOf 139 = 15 := by kernel_rfl
theorem star : "*" ++ "errors.errorString" = "*errors.errorString" := by decide
theorem rowErr (u : TypeId) (h : Tryz.prog.typeName? 3 u = some "*errors.errorString") : u = 185 :=
  typeName_ptr_named (nm := "errors.errorString") (by rw [star]; kernel_rfl) (by kernel_rfl) (by decide) u (by rw [star]; exact h)
def sigBytes : List (List UInt8) := [[60, 62], [60, 61], [62, 61], [43], [45], [42], [47], [38], [61], [60], [62], [40], [41], [44], [58]]
theorem sigData : (Rows.laid_chequer_lex_signs : DataW Unit) = textData sigBytes := rfl
theorem sigCells : (sigBytes.map fun b => Value.string ⟨b.toArray⟩) = sigA.toList := rfl
/-- What a row's list gives. -/
theorem tables {W : World} (h : laidMetH Tryz.prog laidList W) : Vars W := by
  have h1 : laidMet Tryz.prog laidList W := h
  have h4 := laidMet.tail (laidMet.tail (laidMet.tail h1))
  constructor
  · obtain ⟨a0, s0, hv0, -, -, -⟩ := laid_sentinel h4 gErr gErr_t Tryz.underlying105 rowErr Tryz.underlying185 Tryz.underlying187 rfl rfl Tryz.underlying9 cellsErr cellsStr
    exact ⟨_, by have h0 := World.var?_cell gErr hv0 0; simpa using h0, Or.inr ⟨_, _, rfl⟩⟩
  · have h6 := laidMet.tail (laidMet.tail h4)
    obtain ⟨ps, ⟨g', t', cs, fuel, p, q, hg', ht', hvar, hd, _, _⟩, _⟩ := h6
    obtain rfl := Option.some.inj (gSig.symm.trans hg')
    obtain rfl := Option.some.inj (gSig_t.symm.trans ht')
    rw [sigData] at hd
    have hc := cells_of_texts Tryz.underlying139 Tryz.underlying9 cellsStr cellsSig hd
    rw [sigCells] at hc
    unfold World.var? at hvar
    rw [gSig] at hvar
    simp only [Option.bind_some] at hvar
    split at hvar
    · rename_i cs' ty fr hh
      injection hvar with hvar
      subst hvar
      have : cs' = sigA := Array.toList_inj.1 hc
      exact ⟨ty, fr, by rw [← this]; exact hh⟩
    · cases hvar
/-- The operators' cells. -/
def opC (q : ByteArray × Nat × Int) : List Value := [.string q.1, .int .i64 (q.2.1 : Int), .int .i64 q.2.2]
theorem cells3 : ∀ (L : List (ByteArray × Nat × Int)) (cs : List Value), cs.length = L.length * 3 → (∀ (i : Nat) q, L[i]? = some q → (cs.drop (i * 3)).take 3 = opC q) → cs = L.flatMap opC
  | [], cs, h, _ => by simpa using h
  | q :: L, cs, h, hi => by
    have h0 := hi 0 q rfl
    rw [Nat.zero_mul, List.drop_zero] at h0
    have h1 := cells3 L (cs.drop 3) (by rw [List.length_drop, h, List.length_cons]; omega) (fun i q' hq => by
      have := hi (i + 1) q' (by simpa using hq)
      rw [Nat.succ_mul] at this
      rw [List.drop_drop, Nat.add_comm 3]; exact this)
    rw [List.flatMap_cons, ← h0, ← h1, List.take_append_drop]
def opData {H : Type} (q : ByteArray × Nat × Int) : DataW H := .agg [.lit (.string q.1.data.toList), .lit (.int .i64 (q.2.1 : Int)), .lit (.int .i64 q.2.2)]
theorem opsData : (Rows.laid_chequer_parse_operators : DataW Unit) = .agg (opL3.map opData) := rfl
theorem gOps : Tryz.prog.globalNamed "chequer/parse.operators" = some 2 := by kernel_rfl
theorem gOps_t : (Tryz.prog.globals[(2 : Nat)]?).map (·.type) = some 142 := by kernel_rfl
theorem cellsOps : Tryz.prog.cellsOf 142 = 33 := by kernel_rfl
theorem cellsOp : Tryz.prog.cellsOf 141 = 3 := by kernel_rfl
theorem cellsInt : Tryz.prog.cellsOf 3 = 1 := by kernel_rfl
set_option maxRecDepth 100000 in
theorem op_of_trod {enc : TypeId × Value → Unit} {w : World} {base : Nat} {sp : Nat → Bool} {held : Bool} {fuel : Nat} {cs : List Value} {q : ByteArray × Nat × Int} {p : List MemPlace}
    (h : DataW.trod enc Tryz.prog w base sp held fuel 141 cs = some (opData q, p)) : cs = opC q := by
  obtain ⟨y0, y1, y2, n, hx, hl, h0, h1, h2⟩ := Go.Deep.trod_struct3 Tryz.underlying141 h
  injection hx with hx _
  unfold opData at hx
  injection hx with hx
  injection hx with e0 hx; injection hx with e1 hx; injection hx with e2 _
  rw [cellsOp] at hl
  match cs, hl with
  | [c0, c1, c2], _ =>
    obtain ⟨s, g0, g0', _⟩ := DataW.trod_string Tryz.underlying9 h0
    obtain ⟨n1, g1, g1', _⟩ := DataW.trod_int Tryz.underlying3 h1
    obtain ⟨n2, g2, g2', _⟩ := DataW.trod_int Tryz.underlying3 h2
    have k0 : [c0] = [Value.string s] := g0
    have k1 : [c1] = [Value.int .i64 n1] := g1
    have k2 : [c2] = [Value.int .i64 n2] := g2
    injection k0 with k0 _; injection k1 with k1 _; injection k2 with k2 _
    rw [g0'] at e0; rw [g1'] at e1; rw [g2'] at e2
    injection e0 with e0; injection e0 with e0
    injection e1 with e1; injection e1 with _ e1
    injection e2 with e2; injection e2 with _ e2
    have es : s = q.1 := by
      cases s; cases hq : q.1
      rw [hq] at e0
      simp only at e0
      rw [Array.toList_inj.1 e0.symm]
    rw [k0, k1, k2, es, ← e1, ← e2]; rfl
set_option maxRecDepth 100000 in
theorem cells_of_ops {enc : TypeId × Value → Unit} {w : World} {base : Nat} {sp : Nat → Bool} {held : Bool} {fuel : Nat} {cs : List Value} {p : List MemPlace}
    (h : DataW.trod enc Tryz.prog w base sp held fuel 142 cs = some (.agg (opL3.map opData), p)) : cs = opL3.flatMap opC := by
  obtain ⟨xs, m, _, hx, hl, hxl, hi⟩ := DataW.trod_array Tryz.underlying142 h
  injection hx with hx _
  injection hx with hx
  rw [cellsOps] at hl
  refine cells3 opL3 cs (by rw [hl]; rfl) fun i q hq => ?_
  have hlt := (List.getElem?_eq_some_iff.1 hq).1
  have hlt : i < 11 := hlt
  have h1 := hi i hlt
  rw [cellsOp] at h1
  obtain ⟨y, hy⟩ : ∃ y, xs[i]? = some y := ⟨_, List.getElem?_eq_getElem (by omega)⟩
  rw [hy] at h1
  have h2 : (xs.map (·.1))[i]? = some y.1 := by rw [List.getElem?_map, hy]; rfl
  rw [← hx, List.getElem?_map, hq] at h2
  have h2 : opData q = y.1 := Option.some.inj h2
  obtain ⟨y1, y2⟩ := y
  have h2 : opData q = y1 := h2
  subst h2
  exact op_of_trod h1
theorem opA_list : opA.toList = opL3.flatMap opC := rfl
/-- The operators out of a row's list. -/
theorem tablesOp {W : World} (h : laidMetH Tryz.prog laidList W) : OpV W := by
  have h1 : laidMet Tryz.prog laidList W := h
  have h4 := laidMet.tail (laidMet.tail (laidMet.tail (laidMet.tail (laidMet.tail (laidMet.tail h1)))))
  obtain ⟨ps, ⟨g', t', cs, fuel, p, q, hg', ht', hvar, hd, _, _⟩, _⟩ := h4
  obtain rfl := Option.some.inj (gOps.symm.trans hg')
  obtain rfl := Option.some.inj (gOps_t.symm.trans ht')
  rw [opsData] at hd
  have hc := cells_of_ops hd
  rw [← opA_list] at hc
  unfold World.var? at hvar
  rw [gOps] at hvar
  simp only [Option.bind_some] at hvar
  split at hvar
  · rename_i cs' ty fr hh
    injection hvar with hvar
    subst hvar
    have : cs' = opA := Array.toList_inj.1 hc
    exact ⟨ty, fr, by rw [← this]; exact hh⟩
  · cases hvar
/-- A WORLD FOR THE WITNESS: the settled one, the variables holding what their initialisers lay. -/
noncomputable def laidWorld (os : Os) : World := World.laidAll Tryz.prog os laidList
theorem laid_met0 (os : Os) (args : Array Value) : laidMet Tryz.prog laidList ((laidWorld os).forCall (fun _ _ => 0) ⟨#[], args, []⟩).memory := laidMet_laidAll args (by kernel_rfl) (by kernel_rfl)
end Go.Proofs.YtdfpalocnijefaaGreatDoor

namespace Go.Proofs.YtdfpalocnijefaaGreatDoor.lawPOrder
open Go.ChangeShapes Go.WideShapes Go.ChangeAt Go.RowKit
open Go.WideMaps Go.WideElems
open Go.ChangeMaps (open_string shut_string)

set_option maxRecDepth 100000 in
theorem contract (H : Type) (enc : TypeId × Value → H) (W : World) (base : Nat) (args : Array Value) (ds gs : List (DataW H)) (before : List MemPlace)
    (hval : ∀ (j : Nat) t v, Tryz.f5.params[j]? = some t → args[j]? = some v → Value.okWide Tryz.prog W .any base t v)
    (hW : DataW.Whole enc Tryz.prog Tryz.f5.params.toList Rows.parseOrderSpec.vars false W args.toList ds gs before) (hL : laidMetH Tryz.prog Rows.parseOrderRow.laid W) :
    Calls Tryz.prog 5 args W fun e W' => ∃ v, e = .returned v ∧ Rows.parseOrderSpec.post enc Tryz.prog Tryz.f5 false true false false W args v W' := by
  have hW' := hW
  have hlt := hW.lt
  obtain ⟨p, q, hA, hV, rfl, hfz, hnd⟩ := hW
  rw [Tryz.params5] at hA hval
  obtain ⟨v0, vs0, d0, ds0, p0, q0, hargs, rfl, rfl, h0, r0⟩ := trodAll_cons hA
  obtain ⟨rfl, rfl, rfl⟩ := trodAll_nil r0
  obtain rfl : args = #[v0] := by cases args; simp_all
  obtain ⟨rfl, rfl⟩ := trodVars_none hV
  obtain ⟨A0, l0, c0, xs0, rfl, hs0⟩ := open_s8 (hval 0 39 v0 rfl rfl) h0
  have hL2 : laidMetH Tryz.prog laidList W := by rw [show laidList = Rows.parseOrderRow.laid from rfl]; exact hL
  refine (parseOrder_any _ _ _ _ W hs0 (tables hL2) (tablesOp hL2)).mono fun e W' ⟨he, hb⟩ => ?_
  subst he
  exact ⟨_, rfl, law_post laidOut (by kernel_rfl) (by kernel_rfl) rfl rfl hW' hlt hb⟩

set_option maxRecDepth 100000 in
theorem laid_met (os : Os) : laidMet Tryz.prog Rows.parseOrderRow.laid ((laidWorld os).forCall (fun _ _ => 0) ⟨#[], #[.slice none 0 0], []⟩).memory :=
  laid_met0 os _
theorem reads (os : Os) {H : Type} (enc : TypeId × Value → H) : ∃ places, DataW.whole enc Tryz.prog ((laidWorld os).forCall (fun _ _ => 0) ⟨#[], #[.slice none 0 0], []⟩).memory Tryz.f5.params.toList Rows.parseOrderSpec.vars false (#[.slice none 0 0] : Array Value).toList 8 = some ([.nil], [], places) :=
  ⟨[], by kernel_rfl⟩

set_option maxRecDepth 100000 in
theorem lifted (os : Os) (started : os.Started) (H : Type) (enc : TypeId × Value → H) (F : Stop.Interp) :
    ReturnsInHanded {} Tryz.checked os 5 .any ((OpenSpec.ofChange Rows.parseOrderSpec).preRow enc Tryz.prog Tryz.f5 Rows.parseOrderRow.domain false Rows.parseOrderRow.laid) (((OpenSpec.ofChange Rows.parseOrderSpec).at F).post enc Tryz.prog Tryz.f5 false true false false) := by
  obtain ⟨places, hx⟩ := reads os enc
  refine returnsInHanded_of_row (C := Tryz.checked) (s := OpenSpec.ofChange Rows.parseOrderSpec) own started (by kernel_rfl) Tryz.func5
    (witness_row_at (enc := enc) (C := Tryz.checked) false (laidWorld os) #[.slice none 0 0] (World.laidAll_os _ _ _) (by kernel_rfl) (by kernel_rfl) (by kernel_rfl)
      (OpenSpec.preRow_of_cond 8 hx (by kernel_rfl) (fun k hk => by cases hk) (by kernel_rfl) (laid_met os))) ?_
  intro W base args ds gs before hval hW _ _ _ hL _ _
  exact contract H enc W base args ds gs before hval hW hL

theorem said : Rows.ParseOrderSaid :=
  OpenClaim.holds_of_cond 5 Tryz.f5 rfl rfl rfl rfl rfl rfl rfl ⟨rfl, rfl, rfl, rfl, rfl⟩ rfl rfl rfl rfl rfl (by kernel_rfl) Tryz.func5 (by kernel_rfl)
    (of_decide_eq_true (by kernel_rfl)) (by unfold Func.isWrapper; first | (rw [if_pos (by decide +kernel)]; kernel_rfl) | (rw [if_neg (by decide +kernel)]; exact ⟨rfl, rfl⟩))
    (fun os started H enc _ F => by rw [OpenClaim.pre_eq_preRow]; exact lifted os started H enc F)

theorem plain (f : FuncId) (fn : Func) (hf : Tryz.pinned.checked.prog.funcNamed "chequer/chequerlaw5.ParseOrder" = some f) (hfn : Tryz.pinned.checked.prog.funcs[f]? = some fn) :
    true = Tryz.pinned.checked.prog.looks [] ∧ ∀ (j : Nat) t, fn.params[j]? = some t → Tryz.pinned.checked.prog.wantsStandIn t = false := by
  obtain rfl : f = 5 := Option.some.inj ((show Tryz.prog.funcNamed "chequer/chequerlaw5.ParseOrder" = some 5 by kernel_rfl).symm.trans hf) |>.symm
  obtain rfl : fn = Tryz.f5 := (Option.some.inj (Tryz.func5.symm.trans hfn)).symm
  refine ⟨by kernel_rfl, fun j t ht => ?_⟩
  rw [Tryz.params5] at ht
  have hall : (#[39].all fun t => !Tryz.prog.wantsStandIn t) = true := by kernel_rfl
  have := (Array.all_eq_true_iff_forall_mem.1 hall) t (Array.mem_of_getElem? ht)
  exact (show Tryz.prog.wantsStandIn t = false from by simpa using this)

/-- THE CARD -/
theorem card : Rows.ParseOrderCardSaid :=
  Claim7.holds_tied_plain_at .later [] _ _ _ _ said (fun _ h => by cases h) (by kernel_rfl) (fun _ h => by cases h) parseOrder_row_tie rfl ⟨rfl, rfl⟩ (by kernel_rfl) rfl plain (by kernel_rfl)
end Go.Proofs.YtdfpalocnijefaaGreatDoor.lawPOrder
