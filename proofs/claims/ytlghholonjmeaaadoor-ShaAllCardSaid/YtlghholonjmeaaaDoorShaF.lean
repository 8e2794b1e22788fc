/-
  (*Hash).Write: a part of the message.
-/
import Derived.Test.YtlghholonjmeaaaDoorShaM
import Derived.Deep.DeepCutAuto
namespace Go.Proofs.YtlghholonjmeaaaDoor
open Go.RowKit

/-- A Hash to which m was written. -/
structure Holds (w : World) (b : Nat) (m : List Int) : Prop where
  ex : ∃ st rest, HashAt w b st rest m.length ∧ (0 < m.length → st = stOf m) ∧ rest.take (m.length % 64) = leftOf m ∧ (∀ a ∈ st, W32 a)

/-- What the program's tables hold. -/
structure Tables (w : World) : Prop where
  g0 : 0 < w.heap.size
  g1 : 1 < w.heap.size
  c0 : ∀ j, j < 8 → w.cell? ⟨0, j, none⟩ = some (.int .u32 (iv.getD j 0))
  c1 : ∀ j, j < 64 → w.cell? ⟨1, j, none⟩ = some (.int .u32 (kn.getD j 0))
theorem Tables.below {w w' : World} {B : Nat} (h : Tables w) (hb : Below B w w') (h0 : 0 < B) (h1 : 1 < B) : Tables w' :=
  ⟨Nat.lt_of_lt_of_le h.g0 hb.size, Nat.lt_of_lt_of_le h.g1 hb.size, fun j hj => (hb.cell (p := ⟨_, j, none⟩) h0).trans (h.c0 j hj), fun j hj => (hb.cell (p := ⟨_, j, none⟩) h1).trans (h.c1 j hj)⟩
theorem Tables.other {w w' : World} {b : Nat} (h : Tables w) (hb : w.grownBy w' (some b)) (h0 : 0 ≠ b) (h1 : 1 ≠ b) : Tables w' :=
  ⟨Nat.lt_of_lt_of_le h.g0 hb.size, Nat.lt_of_lt_of_le h.g1 hb.size, fun j hj => (cell_other hb (a := ⟨_, j, none⟩) h.g0 (by simpa using h0)).trans (h.c0 j hj), fun j hj => (cell_other hb (a := ⟨_, j, none⟩) h.g1 (by simpa using h1)).trans (h.c1 j hj)⟩

theorem set8 (l : List Int) (h : l.length = 8) (d0 d1 d2 d3 d4 d5 d6 d7 : Int) : (((((((l.set 0 d0).set 1 d1).set 2 d2).set 3 d3).set 4 d4).set 5 d5).set 6 d6).set 7 d7 = [d0, d1, d2, d3, d4, d5, d6, d7] := by
  obtain ⟨a, b, c, d, e, f, g, z, rfl⟩ := eight h
  rfl

set_option maxRecDepth 100000 in
set_option maxHeartbeats 1200000 in
theorem write_any (b pb po len cap : Nat) (m ys : List Int) (w : World) (hh : Holds w b m) (ht : Tables w) (_hpb : pb < w.heap.size) (_hne : pb ≠ b) (_hb0 : 0 ≠ b) (_hb1 : 1 ≠ b)
    (hl : ys.length = len) (_hpos : 0 < len) (_hlc : len ≤ cap) (_hcm : cap ≤ 9223372036854775807) (_hmm : m.length + len ≤ 1000000000000) (hc : ∀ j, j < len → w.cell? ⟨pb, po + j, none⟩ = some (.int .u8 (fn ys j))) (hyb : ∀ j, 0 ≤ fn ys j ∧ fn ys j ≤ 255) (hmb : ∀ j, 0 ≤ fn m j ∧ fn m j ≤ 255) :
    Calls Tryd.prog 12 #[.pointer (some ⟨b, 0, none⟩), .slice (some ⟨pb, po, none⟩) len cap] w fun e w' => e = .returned (.tuple #[]) ∧ Holds w' b (m ++ ys) ∧ w.grownBy w' (some b) := by
  obtain ⟨st, rest, hH, hst, hrest, hstb⟩ := hh.ex
  clear hh
  have hsz := hH.size
  have hfz := hH.frozen 72
  have hbl := hH.lt
  have hlen0 : ((len : Int) == 0) = false := by simp; omega
  have HH := Lib.hid hH; clear hH
  have HST := Lib.hid hst; clear hst
  have HREST := Lib.hid hrest; clear hrest
  have HSTB := Lib.hid hstb; clear hstb
  have HT := Lib.hid ht; clear ht
  have HL := Lib.hid hl; clear hl
  have HC := Lib.hid hc; clear hc
  have HYB := Lib.hid hyb; clear hyb
  have HMB := Lib.hid hmb; clear hmb
  obtain ⟨s0, s1, s2, s3, s4, s5, s6, s7, hs8⟩ := eight HH.out.1
  subst hs8
  have k0 := HH.out.state 0 (by omega)
  have k1 := HH.out.state 1 (by omega)
  have k2 := HH.out.state 2 (by omega)
  have k3 := HH.out.state 3 (by omega)
  have k4 := HH.out.state 4 (by omega)
  have k5 := HH.out.state 5 (by omega)
  have k6 := HH.out.state 6 (by omega)
  have k7 := HH.out.state 7 (by omega)
  have f0 := HH.out.frozen 0
  have f1 := HH.out.frozen 1
  have f2 := HH.out.frozen 2
  have f3 := HH.out.frozen 3
  have f4 := HH.out.frozen 4
  have f5 := HH.out.frozen 5
  have f6 := HH.out.frozen 6
  have f7 := HH.out.frozen 7
  have c0 := HT.out.c0 0 (by omega)
  have c1 := HT.out.c0 1 (by omega)
  have c2 := HT.out.c0 2 (by omega)
  have c3 := HT.out.c0 3 (by omega)
  have c4 := HT.out.c0 4 (by omega)
  have c5 := HT.out.c0 5 (by omega)
  have c6 := HT.out.c0 6 (by omega)
  have c7 := HT.out.c0 7 (by omega)
  simp only [iv, List.getD_cons_zero, List.getD_cons_succ] at k0 k1 k2 k3 k4 k5 k6 k7 c0 c1 c2 c3 c4 c5 c6 c7
  go_enter Tryd.func12, Tryd.ntmps12
  go_upto_if 18 with (fail)
  go_cut [] (fun wx => HashAt wx b (stOf m) rest m.length ∧ w.grownBy wx (some b))
  case first =>
    by_cases hz : m.length = 0
    · have hzb : ((m.length : Int) == 0) = true := beq_iff_eq.2 (by omega)
      have HZ := Lib.hid hz; clear hz
      go_wp2
      go_meet
      case rel => exact ⟨by rw [stOf_short m (by rw [HZ.out]; omega)]; exact ((((((((HH.out.setState 0 (by omega) _).setState 1 (by omega) _).setState 2 (by omega) _).setState 3 (by omega) _).setState 4 (by omega) _).setState 5 (by omega) _).setState 6 (by omega) _).setState 7 (by omega) _), (grownBy.setCell' (grownBy.setCell' (grownBy.setCell' (grownBy.setCell' (grownBy.setCell' (grownBy.setCell' (grownBy.setCell' (grownBy.setCell' (grownBy.refl' w _) _ _) _ _) _ _) _ _) _ _) _ _) _ _) _ _)⟩
    · have hzb : ((m.length : Int) == 0) = false := beq_eq_false_iff_ne.2 (by omega)
      have HZ := Lib.hid hz; clear hz
      go_wp2
      go_meet
      case rel => exact ⟨by rw [← HST.out (Nat.pos_of_ne_zero HZ.out)]; exact HH.out, grownBy.refl' w _⟩
  case rest =>
    clear k0 k1 k2 k3 k4 k5 k6 k7 f0 f1 f2 f3 f4 f5 f6 f7 c0 c1 c2 c3 c4 c5 c6 c7 hsz hfz
    obtain ⟨hH2, hg2⟩ := hcut
    have hsz := hH2.size
    have hfz := hH2.frozen 72
    have HH2 := Lib.hid hH2; clear hH2
    have HG2 := Lib.hid hg2; clear hg2
    obtain ⟨u, hu⟩ : ∃ u : Nat, (m.length : Int) % 64 = (u : Int) := ⟨m.length % 64, by omega⟩
    have hu64 : u < 64 := by omega
    have hum : m.length % 64 = u := by omega
    have HUM := Lib.hid hum; clear hum
    go_upto_if 40 with (fail)
    clear hu hfz hsz
    go_cut [1] (fun s1 wx => ∃ (m1 ys1 rest1 : List Int) (po1 len1 cap1 : Nat), Hid (m1 ++ ys1 = m ++ ys ∧ m1.length % 64 = 0 ∧ ys1.length = len1 ∧ (∀ j, j < len1 → wx.cell? ⟨pb, po1 + j, none⟩ = some (.int .u8 (fn ys1 j))) ∧ (∀ j, 0 ≤ fn ys1 j ∧ fn ys1 j ≤ 255) ∧ HashAt wx b (stOf m1) rest1 ((m ++ ys).length : Nat) ∧ w.grownBy wx (some b)) ∧
      s1 = .slice (some ⟨pb, po1, none⟩) len1 cap1 ∧ len1 ≤ cap1 ∧ cap1 ≤ 9223372036854775807 ∧ len1 ≤ 1000000000000)
    case first =>
      have hH3 : HashAt (wc.setCell ⟨b, 72, none⟩ (.int .u64 ((m.length : Int) + (len : Int)))) b (stOf m) rest ((m.length : Int) + (len : Int)) := HH2.out.setSize _
      have hg3 : w.grownBy (wc.setCell ⟨b, 72, none⟩ (.int .u64 ((m.length : Int) + (len : Int)))) (some b) := grownBy.setCell' HG2.out _ _
      generalize wc.setCell ⟨b, 72, none⟩ (.int .u64 ((m.length : Int) + (len : Int))) = w3 at hH3 hg3 ⊢
      have hc3 : ∀ j, j < len → w3.cell? ⟨pb, po + j, none⟩ = some (.int .u8 (fn ys j)) := fun j hj => (cell_other hg3 (a := ⟨pb, po + j, none⟩) _hpb (by simpa using _hne)).trans (HC.out j hj)
      have HH3 := Lib.hid hH3; clear hH3
      have HG3 := Lib.hid hg3; clear hg3
      have HC3 := Lib.hid hc3; clear hc3
      have hml : ((m ++ ys).length : Int) = (m.length : Int) + (len : Int) := by rw [List.length_append, HL.out]; omega
      have HML := Lib.hid hml; clear hml
      by_cases hu0 : u = 0
      · have hui : ¬ (0 : Int) < (u : Int) := by omega
        have HU0 := Lib.hid hu0; clear hu0
        go_wp2
        go_meet
        case rel => exact ⟨m, ys, rest, po, len, cap, Lib.hid ⟨rfl, by rw [HUM.out, HU0.out], HL.out, HC3.out, HYB.out, by rw [HML.out]; exact HH3.out, HG3.out⟩, rfl, _hlc, _hcm, by omega⟩
      · have hui : (0 : Int) < (u : Int) := by omega
        have huk : (u : Int) ≤ 64 := by omega
        obtain ⟨n, hn⟩ : ∃ n, n = len.min (64 - u) := ⟨_, rfl⟩
        have hn1 : n ≤ len := by rw [hn]; exact Nat.min_le_left _ _
        have hn2 : n ≤ 64 - u := by rw [hn]; exact Nat.min_le_right _ _
        have HN := Lib.hid hn; clear hn
        have hyl : (ys.take n).length = n := by rw [List.length_take, HL.out]; omega
        have HYL := Lib.hid hyl; clear hyl
        have hsz8 : (Tryd.prog.info? 5).map (·.size) = some 1 := by kernel_rfl
        have HSZ8 := Lib.hid hsz8; clear hsz8
        obtain ⟨cs, hcs⟩ : ∃ cs, cs = (ys.take n).map (Value.int .u8) := ⟨_, rfl⟩
        have hcl : cs.length = n := by rw [hcs, List.length_map, HYL.out]
        have hc1 : ∀ v ∈ cs, v.oneCell' = true := by intro v hv; rw [hcs, List.mem_map] at hv; obtain ⟨_, _, rfl⟩ := hv; rfl
        have hsrc : ∀ (j : Nat) (v : Value), cs[j]? = some v → w3.cell? ((⟨pb, po, none⟩ : Addr).add j) = some v := by
          intro j v hv
          have hj : j < n := by
            have := (List.getElem?_eq_some_iff.1 hv).1
            rw [hcl] at this; exact this
          rw [hcs, getElem?_map_int _ _ _ (by rw [HYL.out]; exact hj)] at hv
          rw [Addr.add_mid, HC3.out j (by omega), ← hv]
          congr 2
          simp only [fn, List.getD_eq_getElem?_getD]
          rw [List.getElem?_take_of_lt hj]
        have HSRC := Lib.hid hsrc; clear hsrc
        have hcp : HashAt (w3.setRow b ((hashCells (stOf m) rest ((m.length : Int) + (len : Int))).toArray.toList.take (8 + u) ++ (cs ++ (hashCells (stOf m) rest ((m.length : Int) + (len : Int))).toArray.toList.drop (8 + u + cs.length))).toArray) b (stOf m) (rest.take u ++ ys.take n ++ rest.drop (u + (ys.take n).length)) ((m.length : Int) + (len : Int)) := by rw [hcs]; exact HH3.out.copied u (ys.take n) (by rw [HYL.out]; omega)
        have hgc : w.grownBy (w3.setRow b ((hashCells (stOf m) rest ((m.length : Int) + (len : Int))).toArray.toList.take (8 + u) ++ (cs ++ (hashCells (stOf m) rest ((m.length : Int) + (len : Int))).toArray.toList.drop (8 + u + cs.length))).toArray) (some b) := grownBy.setRow' HG3.out _
        generalize hw4 : w3.setRow b ((hashCells (stOf m) rest ((m.length : Int) + (len : Int))).toArray.toList.take (8 + u) ++ (cs ++ (hashCells (stOf m) rest ((m.length : Int) + (len : Int))).toArray.toList.drop (8 + u + cs.length))).toArray = w4 at hcp hgc
        rw [HYL.out] at hcp
        have HCP := Lib.hid hcp; clear hcp
        have HGC := Lib.hid hgc; clear hgc
        have HW4 := Lib.hid hw4; clear hw4
        have HCL := Lib.hid hcl; clear hcl hcs
        have HC1 := Lib.hid hc1; clear hc1
        have hfit : 8 + u + cs.length ≤ (hashCells (stOf m) rest ((m.length : Int) + (len : Int))).toArray.size := by have := HH3.out.1; have := HH3.out.2.1; have := HCL.out; simp [hashCells, length_U]; omega
        have HFIT := Lib.hid hfit; clear hfit
        by_cases hfull : u + len < 64
        · have hnl : n = len := by have := HN.out; rw [this]; exact Nat.min_eq_left (by omega)
          have hsm : (u : Int) + (n : Int) < 64 := by omega
          have HNL := Lib.hid hnl; clear hnl
          go_wp2_with ((with_reducible refine wpList_copy_own (o := ⟨some 47, _, _, _, _, _⟩) rfl (.tmp 45) (.tmp 46) 22 22 rfl 5 Tryd.underlying22 HSZ8.out b (8 + u) (64 - u) (64 - u) ⟨pb, po, none⟩ len cap ?_ ?_ (hashCells (stOf m) rest ((m.length : Int) + (len : Int))).toArray 43 ?_ cs ?_ HSRC.out HFIT.out HC1.out ?_); rfl; rfl; exact HH3.out.2.2; (rw [HCL.out]; exact HN.out); (rw [HW4.out, HCL.out]))
          all_goals refine bodyPost_ret (results_none rfl _ _ _) rfl ?_
          all_goals refine ⟨rfl, ⟨stOf m, rest.take u ++ ys.take n ++ rest.drop (u + n), ?_, ?_, ?_, stOf_bd m⟩, HGC.out⟩
          all_goals first
            | (rw [HML.out]; exact HCP.out)
            | (intro _; exact (stOf_more m ys (by rw [HUM.out, HL.out]; exact hfull)).symm)
            | (rw [leftOf_more m ys (by rw [HUM.out, HL.out]; exact hfull), ← HREST.out, HUM.out, HNL.out, List.take_of_length_le (Nat.le_of_eq HL.out)]
               have e : (m ++ ys).length % 64 = (rest.take u ++ ys).length := by
                 have h1 := HH3.out.2.1
                 have h2 := HUM.out
                 have h3 := HL.out
                 rw [List.length_append, List.length_append, List.length_take]; omega
               rw [e, List.take_append_of_le_length (Nat.le_refl _), List.take_length])
        · have hnl : n = 64 - u := by have := HN.out; rw [this]; exact Nat.min_eq_right (by omega)
          have hsm : ¬ (u : Int) + (n : Int) < 64 := by omega
          have HNL := Lib.hid hnl; clear hnl
          obtain ⟨t0, t1, t2, t3, t4, t5, t6, t7, ht8⟩ := eight (length_stOf m)
          have HT8 := Lib.hid ht8; clear ht8
          have k0 := HCP.out.state 0 (by omega)
          have k1 := HCP.out.state 1 (by omega)
          have k2 := HCP.out.state 2 (by omega)
          have k3 := HCP.out.state 3 (by omega)
          have k4 := HCP.out.state 4 (by omega)
          have k5 := HCP.out.state 5 (by omega)
          have k6 := HCP.out.state 6 (by omega)
          have k7 := HCP.out.state 7 (by omega)
          rw [HT8.out] at k0 k1 k2 k3 k4 k5 k6 k7
          simp only [List.getD_cons_zero, List.getD_cons_succ] at k0 k1 k2 k3 k4 k5 k6 k7
          obtain ⟨r2, hr2⟩ : ∃ r2, r2 = rest.take u ++ ys.take n ++ rest.drop (u + n) := ⟨_, rfl⟩
          have hr2' : r2 = leftOf m ++ ys.take n := by
            have h1 := HH3.out.2.1
            rw [hr2, ← HREST.out, HUM.out, List.drop_eq_nil_of_le (by rw [HNL.out]; omega), List.append_nil]
          have hst2 : stOf (m ++ ys.take n) = comps (stOf m) (fn r2) 1 := by rw [hr2']; exact stOf_full m _ (by rw [HUM.out, HYL.out, HNL.out]; omega)
          obtain ⟨d0, d1, d2, d3, d4, d5, d6, d7, hd8⟩ := eight (length_stOf (m ++ ys.take n))
          have hr2b : ∀ j, 0 ≤ fn r2 j ∧ fn r2 j ≤ 255 := by
            intro j
            rw [hr2']
            by_cases hj : j < (leftOf m).length
            · rw [fn_left _ _ _ hj]
              have := HMB.out (64 * (m.length / 64) + j)
              unfold fn leftOf at *
              rw [List.getD_eq_getElem?_getD, List.getElem?_drop, ← List.getD_eq_getElem?_getD]; exact this
            · have e : j = (leftOf m).length + (j - (leftOf m).length) := by omega
              rw [e, fn_right]
              by_cases hj2 : j - (leftOf m).length < n
              · have := HYB.out (j - (leftOf m).length)
                unfold fn at *
                rw [List.getD_eq_getElem?_getD, List.getElem?_take_of_lt hj2, ← List.getD_eq_getElem?_getD]; exact this
              · unfold fn
                rw [List.getD_eq_getElem?_getD, List.getElem?_eq_none (by rw [HYL.out]; omega)]; simp
          rw [← hr2] at HCP
          have hM : Calls Tryd.prog 20 #[.agg #[.int .u32 t0, .int .u32 t1, .int .u32 t2, .int .u32 t3, .int .u32 t4, .int .u32 t5, .int .u32 t6, .int .u32 t7], .slice (some ⟨b, 8, none⟩) 64 64] w4.drew
              fun e w' => e = .returned (.agg #[.int .u32 d0, .int .u32 d1, .int .u32 d2, .int .u32 d3, .int .u32 d4, .int .u32 d5, .int .u32 d6, .int .u32 d7]) ∧ Below w4.heap.size w4 w' := by
            have htw := HT.out.other HGC.out _hb0 _hb1
            have := mixBlocks_any b 8 64 64 (fn r2) (stOf m) w4.drew (by omega) (by omega) HCP.out.lt hr2b (fun j hj => HCP.out.rest j hj) (length_stOf m) (stOf_bd m) htw.g1 htw.c1
            have e1 : (64 / 64 : Nat) = 1 := rfl
            rw [e1, ← hst2, hd8, HT8.out] at this
            exact this.mono fun e w' ⟨h1, h2⟩ => ⟨h1, (Below.drew (Below.refl _ _)).trans h2⟩
          have HM := Lib.hid hM; clear hM
          have HD8 := Lib.hid hd8; clear hd8
          have HR2 := Lib.hid hr2'; clear hr2' hr2 hst2 hr2b
          have hA : (m ++ ys.take n) ++ ys.drop n = m ++ ys := by rw [List.append_assoc, List.take_append_drop]
          have hB : (m ++ ys.take n).length % 64 = 0 := by have h1 := HUM.out; have h2 := HYL.out; have h3 := HNL.out; rw [List.length_append]; omega
          have hC : (ys.drop n).length = len - n := by rw [List.length_drop, HL.out]
          have hF : ∀ j, fn (ys.drop n) j = fn ys (n + j) := by intro j; unfold fn; rw [List.getD_eq_getElem?_getD, List.getElem?_drop, ← List.getD_eq_getElem?_getD]
          have hD : ∀ W, w.grownBy W (some b) → ∀ j, j < len - n → W.cell? ⟨pb, po + n + j, none⟩ = some (.int .u8 (fn (ys.drop n) j)) := by
            intro W hW j hj
            have h1 := (cell_other hW (a := ⟨pb, po + (n + j), none⟩) _hpb (by simpa using _hne)).trans (HC.out (n + j) (by omega))
            rw [hF, Nat.add_assoc]; exact h1
          have hE : ∀ j, 0 ≤ fn (ys.drop n) j ∧ fn (ys.drop n) j ≤ 255 := by intro j; rw [hF]; exact HYB.out _
          have HABC := Lib.hid (And.intro hA (And.intro hB (And.intro hC (And.intro hD hE)))); clear hA hB hC hD hE hF
          by_cases hnc : cap ≤ n
          · go_upto_region 9 with ((with_reducible refine wpList_copy_own (o := ⟨some 47, _, _, _, _, _⟩) rfl (.tmp 45) (.tmp 46) 22 22 rfl 5 Tryd.underlying22 HSZ8.out b (8 + u) (64 - u) (64 - u) ⟨pb, po, none⟩ len cap ?_ ?_ (hashCells (stOf m) rest ((m.length : Int) + (len : Int))).toArray 43 ?_ cs ?_ HSRC.out HFIT.out HC1.out ?_); rfl; rfl; exact HH3.out.2.2; (rw [HCL.out]; exact HN.out); (rw [HW4.out, HCL.out]))
            go_region_with (go_at_call 20; refine HM.out.mono ?_; rintro e w5 ⟨rfl, hb5⟩; have HQ := HCP.out.below hb5 HCP.out.lt; have k0 := HQ.state 0 (by omega); have k1 := HQ.state 1 (by omega); have k2 := HQ.state 2 (by omega); have k3 := HQ.state 3 (by omega); have k4 := HQ.state 4 (by omega); have k5 := HQ.state 5 (by omega); have k6 := HQ.state 6 (by omega); have k7 := HQ.state 7 (by omega); have f0 := HQ.frozen 0; have f1 := HQ.frozen 1; have f2 := HQ.frozen 2; have f3 := HQ.frozen 3; have f4 := HQ.frozen 4; have f5 := HQ.frozen 5; have f6 := HQ.frozen 6; have f7 := HQ.frozen 7; have HQQ := Lib.hid HQ; clear HQ; have HB5 := Lib.hid hb5; clear hb5)
            go_wp2_with fail
            go_meet
            case rel =>
              have hg := (grownBy.setCell' (grownBy.setCell' (grownBy.setCell' (grownBy.setCell' (grownBy.setCell' (grownBy.setCell' (grownBy.setCell' (grownBy.setCell' (grownBy.below' HGC.out HB5.out) 0 (.int .u32 d0)) 1 (.int .u32 d1)) 2 (.int .u32 d2)) 3 (.int .u32 d3)) 4 (.int .u32 d4)) 5 (.int .u32 d5)) 6 (.int .u32 d6)) 7 (.int .u32 d7))
              have hh := ((((((((HQQ.out.setState 0 (by omega) d0).setState 1 (by omega) d1).setState 2 (by omega) d2).setState 3 (by omega) d3).setState 4 (by omega) d4).setState 5 (by omega) d5).setState 6 (by omega) d6).setState 7 (by omega) d7)
              rw [set8 _ (length_stOf m), ← HD8.out] at hh
              refine ⟨m ++ ys.take n, ys.drop n, r2, po, len - n, cap - n, Lib.hid ⟨HABC.out.1, HABC.out.2.1, HABC.out.2.2.1, fun j hj => by omega, HABC.out.2.2.2.2, by rw [HML.out]; exact hh, hg⟩, ?_, by omega, by omega, by omega⟩
              rw [show cap - n = 0 from by omega]
          · have hnc' : ¬ n = cap := by omega
            go_upto_region 9 with ((with_reducible refine wpList_copy_own (o := ⟨some 47, _, _, _, _, _⟩) rfl (.tmp 45) (.tmp 46) 22 22 rfl 5 Tryd.underlying22 HSZ8.out b (8 + u) (64 - u) (64 - u) ⟨pb, po, none⟩ len cap ?_ ?_ (hashCells (stOf m) rest ((m.length : Int) + (len : Int))).toArray 43 ?_ cs ?_ HSRC.out HFIT.out HC1.out ?_); rfl; rfl; exact HH3.out.2.2; (rw [HCL.out]; exact HN.out); (rw [HW4.out, HCL.out]))
            go_region_with (go_at_call 20; refine HM.out.mono ?_; rintro e w5 ⟨rfl, hb5⟩; have HQ := HCP.out.below hb5 HCP.out.lt; have k0 := HQ.state 0 (by omega); have k1 := HQ.state 1 (by omega); have k2 := HQ.state 2 (by omega); have k3 := HQ.state 3 (by omega); have k4 := HQ.state 4 (by omega); have k5 := HQ.state 5 (by omega); have k6 := HQ.state 6 (by omega); have k7 := HQ.state 7 (by omega); have f0 := HQ.frozen 0; have f1 := HQ.frozen 1; have f2 := HQ.frozen 2; have f3 := HQ.frozen 3; have f4 := HQ.frozen 4; have f5 := HQ.frozen 5; have f6 := HQ.frozen 6; have f7 := HQ.frozen 7; have HQQ := Lib.hid HQ; clear HQ; have HB5 := Lib.hid hb5; clear hb5)
            go_wp2_with fail
            go_meet
            case rel =>
              have hg := (grownBy.setCell' (grownBy.setCell' (grownBy.setCell' (grownBy.setCell' (grownBy.setCell' (grownBy.setCell' (grownBy.setCell' (grownBy.setCell' (grownBy.below' HGC.out HB5.out) 0 (.int .u32 d0)) 1 (.int .u32 d1)) 2 (.int .u32 d2)) 3 (.int .u32 d3)) 4 (.int .u32 d4)) 5 (.int .u32 d5)) 6 (.int .u32 d6)) 7 (.int .u32 d7))
              have hh := ((((((((HQQ.out.setState 0 (by omega) d0).setState 1 (by omega) d1).setState 2 (by omega) d2).setState 3 (by omega) d3).setState 4 (by omega) d4).setState 5 (by omega) d5).setState 6 (by omega) d6).setState 7 (by omega) d7)
              rw [set8 _ (length_stOf m), ← HD8.out] at hh
              exact ⟨m ++ ys.take n, ys.drop n, r2, po + n, len - n, cap - n, Lib.hid ⟨HABC.out.1, HABC.out.2.1, HABC.out.2.2.1, HABC.out.2.2.2.1 _ hg, HABC.out.2.2.2.2, by rw [HML.out]; exact hh, hg⟩, rfl, by omega, by omega, by omega⟩
    case rest =>
      obtain ⟨m1, ys1, rest1, po1, len1, cap1, HH1, rfl, hlc1, hcm1, hln1⟩ := hcut
      obtain ⟨e1, e2, e3, e4, e5, e6, e7⟩ := HH1.out
      clear HH2 HG2
      have hpb1 : pb < wc.heap.size := Nat.lt_of_lt_of_le _hpb e7.size
      have htw := HT.out.other e7 _hb0 _hb1
      obtain ⟨wh, hwh⟩ : ∃ wh : Nat, (len1 : Int) - (len1 : Int) % 64 = (wh : Int) := ⟨len1 - len1 % 64, by omega⟩
      have hwl : wh = 64 * (len1 / 64) := by omega
      have hwle : wh ≤ len1 := by omega
      have hwi : (wh : Int) ≤ (cap1 : Int) := by omega
      have hwl2 : (wh : Int) ≤ (len1 : Int) := by omega
      obtain ⟨t0, t1, t2, t3, t4, t5, t6, t7, ht8⟩ := eight (length_stOf m1)
      obtain ⟨d0, d1, d2, d3, d4, d5, d6, d7, hd8⟩ := eight (length_stOf (m1 ++ ys1))
      have hM : Calls Tryd.prog 20 #[.agg #[.int .u32 t0, .int .u32 t1, .int .u32 t2, .int .u32 t3, .int .u32 t4, .int .u32 t5, .int .u32 t6, .int .u32 t7], .slice (some ⟨pb, po1, none⟩) wh cap1] wc.drew
          fun e w' => e = .returned (.agg #[.int .u32 d0, .int .u32 d1, .int .u32 d2, .int .u32 d3, .int .u32 d4, .int .u32 d5, .int .u32 d6, .int .u32 d7]) ∧ Below wc.heap.size wc w' := by
        have := mixBlocks_any pb po1 wh cap1 (fn ys1) (stOf m1) wc.drew (by omega) (by omega) hpb1 e5 (fun j hj => e4 j (by omega)) (length_stOf m1) (stOf_bd m1) htw.g1 htw.c1
        have h3 : comps (stOf m1) (fn ys1) (wh / 64) = stOf (m1 ++ ys1) := by
          rw [stOf_append _ _ e2, e3]; congr 1; omega
        rw [h3, hd8, ht8] at this
        exact this.mono fun e w' ⟨h1, h2⟩ => ⟨h1, (Below.drew (Below.refl _ _)).trans h2⟩
      have HM := Lib.hid hM; clear hM
      have HQ1 := Lib.hid e6
      have HG1 := Lib.hid e7
      have HT8 := Lib.hid ht8; clear ht8
      have HD8 := Lib.hid hd8; clear hd8
      have HWL := Lib.hid hwl; clear hwl
      clear e1 e2 e3 e4 e5 e6 e7 htw
      have k0 := HQ1.out.state 0 (by omega)
      have k1 := HQ1.out.state 1 (by omega)
      have k2 := HQ1.out.state 2 (by omega)
      have k3 := HQ1.out.state 3 (by omega)
      have k4 := HQ1.out.state 4 (by omega)
      have k5 := HQ1.out.state 5 (by omega)
      have k6 := HQ1.out.state 6 (by omega)
      have k7 := HQ1.out.state 7 (by omega)
      rw [HT8.out] at k0 k1 k2 k3 k4 k5 k6 k7
      simp only [List.getD_cons_zero, List.getD_cons_succ] at k0 k1 k2 k3 k4 k5 k6 k7
      go_upto_region 11 with (fail)
      clear hwh
      go_region_with (go_at_call 20; refine HM.out.mono ?_; rintro e w5 ⟨rfl, hb5⟩; have HQ := HQ1.out.below hb5 HQ1.out.lt; have k0 := HQ.state 0 (by omega); have k1 := HQ.state 1 (by omega); have k2 := HQ.state 2 (by omega); have k3 := HQ.state 3 (by omega); have k4 := HQ.state 4 (by omega); have k5 := HQ.state 5 (by omega); have k6 := HQ.state 6 (by omega); have k7 := HQ.state 7 (by omega); have f0 := HQ.frozen 0; have f1 := HQ.frozen 1; have f2 := HQ.frozen 2; have f3 := HQ.frozen 3; have f4 := HQ.frozen 4; have f5 := HQ.frozen 5; have f6 := HQ.frozen 6; have f7 := HQ.frozen 7; have HQQ := Lib.hid HQ; clear HQ; have HB5 := Lib.hid hb5; clear hb5)
      have hg6 := (grownBy.setCell' (grownBy.setCell' (grownBy.setCell' (grownBy.setCell' (grownBy.setCell' (grownBy.setCell' (grownBy.setCell' (grownBy.setCell' (grownBy.below' HG1.out HB5.out) 0 (.int .u32 d0)) 1 (.int .u32 d1)) 2 (.int .u32 d2)) 3 (.int .u32 d3)) 4 (.int .u32 d4)) 5 (.int .u32 d5)) 6 (.int .u32 d6)) 7 (.int .u32 d7))
      have hh6 := (((((((((HQQ.out).setState 0 (by omega) d0).setState 1 (by omega) d1).setState 2 (by omega) d2).setState 3 (by omega) d3).setState 4 (by omega) d4).setState 5 (by omega) d5).setState 6 (by omega) d6).setState 7 (by omega) d7)
      rw [set8 _ (length_stOf m1), ← HD8.out] at hh6
      generalize ((((((((w5.setCell ⟨b, 0, none⟩ (.int .u32 d0)).setCell ⟨b, 1, none⟩ (.int .u32 d1)).setCell ⟨b, 2, none⟩ (.int .u32 d2)).setCell ⟨b, 3, none⟩ (.int .u32 d3)).setCell ⟨b, 4, none⟩ (.int .u32 d4)).setCell ⟨b, 5, none⟩ (.int .u32 d5)).setCell ⟨b, 6, none⟩ (.int .u32 d6)).setCell ⟨b, 7, none⟩ (.int .u32 d7)) = w6 at hg6 hh6 ⊢
      clear k0 k1 k2 k3 k4 k5 k6 k7 f0 f1 f2 f3 f4 f5 f6 f7 HD8 HT8 HM HQQ
      have hsz8 : (Tryd.prog.info? 5).map (·.size) = some 1 := by kernel_rfl
      obtain ⟨cs, hcs⟩ : ∃ cs, cs = (ys1.drop wh).map (Value.int .u8) := ⟨_, rfl⟩
      have hyl : (ys1.drop wh).length = len1 - wh := by rw [List.length_drop, HH1.out.2.2.1]
      have hcl : cs.length = (len1 - wh).min 64 := by
        rw [hcs, List.length_map, hyl]; exact (Nat.min_eq_left (by have := HWL.out; omega)).symm
      have hcl' : cs.length = len1 - wh := by rw [hcs, List.length_map, hyl]
      have hc1 : ∀ v ∈ cs, v.oneCell' = true := by intro v hv; rw [hcs, List.mem_map] at hv; obtain ⟨_, _, rfl⟩ := hv; rfl
      have hsrc : ∀ (j : Nat) (v : Value), cs[j]? = some v → w6.drew.cell? ((⟨pb, po1 + wh, none⟩ : Addr).add j) = some v := by
        intro j v hv
        have hj : j < len1 - wh := by
          have := (List.getElem?_eq_some_iff.1 hv).1
          rw [hcl'] at this; exact this
        rw [hcs, getElem?_map_int _ _ _ (by rw [hyl]; exact hj)] at hv
        rw [Addr.add_mid]
        have h1 := (cell_other hg6 (a := ⟨pb, po1 + wh + j, none⟩) _hpb (by simpa using _hne))
        have h2 := (cell_other HG1.out (a := ⟨pb, po1 + wh + j, none⟩) _hpb (by simpa using _hne))
        have h3 := HH1.out.2.2.2.1 (wh + j) (by omega)
        rw [← Nat.add_assoc] at h3
        show w6.cell? _ = _
        rw [h1, ← h2, h3, ← hv]
        congr 2
        simp only [fn, List.getD_eq_getElem?_getD]
        rw [List.getElem?_drop]
      have hfit : 8 + cs.length ≤ (hashCells (stOf (m1 ++ ys1)) rest1 ((m ++ ys).length : Nat)).toArray.size := by have := hh6.1; have := hh6.2.1; have := HWL.out; simp only [List.size_toArray, hashCells, List.length_append, length_U, List.length_map]; omega
      have hcp : HashAt (w6.drew.setRow b ((hashCells (stOf (m1 ++ ys1)) rest1 ((m ++ ys).length : Nat)).toArray.toList.take 8 ++ (cs ++ (hashCells (stOf (m1 ++ ys1)) rest1 ((m ++ ys).length : Nat)).toArray.toList.drop (8 + cs.length))).toArray) b (stOf (m1 ++ ys1)) (rest1.take 0 ++ ys1.drop wh ++ rest1.drop (0 + (ys1.drop wh).length)) ((m ++ ys).length : Nat) := by rw [hcs]; exact hh6.drew.copied 0 (ys1.drop wh) (by rw [hyl]; have := HWL.out; omega)
      have hgc : w.grownBy (w6.drew.setRow b ((hashCells (stOf (m1 ++ ys1)) rest1 ((m ++ ys).length : Nat)).toArray.toList.take 8 ++ (cs ++ (hashCells (stOf (m1 ++ ys1)) rest1 ((m ++ ys).length : Nat)).toArray.toList.drop (8 + cs.length))).toArray) (some b) := grownBy.setRow' (grownBy.drewN' hg6 1) _
      have hfin : Holds (w6.drew.setRow b ((hashCells (stOf (m1 ++ ys1)) rest1 ((m ++ ys).length : Nat)).toArray.toList.take 8 ++ (cs ++ (hashCells (stOf (m1 ++ ys1)) rest1 ((m ++ ys).length : Nat)).toArray.toList.drop (8 + cs.length))).toArray) b (m ++ ys) ∧ w.grownBy (w6.drew.setRow b ((hashCells (stOf (m1 ++ ys1)) rest1 ((m ++ ys).length : Nat)).toArray.toList.take 8 ++ (cs ++ (hashCells (stOf (m1 ++ ys1)) rest1 ((m ++ ys).length : Nat)).toArray.toList.drop (8 + cs.length))).toArray) (some b) := by
        obtain ⟨e1, e2, e3, e4, e5, e6, e7⟩ := HH1.out
        refine ⟨⟨_, _, hcp, fun _ => by rw [e1], ?_, stOf_bd _⟩, hgc⟩
        have hwl := HWL.out
        have hl : leftOf (m ++ ys) = ys1.drop wh := by
          rw [← e1, leftOf_append _ _ e2]; unfold leftOf; rw [e3, ← hwl]
        have hlen : (m ++ ys).length % 64 = (ys1.drop wh).length := by rw [← hl, length_leftOf]
        rw [hl, hlen, List.take_zero, List.nil_append, List.take_append_of_le_length (Nat.le_refl _), List.take_length]
      have HFIN := Lib.hid hfin; clear hfin hcp hgc
      have HH6 := Lib.hid hh6; clear hh6 hg6
      have HSZ8 := Lib.hid hsz8; clear hsz8
      have HCL := Lib.hid hcl; clear hcl hyl hcs
      have HCL' := Lib.hid hcl'; clear hcl'
      have HSRC := Lib.hid hsrc; clear hsrc
      have HC1 := Lib.hid hc1; clear hc1
      have HFIT := Lib.hid hfit; clear hfit
      by_cases hnc : cap1 ≤ wh
      · have heq : cap1 = wh := by omega
        have HEQ := Lib.hid heq; clear heq
        have hs0 : ∀ (j : Nat) (v : Value), cs[j]? = some v → w6.drew.cell? ((⟨pb, po1, none⟩ : Addr).add j) = some v := by
          intro j v hv
          have h1 := (List.getElem?_eq_some_iff.1 hv).1
          have h2 := HCL'.out
          omega
        have HS0 := Lib.hid hs0; clear hs0
        go_upto_region 12 with (fail)
        go_region_law (rw [if_pos HEQ.out]; refine step_copy_row (w := w6.drew) rfl (.tmp 87) (.tmp 90) 22 22 rfl 5 Tryd.underlying22 HSZ8.out b 8 64 64 ⟨pb, po1, none⟩ (len1 - wh) (cap1 - wh) ?_ ?_ (hashCells (stOf (m1 ++ ys1)) rest1 ((m ++ ys).length : Nat)).toArray 43 HH6.out.2.2 cs HCL.out HS0.out HFIT.out HC1.out ?_; go_simp; go_simp)
        go_wp2_with fail
        first | (refine bodyPost_end (results_none rfl _ _ _) rfl ?_) | (refine bodyPost_ret (results_none rfl _ _ _) rfl ?_)
        have hf := HFIN.out
        rw [List.length_append, Int.natCast_add] at hf
        exact ⟨rfl, hf⟩
      · have hnc' : ¬ wh = cap1 := by omega
        have hnc'' : ¬ cap1 = wh := by omega
        go_upto_region 12 with (fail)
        go_region_law (refine step_copy_row (w := w6.drew) rfl (.tmp 87) (.tmp 90) 22 22 rfl 5 Tryd.underlying22 HSZ8.out b 8 64 64 ⟨pb, po1 + wh, none⟩ (len1 - wh) (cap1 - wh) ?_ ?_ (hashCells (stOf (m1 ++ ys1)) rest1 ((m ++ ys).length : Nat)).toArray 43 HH6.out.2.2 cs HCL.out HSRC.out HFIT.out HC1.out ?_; go_simp; go_simp)
        go_wp2_with fail
        first | (refine bodyPost_end (results_none rfl _ _ _) rfl ?_) | (refine bodyPost_ret (results_none rfl _ _ _) rfl ?_)
        have hf := HFIN.out
        rw [List.length_append, Int.natCast_add] at hf
        exact ⟨rfl, hf⟩
end Go.Proofs.YtlghholonjmeaaaDoor
