/-
  Layer 11, the reference: the way back.
-/
import Derived.Test.YtnnnpjdlhdkeaaaMaM
namespace Go.Proofs.Ytnnnpjdlhdkeaaa
open Go.RowKit

theorem ApI.setAt {w1 w : World} {b g n c : Nat} {k : Int} {xs : List Int} (h : ApI w1 w b (.slice (some ⟨g, 0, none⟩) n c) k xs) (i : Nat) (x : Int) : ApI w1 (w.setCell ⟨g, i, none⟩ (.int .i64 x)) b (.slice (some ⟨g, 0, none⟩) n c) k (xs.set i x) := by
  have hg := (h.own.lies (g := g) rfl).1
  have hb := h.blt
  refine ⟨h.cur.other _ _ (by show b ≠ g; omega), h.own.set1 i x _ rfl, ⟨h.gr.os, h.gr.tape, h.gr.output, by rw [World.size_setCell]; exact h.gr.size, fun j hj hr => ?_⟩, hb⟩
  exact (heap_setCell_other w _ j _ (by show j ≠ g; omega)).trans (h.gr.block j hj hr)
theorem rep_next (i : Nat) (x : Int) : List.replicate i x ++ [x] = List.replicate (i + 1) x := by rw [List.replicate_succ']
set_option maxRecDepth 100000 in
set_option maxHeartbeats 8000000 in
theorem rback_map (w : World) (A : Option Addr) (n cap : Nat) (xs : List Int) (N : Nat) (h : IR w w.heap.size A n cap xs) (hN : N ≤ 1048576) (hn : n ≤ 1048576) (hr : Rises (-1) (N : Int) xs) :
    Calls Try.prog 26 #[.agg #[.slice A n cap, .int .i64 (N : Int)]] w fun e w' => RefOut w w' (backM xs N) (n : Int) e := by
  obtain ⟨w2, hw2, hb, hp1, hp2, hsz⟩ := two_pr 24 w (.slice A n cap) (.slice none 0 0) (N : Int) 0
  have HB := Lib.hid hb; have HP1 := Lib.hid hp1; have HP2 := Lib.hid hp2; have HSZ := Lib.hid hsz
  have HX := Lib.hid (h.lift hb); have HL := Lib.hid h.len.1; have HRS := Lib.hid hr
  clear h hr hb hp1 hp2 hsz
  go_enter Try.func26, Try.ntmps26
  go_upto_region 1 with (fail)
  clear hw2
  obtain ⟨x0, x1⟩ := HP1.out.cells
  go_upto_region 2 with (fail)
  clear x0 x1
  have HB3 := Lib.hid (below_pr 24 w2 (.slice none 0 0) (n : Int))
  have HI := Lib.hid (ApI.nil (PrAt.new 24 w2 (.slice none 0 0) (n : Int)))
  have hz3 := World.size_alloc w2 (.cells #[.slice none 0 0, .int .i64 (n : Int)] 24)
  obtain ⟨w3, hw3⟩ : ∃ w3, w2.alloc (.cells #[.slice none 0 0, .int .i64 (n : Int)] 24) = w3 := ⟨_, rfl⟩
  rw [hw3] at HB3 HI hz3 ⊢
  clear hw3
  rw [HSZ.out] at HI hz3 ⊢
  have HZ3 := Lib.hid hz3
  have HQ1 := Lib.hid (HP1.out.over HB3.out); have HQ2 := Lib.hid (HP2.out.over HB3.out)
  have HBW := Lib.hid (HB.out.trans (HB3.out.mono HB.out.size))
  have HX3 := Lib.hid (HX.out.below HB3.out (Nat.le_refl _))
  clear hz3
  go_upto_region 3 with (fail)
  go_loopw [4] (fun iv wr => ∃ (i : Nat) (A1 : Option Addr) (c1 : Nat), i ≤ N ∧ iv = .int .i64 (i : Int) ∧ Hid (ApI w3 wr (w.heap.size + 2) (.slice A1 i c1) (n : Int) (List.replicate i (-1))))
    (fun iv _ => N - (intOf iv).toNat)
  case atStart => exact ⟨0, none, 0, Nat.zero_le _, rfl, HI⟩
  case round =>
    obtain ⟨i, A1, c1, hi, rfl, HA⟩ := hrel
    have HTL := Lib.hid (show (List.replicate i (-1 : Int)).length = i from List.length_replicate ..)
    have HR1 := Lib.hid (HA.out.other HQ1.out (by omega)); have HR2 := Lib.hid (HA.out.other HQ2.out (by omega))
    obtain ⟨x0, x1⟩ := HR1.out.cells
    by_cases hlt : i < N
    · have hii : (i : Int) < (N : Int) := by omega
      have HN := Lib.hid (rep_next i (-1))
      obtain ⟨z0, z1⟩ := HA.out.cur.cells
      have HBA := Lib.hid ((Below.refl wr.heap.size wr).alloc (Nat.le_refl _) (.cells #[.int .i64 (-1)] 3))
      have HAA := Lib.hid (HA.out.next HBA.out)
      go_wp2_with (at_builtin; refine wpList_app_at Elem.pl (encInt .i64) rfl (.tmp 17) (.tmp 18) rfl w3.heap.size _ (List.replicate i (-1)) rfl HAA.out.own ⟨_, 0, none⟩ 1 1 [-1] rfl rfl ?_ ?_ ?_ ?_ ?_; exact cells_new _ _ _ rfl; (rw [HTL.out]; omega); (rw [HTL.out]; unfold maxLen; omega); (have h1 := HBA.out.size; have h2 := HA.out.gr.size; omega); intro v5 w5 h1 h2 _; obtain ⟨A5, c5, hv5⟩ := own_sl h1; simp only [List.length_append, List.length_singleton, HTL.out] at hv5; subst hv5; have HO5 := Lib.hid h1; have HG5 := Lib.hid h2; obtain ⟨m0, m1⟩ := (HAA.out.at5 h2).melts; obtain ⟨v0, v1⟩ := (HAA.out.at5 h2).cells; clear h1 h2)
      clear m0 m1 z0 z1 x0 x1 v0 v1
      go_roundw
      case rel => exact ⟨i + 1, A5, c5, by omega, by go_num, Lib.hid (by have h1 := HO5.out; rw [HN.out] at h1; exact HAA.out.push h1 HG5.out)⟩
      case measure => simp [intOf]; omega
    · have hii : ¬ (i : Int) < (N : Int) := by omega
      have hin : i = N := by omega
      subst hin
      have HAN := Lib.hid HA.out
      clear HA HR1 HR2 HTL
      go_wp2_with fail
      clear x0 x1
      go_loopw [5] (fun iv wx => ∃ (j : Nat) (ot : List Int), j ≤ n ∧ iv = .int .i64 (j : Int) ∧ Hid (ot.length = i) ∧ Hid (backF ot (xs.drop j) j = backM xs i) ∧ Hid (ApI w3 wx (w.heap.size + 2) (.slice A1 i c1) (n : Int) ot))
        (fun iv _ => n - (intOf iv).toNat)
      case atStart => exact ⟨0, List.replicate i (-1), Nat.zero_le _, rfl, Lib.hid (List.length_replicate ..), Lib.hid rfl, HAN⟩
      case round =>
        obtain ⟨j, ot, hj, rfl, HOL, HBF, HA⟩ := hrel
        have HR1 := Lib.hid (HA.out.other HQ1.out (by omega)); have HR2 := Lib.hid (HA.out.other HQ2.out (by omega))
        obtain ⟨x0, x1⟩ := HR1.out.cells
        obtain ⟨z0, z1⟩ := HA.out.cur.cells
        by_cases hlt2 : j < n
        · have hji : (j : Int) < (n : Int) := by omega
          have hj0 : (0 : Int) ≤ (j : Int) := by omega
          obtain ⟨pb, po, hAd, hpb, e0⟩ := ir_at HX3.out hlt2
          rw [hAd] at x0
          have hls : j < xs.length := by rw [HL.out]; exact hlt2
          have HG := Lib.hid (getD_some xs j hls)
          obtain ⟨x, hx⟩ : ∃ x, xs.getD j 0 = x := ⟨_, rfl⟩
          rw [hx] at e0 HG
          have HNX := Lib.hid (show backF (if x = -1 then ot else ot.set x.toNat (j : Int)) (xs.drop (j + 1)) (j + 1) = backM xs i from by
            rw [← HBF.out, List.drop_eq_getElem_cons hls]
            have : xs[j] = x := by rw [← hx, List.getD_eq_getElem?_getD, List.getElem?_eq_getElem hls]; rfl
            rw [this]; rfl)
          have hpw : pb < w.heap.size + 2 := by have := HSZ.out; omega
          have HKB := Lib.hid (HA.out.keeps (Nat.le_refl _))
          have y0 := (HKB.out.cell (p := ⟨pb, po + j, none⟩) hpw).trans e0
          have hbd := HRS.out.1 j x HG.out
          clear e0 hx hpb hAd hpw
          by_cases hg : x = -1
          · have hxi : ¬ (0 : Int) ≤ x := by omega
            have HN2 := Lib.hid (by have := HNX.out; rwa [if_pos hg] at this)
            clear hg hbd
            go_wp2_with fail
            go_roundw
            case rel => exact ⟨j + 1, ot, by omega, by go_num, HOL, HN2, HA⟩
            case measure => simp [intOf]; omega
          · have hbd := hbd hg
            have HN2 := Lib.hid (by have := HNX.out; rwa [if_neg hg] at this)
            obtain ⟨y, rfl⟩ : ∃ y : Nat, x = (y : Int) := ⟨x.toNat, by omega⟩
            have hyN : y < i := by omega
            have hyi : (y : Int) < (i : Int) := by omega
            have hy0 : (0 : Int) ≤ (y : Int) := by omega
            obtain ⟨g, c', hA1, hg1, hg2, _⟩ := HA.out.own.some (by rw [HOL.out]; omega)
            injection hA1 with hA1 h2 h3
            have hA1g := hA1
            rw [hA1] at z0
            have HA2 := Lib.hid (show ApI w3 wr (w.heap.size + 2) (.slice (some ⟨g, 0, none⟩) i c1) (n : Int) ot from hA1 ▸ HA.out)
            have f0 := HA2.out.own.rwA.melt y
            have g0 := HA2.out.own.intCell y (by rw [HOL.out]; exact hyN)
            have HS := Lib.hid (show ApI w3 (wr.setCell ⟨g, y, none⟩ (.int .i64 (j : Int))).drew (w.heap.size + 2) (.slice A1 i c1) (n : Int) (ot.set y (j : Int)) from hA1g ▸ (HA2.out.setAt y (j : Int)).next (Below.drew (Below.refl _ _)))
            clear hg hbd hA1 hA1g h2 h3 hg1 hg2
            go_upto_region 10 with (fail)
            go_region
            all_goals clear f0 g0 y0 x0 x1 z0 z1
            all_goals go_wp2_with fail
            all_goals go_roundw
            all_goals first
              | exact ⟨j + 1, ot.set y (j : Int), by omega, by go_num, Lib.hid (by rw [List.length_set]; exact HOL.out), HN2, HS⟩
              | (simp [intOf]; omega)
              | fail
        · have hji : ¬ (j : Int) < (n : Int) := by omega
          have HE := Lib.hid (show ot = backM xs i from by rw [← HBF.out, List.drop_of_length_le (by rw [HL.out]; omega)]; rfl)
          obtain ⟨y0, y1⟩ := HR2.out.cells
          obtain ⟨m0, m1⟩ := HR2.out.melts
          go_wp2_with fail
          have ho := HA.out.own
          rw [HE.out, HZ3.out] at ho
          refine bodyPost_ret (out_mp (HR2.out.put2 (.slice A1 i c1) (n : Int)) _ _ 2 res_rback rfl) rfl ⟨_, rfl, ?_, below_put2 (HA.out.aft HBW.out (by omega) (by have := HZ3.out; omega)) (by omega) _ _⟩
          exact (ho.keep (fun g h1 _ _ => heap_put2 _ _ _ _ _ (by omega))).mono (by omega)
end Go.Proofs.Ytnnnpjdlhdkeaaa
