/-
  Layer 11, the reference: one map behind another; maps that may be; maps that are alike.
-/
import Derived.Test.YtnnnpjdlhdkeaaaMaI
import Derived.Test.YtnnnpjdlhdkeaaaMaG
import Derived.Deep.RegionLaw
namespace Go.Proofs.Ytnnnpjdlhdkeaaa
open Go.RowKit

theorem thenM_next (xs ys : List Int) (nb : Int) (i : Nat) (h : i < xs.length) : (thenM xs ys nb).take i ++ [imgM ys nb (xs.getD i 0)] = (thenM xs ys nb).take (i + 1) := by
  have h2 : i < (thenM xs ys nb).length := by rw [length_thenM]; exact h
  rw [List.take_add_one, getD_some _ i h2, thenM_at _ _ _ _ h]; rfl
theorem res_rthen : Try.f24.results = #[.cell 4 24] := by kernel_rfl
set_option maxRecDepth 100000 in
set_option maxHeartbeats 16000000 in
theorem rthen_map (w : World) (A : Option Addr) (n cap : Nat) (xs : List Int) (na : Int) (B : Option Addr) (m c : Nat) (ys : List Int) (nb : Int) (h : IR w w.heap.size A n cap xs) (k : IR w w.heap.size B m c ys) (hn : n ≤ 1048577) (hm : m ≤ 2000000)
    (k0 : 0 ≤ nb) (k1 : nb ≤ 2000000) (hx : ∀ i, i < n → xs.getD i 0 ≤ 4398046511104) :
    Calls Try.prog 24 #[.agg #[.slice A n cap, .int .i64 na], .agg #[.slice B m c, .int .i64 nb]] w fun e w' => RefOut w w' (thenM xs ys nb) nb e := by
  obtain ⟨w3, hw3, hb, hp1, hp2, hp3, hsz⟩ := three_pr 24 w (.slice A n cap) (.slice B m c) (.slice none 0 0) na nb 0
  have HB := Lib.hid hb; have HP1 := Lib.hid hp1; have HP2 := Lib.hid hp2; have HP3 := Lib.hid hp3; have HSZ := Lib.hid hsz
  have HX := Lib.hid (h.lift hb); have HY := Lib.hid (k.lift hb); have HL := Lib.hid h.len.1; have HXB := Lib.hid hx
  clear h k hb hp1 hp2 hp3 hsz hx
  go_enter Try.func24, Try.ntmps24
  go_upto_region 1 with (fail)
  clear hw3
  obtain ⟨x0, x1⟩ := HP2.out.cells
  go_upto_region 2 with (fail)
  clear x0 x1
  have HB4 := Lib.hid (below_pr 24 w3 (.slice none 0 0) nb)
  have HI := Lib.hid (ApI.nil (PrAt.new 24 w3 (.slice none 0 0) nb))
  have hz4 := World.size_alloc w3 (.cells #[.slice none 0 0, .int .i64 nb] 24)
  obtain ⟨w4, hw4⟩ : ∃ w4, w3.alloc (.cells #[.slice none 0 0, .int .i64 nb] 24) = w4 := ⟨_, rfl⟩
  rw [hw4] at HB4 HI hz4 ⊢
  clear hw4
  rw [HSZ.out] at HI hz4 ⊢
  have HZ4 := Lib.hid hz4
  have HQ1 := Lib.hid (HP1.out.over HB4.out); have HQ2 := Lib.hid (HP2.out.over HB4.out); have HQ3 := Lib.hid (HP3.out.over HB4.out)
  have HBW := Lib.hid (HB.out.trans (HB4.out.mono HB.out.size))
  have HX4 := Lib.hid (HX.out.below HB4.out (Nat.le_refl _)); have HY4 := Lib.hid (HY.out.below HB4.out (Nat.le_refl _))
  clear hz4
  go_upto_region 3 with (fail)
  go_loopw [6] (fun iv wr => ∃ (i : Nat) (A1 : Option Addr) (c1 : Nat), i ≤ n ∧ iv = .int .i64 (i : Int) ∧ Hid (ApI w4 wr (w.heap.size + 3) (.slice A1 i c1) nb ((thenM xs ys nb).take i)))
    (fun iv _ => n - (intOf iv).toNat)
  case atStart => exact ⟨0, none, 0, Nat.zero_le _, rfl, HI⟩
  case round =>
    obtain ⟨i, A1, c1, hi, rfl, HA⟩ := hrel
    have HTL := Lib.hid (show ((thenM xs ys nb).take i).length = i from by rw [List.length_take, length_thenM, HL.out]; omega)
    have HR1 := Lib.hid (HA.out.other HQ1.out (by omega)); have HR2 := Lib.hid (HA.out.other HQ2.out (by omega)); have HR3 := Lib.hid (HA.out.other HQ3.out (by omega))
    obtain ⟨x0, x1⟩ := HR1.out.cells
    by_cases hlt : i < n
    · have hii : (i : Int) < (n : Int) := by omega
      have hi0 : (0 : Int) ≤ (i : Int) := by omega
      have HN := Lib.hid (thenM_next xs ys nb i (by rw [HL.out]; exact hlt))
      have hdb := HXB.out i hlt
      have hsz3 : w3.heap.size = w.heap.size + 3 := HSZ.out
      have hkp : Below w3.heap.size w4 wr := HA.out.keeps (by omega)
      obtain ⟨pb, po, hA, hpb, e0⟩ := ir_at HX4.out hlt
      obtain ⟨d, hd⟩ : ∃ d, xs.getD i 0 = d := ⟨_, rfl⟩
      rw [hd] at e0 HN hdb
      rw [hA] at x0
      have hpr : pb < wr.heap.size := by have := HA.out.gr.size; have := HZ4.out; omega
      have y0 : wr.cell? ⟨pb, po + i, none⟩ = some (.int .i64 d) := (hkp.cell (p := ⟨pb, po + i, none⟩) hpb).trans e0
      have hrs : w3.heap.size ≤ wr.heap.size := by have := HA.out.gr.size; have := HZ4.out; omega
      have HYR := Lib.hid (show IR wr wr.heap.size B m c ys from (HY4.out.below hkp (Nat.le_refl _)).mono hrs)
      have HIM := Lib.hid (fun (wq : World) (hb : Below wr.heap.size wr wq) => refImage_any wq B m c ys nb d (HYR.out.lift hb) hm k0 k1 hdb)
      have HBD := Lib.hid (Below.drew (Below.refl wr.heap.size wr))
      obtain ⟨z0, z1⟩ := HA.out.cur.cells
      obtain ⟨u0, u1⟩ := HR2.out.cells
      have hb2 : w.heap.size + 1 < wr.heap.size := HR2.out.lt
      have hc2 : w.heap.size + 3 < wr.heap.size := HA.out.cur.lt
      clear hkp hd hA e0 hpb
      go_upto_region 5 with (fail)
      go_region_law (first
        | (go_simp; go_at_call 22; (with_reducible refine (HIM.out _ HBD.out).mono ?_); rintro e w5 ⟨rfl, h1⟩; have H5 := Lib.hid (HBD.out.trans (h1.mono HBD.out.size)); have d3 : w5.cell? ⟨w.heap.size + 3, 0, none⟩ = some (.slice A1 i c1) := (H5.out.cell (p := ⟨w.heap.size + 3, 0, none⟩) hc2).trans z0; have d4 : (w5.alloc (.cells #[.int .i64 (imgM ys nb d)] 3)).cell? ⟨w.heap.size + 3, 0, none⟩ = some (.slice A1 i c1) := ((H5.out.alloc H5.out.size (.cells #[.int .i64 (imgM ys nb d)] 3)).cell (p := ⟨w.heap.size + 3, 0, none⟩) hc2).trans z0; clear h1; dsimp only)
        | (refine step_app_at Elem.pl (encInt .i64) rfl (.tmp 18) (.tmp 26) rfl w4.heap.size (.slice A1 i c1) ((thenM xs ys nb).take i) ?_ ((HA.out.next (H5.out.alloc H5.out.size _)).own) ⟨w5.heap.size, 0, none⟩ 1 1 [imgM ys nb d] ?_ rfl ?_ ?_ ?_ ?_ ?_; go_simp; go_simp; exact cells_new _ _ _ rfl; (rw [HTL.out]; omega); (rw [HTL.out]; unfold maxLen; omega); (rw [World.size_alloc]; have h1 := H5.out.size; have h2 := HA.out.gr.size; omega); intro v6 w6 h1 h2 _; obtain ⟨A6, c6, hv6⟩ := own_sl h1; simp only [List.length_append, List.length_singleton, HTL.out] at hv6; subst hv6; have HO6 := Lib.hid h1; have HG6 := Lib.hid h2; have HAA := Lib.hid (HA.out.next (H5.out.alloc H5.out.size (.cells #[.int .i64 (imgM ys nb d)] 3))); obtain ⟨m0, m1⟩ := (HAA.out.at5 h2).melts; obtain ⟨v0, v1⟩ := (HAA.out.at5 h2).cells; clear h1 h2))
      all_goals
        clear m0 m1 v0 v1 x0 x1 y0 z0 z1 d3 d4 u0 u1
        go_wp2_with fail
        go_roundw
        case rel => exact ⟨i + 1, A6, c6, by omega, by go_num, Lib.hid (by have h1 := HO6.out; rw [HN.out] at h1; exact HAA.out.push h1 HG6.out)⟩
        case measure => simp [intOf]; omega
    · have hii : ¬ (i : Int) < (n : Int) := by omega
      have hin : i = n := by omega
      subst hin
      obtain ⟨y0, y1⟩ := HR3.out.cells
      obtain ⟨m0, m1⟩ := HR3.out.melts
      obtain ⟨z0, z1⟩ := HA.out.cur.cells
      go_wp2_with fail
      have hfull : (thenM xs ys nb).take i = thenM xs ys nb := List.take_of_length_le (by rw [length_thenM, HL.out]; exact Nat.le_refl _)
      have ho := HA.out.own
      rw [hfull, HZ4.out] at ho
      refine bodyPost_ret (out_mp (HR3.out.put2 (.slice A1 i c1) nb) _ _ 4 res_rthen rfl) rfl ⟨_, rfl, ?_, below_put2 (HA.out.aft HBW.out (by omega) (by have := HZ4.out; omega)) (by omega) _ _⟩
      exact (ho.keep (fun g h1 _ _ => heap_put2 _ _ _ _ _ (by omega))).mono (by omega)
end Go.Proofs.Ytnnnpjdlhdkeaaa
