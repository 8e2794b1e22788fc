/-
  Layer 11: the way back, the program and the reference; maps by numbers.
-/
import Derived.Test.YtnnnpjdlhdkeaaaMaH
import Derived.Test.YtnnnpjdlhdkeaaaMaJ
import Derived.Test.YtnnnpjdlhdkeaaaMaL
import Derived.Test.YtnnnpjdlhdkeaaaOwnS
namespace Go.Proofs.Ytnnnpjdlhdkeaaa
open Go.RowKit

theorem res_back : Try.f25.results = #[.cell 2 24] := by kernel_rfl
theorem res_rback : Try.f26.results = #[.cell 2 24] := by kernel_rfl
theorem res_mk : Try.f27.results = #[.cell 2 24] := by kernel_rfl
set_option maxRecDepth 100000 in
set_option maxHeartbeats 8000000 in
theorem back_map (w : World) (A : Option Addr) (n cap : Nat) (xs : List Int) (N : Nat) (h : IR w w.heap.size A n cap xs) (hm : mayM xs (N : Int) = true) :
    Calls Try.prog 25 #[.agg #[.slice A n cap, .int .i64 (N : Int)]] w fun e w' => MapOut w w' (backM xs N) N (n : Int) e := by
  obtain ⟨w2, hw2, hb, hp1, hp2, hsz⟩ := two_pr 24 w (.slice A n cap) (.slice none 0 0) (N : Int) 0
  have HB := Lib.hid hb; have HP1 := Lib.hid hp1; have HP2 := Lib.hid hp2; have HSZ := Lib.hid hsz
  have HX := Lib.hid (h.lift hb); have HL := Lib.hid h.len.1
  obtain ⟨m0, m1, m2, m3⟩ := mayM_out hm
  have HRS := Lib.hid m3
  have hN1 : N ≤ 1048576 := by omega
  have hn1 : n ≤ 1048576 := by have := HL.out; omega
  have hmay := mayMap_any w2 A n cap xs (N : Int) HX.out
  rw [hm] at hmay
  have HM := Lib.hid hmay
  clear h hm hb hp1 hp2 hsz m0 m1 m2 m3 hmay
  go_enter Try.func25, Try.ntmps25
  go_upto_region 1 with (fail)
  clear hw2
  obtain ⟨x0, x1⟩ := HP1.out.cells
  go_upto_region 3 with (go_at_call 10; ((with_reducible refine HM.out.mono ?_); rintro e w3 ⟨rfl, h3⟩; have H3 := Lib.hid h3; clear h3))
  clear x0 x1
  have HBA := Lib.hid ((Below.refl w3.heap.size w3).alloc (Nat.le_refl _) (.cells #[.int .i64 (-1)] 3))
  have HH4 := Lib.hid (Go.MapKept.heap_alloc w3 (.cells #[.int .i64 (-1)] 3)).1
  have hz4 := World.size_alloc w3 (.cells #[.int .i64 (-1)] 3)
  have HB3 := Lib.hid (HBA.out.mono (Nat.le_refl _))
  have HP13 := Lib.hid (HP1.out.over H3.out)
  obtain ⟨x0, x1⟩ := (HP13.out.over HBA.out).cells
  have HRP := Lib.hid (show Calls Try.prog 39 #[.slice (some ⟨w3.heap.size, 0, none⟩) 1 1, .int .i64 (N : Int)] (w3.alloc (.cells #[.int .i64 (-1)] 3)) _ from
    repeat_any (w3.alloc (.cells #[.int .i64 (-1)] 3)) w3.heap.size 0 1 N hN1 (by omega) (by rw [cell_of_row _ _ 0 _ _ _ HH4.out]; rfl))
  clear hz4
  go_upto_region 4 with (go_at_call 39; ((with_reducible refine HRP.out.mono ?_); rintro e w5 ⟨rfl, h1, h2⟩; have HR5 := Lib.hid h1; have H5 := Lib.hid h2; clear h1 h2))
  clear x0 x1
  have HZ4 := Lib.hid (World.size_alloc w3 (.cells #[.int .i64 (-1)] 3))
  obtain ⟨T, hT⟩ : ∃ T, w3.heap.size + 1 = T := ⟨_, rfl⟩
  have hb5 : Below w3.heap.size w3 w5 := HBA.out.trans (H5.out.mono HBA.out.size)
  rw [HZ4.out, hT] at HR5
  rw [hT]
  have HZ4 := Lib.hid hT
  have HT2 := Lib.hid (show w.heap.size + 2 ≤ T from by have h1 := H3.out.size; have h2 := HSZ.out; have h3 := HZ4.out; omega)
  have HB25 := Lib.hid (show Below w2.heap.size w2 w5 from H3.out.trans (hb5.mono H3.out.size))
  have HQ1 := Lib.hid (HP1.out.over HB25.out); have HQ2 := Lib.hid (HP2.out.over HB25.out)
  have HX5 := Lib.hid (HX.out.below HB25.out (Nat.le_refl _))
  clear hb5 hT
  obtain ⟨x0, x1⟩ := HQ1.out.cells
  go_upto_region 5 with (fail)
  clear x0 x1
  go_loopw [17] (fun iv wr => ∃ (i : Nat) (ot : List Int), i ≤ n ∧ iv = .int .i64 (i : Int) ∧ Hid (ot.length = N) ∧ Hid (backF ot (xs.drop i) i = backM xs N) ∧ Hid (RwX (encInt .i64) 3 wr T ot) ∧ Hid (Below T w5 wr))
    (fun iv _ => n - (intOf iv).toNat)
  case atStart => exact ⟨0, List.replicate N (-1), Nat.zero_le _, rfl, Lib.hid (List.length_replicate ..), Lib.hid rfl, HR5, Lib.hid (Below.refl _ _)⟩
  case round =>
    obtain ⟨i, ot, hi, rfl, HOL, HBF, HRT, HR⟩ := hrel
    by_cases hlt : i < n
    · have hii : (i : Int) < (n : Int) := by omega
      have hi0 : (0 : Int) ≤ (i : Int) := by omega
      obtain ⟨pb, po, rfl, hpb, e0⟩ := ir_at HX5.out hlt
      have hls : i < xs.length := by rw [HL.out]; exact hlt
      have HG := Lib.hid (getD_some xs i hls)
      obtain ⟨x, hx⟩ : ∃ x, xs.getD i 0 = x := ⟨_, rfl⟩
      rw [hx] at e0 HG
      have hpT : pb < T := by have h1 := HT2.out; have h2 := HSZ.out; omega
      have y0 : wr.cell? ⟨pb, po + i, none⟩ = some (.int .i64 x) := (HR.out.cell (p := ⟨pb, po + i, none⟩) hpT).trans e0
      have HNX := Lib.hid (show backF (if x = -1 then ot else ot.set x.toNat (i : Int)) (xs.drop (i + 1)) (i + 1) = backM xs N from by
        rw [← HBF.out, List.drop_eq_getElem_cons hls]
        have : xs[i] = x := by rw [← hx, List.getD_eq_getElem?_getD, List.getElem?_eq_getElem hls]; rfl
        rw [this]; rfl)
      clear e0 hx hpb
      by_cases hg : x = -1
      · have hxb : (x != -1) = false := by rw [hg]; rfl
        have HN2 := Lib.hid (by have := HNX.out; rwa [if_pos hg] at this)
        clear hg
        go_wp2_with fail
        go_roundw
        case rel => exact ⟨i + 1, ot, by omega, by go_num, HOL, HN2, HRT, HR⟩
        case measure => simp [intOf]; omega
      · have hxb : (x != -1) = true := by rw [bne_iff_ne]; exact hg
        have hbd := HRS.out.1 i x HG.out hg
        have HN2 := Lib.hid (by have := HNX.out; rwa [if_neg hg] at this)
        obtain ⟨y, rfl⟩ : ∃ y : Nat, x = (y : Int) := ⟨x.toNat, by omega⟩
        have hyN : y < N := by omega
        have hyi : (y : Int) < (N : Int) := by omega
        have hy0 : (0 : Int) ≤ (y : Int) := by omega
        have f0 := HRT.out.rwA.melt y
        have g0 := HRT.out.intCell y (by rw [HOL.out]; exact hyN)
        clear hg hbd
        go_wp2_with fail
        clear f0 g0 y0
        go_roundw
        case rel => exact ⟨i + 1, ot.set y (i : Int), by omega, by go_num, Lib.hid (by rw [List.length_set]; exact HOL.out), HN2, Lib.hid (HRT.out.set1 y (i : Int) _ rfl), Lib.hid (HR.out.setCell (Nat.le_refl T) _)⟩
        case measure => simp [intOf]; omega
    · have hii : ¬ (i : Int) < (n : Int) := by omega
      have HE := Lib.hid (show ot = backM xs N from by rw [← HBF.out, List.drop_of_length_le (by rw [HL.out]; omega)]; rfl)
      have HS1 := Lib.hid (HQ1.out.below HR.out (by have := HT2.out; omega)); have HS2 := Lib.hid (HQ2.out.below HR.out (by have := HT2.out; omega))
      obtain ⟨x0, x1⟩ := HS1.out.cells
      obtain ⟨y0, y1⟩ := HS2.out.cells
      obtain ⟨m0, m1⟩ := HS2.out.melts
      go_wp2_with fail
      have hb2 : Below w2.heap.size w2 wr := HB25.out.trans (HR.out.mono (by have h1 := HT2.out; have h2 := HSZ.out; omega))
      have h2 := HT2.out
      refine bodyPost_ret (out_mp (HS2.out.put2 (.slice (some ⟨T, 0, none⟩) N N) (n : Int)) _ _ 2 res_back rfl) rfl ⟨T, by omega, rfl, ?_, below_put2 (HB.out.trans (hb2.mono HB.out.size)) (by omega) _ _⟩
      rw [← HE.out]
      exact HRT.out.keep (heap_put2 _ _ _ _ _ (by omega))
end Go.Proofs.Ytnnnpjdlhdkeaaa
