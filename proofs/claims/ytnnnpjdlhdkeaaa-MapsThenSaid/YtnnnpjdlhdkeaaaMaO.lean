/-
  Layer 11, the laws: maps by numbers; the document's example.
-/
import Derived.Test.YtnnnpjdlhdkeaaaMaN
namespace Go.Proofs.Ytnnnpjdlhdkeaaa
open Go.RowKit

theorem makeM_bd (ns : List Int) (i : Nat) (hi : i ≤ ns.length) : MadeOk (makeM (ns.take i)) i := by
  have h := makeM_ok (ns.take i)
  rwa [List.length_take, Nat.min_eq_left hi] at h
set_option maxRecDepth 100000 in
set_option maxHeartbeats 16000000 in
theorem make_map (w : World) (A : Option Addr) (n cap : Nat) (ns : List Int) (hs : S8 w w.heap.size A n cap ns) (hn : n ≤ 100) :
    Calls Try.prog 27 #[.slice A n cap] w fun e w' => RefOut w w' (makeM ns).1 (makeM ns).2 e := by
  obtain ⟨w2, hw2, hb, hp1, hp2, hsz⟩ := two_pr 24 w (.slice none 0 0) (.slice none 0 0) 0 0
  have HB := Lib.hid hb; have HP1 := Lib.hid hp1; have HSZ := Lib.hid hsz
  have HI := Lib.hid (ApI.nil hp2)
  have HS := Lib.hid hs
  clear hs hb hp1 hp2 hsz
  go_enter Try.func27, Try.ntmps27
  go_upto_region 2 with (fail)
  clear hw2
  go_upto_region 3 with (fail)
  go_loopw [4] (fun iv wr => ∃ (i : Nat) (A1 : Option Addr) (k1 c1 : Nat) (nw : Int), i ≤ n ∧ iv = .int .i64 (i : Int) ∧ Hid (k1 = (makeM (ns.take i)).1.length) ∧ Hid (nw = (makeM (ns.take i)).2) ∧ Hid (ApI w2 wr (w.heap.size + 1) (.slice A1 k1 c1) nw (makeM (ns.take i)).1))
    (fun iv _ => n - (intOf iv).toNat)
  case atStart => exact ⟨0, none, 0, 0, 0, Nat.zero_le _, rfl, Lib.hid rfl, Lib.hid rfl, HI⟩
  case round =>
    obtain ⟨i, A1, k1, c1, nw, hi, rfl, HK1, HNW, HA⟩ := hrel
    by_cases hlt : i < n
    · have hii : (i : Int) < (n : Int) := by omega
      have hi0 : (0 : Int) ≤ (i : Int) := by omega
      have hls : i < ns.length := by rw [HS.out.hlen]; exact hlt
      obtain ⟨pb, po, rfl, hpb, hcell⟩ := HS.out.at_.resolve_left (by omega)
      have hbx := HS.out.bytes.get i
      have HGX := Lib.hid (getD_some ns i hls)
      obtain ⟨x, hx⟩ : ∃ x : Nat, ns.getD i 0 = (x : Int) := ⟨(ns.getD i 0).toNat, by omega⟩
      have hc1 := hcell i hlt
      rw [hx] at hc1 hbx HGX
      have HBD := Lib.hid (makeM_bd ns i (by omega))
      have HMK := Lib.hid (makeM_take ns i (x : Int) HGX.out)
      have hpw : pb < w.heap.size + 1 := by omega
      have HWB := Lib.hid (HA.out.aft HB.out (by omega) (by have := HSZ.out; omega))
      have y0 := (HWB.out.cell (p := ⟨pb, po + i, none⟩) hpb).trans hc1
      have hk1 : k1 ≤ 100 := by have h1 := HBD.out.len; have h2 := HK1.out; omega
      have hnw : 0 ≤ nw ∧ nw ≤ 300 := by have h1 := HBD.out.low; have h2 := HBD.out.high; have h3 := HNW.out; omega
      have hxb : x ≤ 255 := by omega
      obtain ⟨obj, hobj⟩ : ∃ l, (makeM (ns.take i)).1 = l := ⟨_, rfl⟩
      have HOB := Lib.hid hobj
      rw [hobj] at HA HK1
      have HLN := Lib.hid HK1.out.symm
      obtain ⟨z0, z1⟩ := HA.out.cur.cells
      obtain ⟨m0, m1⟩ := HA.out.cur.melts
      obtain ⟨r, hr⟩ : ∃ r, x % 4 = r := ⟨_, rfl⟩
      have q4 : (x : Int) % 4 = (r : Int) := by omega
      have t4 : (x : Int).tmod 4 = (r : Int) := by rw [Int.tmod_eq_emod_of_nonneg (by omega)]; exact q4
      have w4 : IntKind.i64.wrap (r : Int) = (r : Int) := by rw [IntKind.wrap_i64]; omega
      have hr4 : r < 4 := by omega
      have HR := Lib.hid hr
      clear hcell hc1 hx hobj hbx hr
      by_cases c0 : r = 0
      · have d0 : ((r : Int) == 0) = true := by rw [c0]; rfl
        have HMK2 := Lib.hid (show (makeM (ns.take (i + 1))) = (obj ++ [-1], nw) from by
          rw [HMK.out]; unfold makeS; rw [if_pos (by have := HR.out; omega), HOB.out, HNW.out])
        have HBA := Lib.hid ((Below.refl wr.heap.size wr).alloc (Nat.le_refl _) (.cells #[.int .i64 (-1)] 3))
        have HAA := Lib.hid (HA.out.next HBA.out)
        clear c0 m0 m1 z1
        go_wp2_with (at_builtin; refine wpList_app_at Elem.pl (encInt .i64) rfl (.tmp 33) (.tmp 34) rfl w2.heap.size _ obj rfl HAA.out.own ⟨_, 0, none⟩ 1 1 [-1] rfl rfl ?_ ?_ ?_ ?_ ?_; exact cells_new _ _ _ rfl; (rw [HLN.out]; omega); (rw [HLN.out]; unfold maxLen; omega); (have h1 := HBA.out.size; have h2 := HA.out.gr.size; omega); intro v5 w5 h1 h2 _; obtain ⟨A5, c5, hv5⟩ := own_sl h1; simp only [List.length_append, List.length_singleton, HLN.out] at hv5; subst hv5; have HO5 := Lib.hid h1; have HG5 := Lib.hid h2; obtain ⟨m0, m1⟩ := (HAA.out.at5 h2).melts; obtain ⟨v0, v1⟩ := (HAA.out.at5 h2).cells; clear h1 h2)
        clear m0 m1 v0 v1 z0 y0
        go_roundw
        case rel => exact ⟨i + 1, A5, k1 + 1, c5, nw, by omega, by go_num, Lib.hid (by rw [HMK2.out, List.length_append, HLN.out]; rfl), Lib.hid (by rw [HMK2.out]), Lib.hid (by rw [HMK2.out]; exact HAA.out.push HO5.out HG5.out)⟩
        case measure => simp [intOf]; omega
      · have d0 : ((r : Int) == 0) = false := by rw [beq_eq_false_iff_ne]; omega
        by_cases c1' : r = 1
        · have d1 : ((r : Int) == 1) = true := by rw [c1']; rfl
          obtain ⟨q, hq⟩ : ∃ q, x / 4 = q := ⟨_, rfl⟩
          have a1 : (x : Int).tdiv 4 = (q : Int) := by rw [Int.tdiv_eq_ediv_of_nonneg (by omega)]; omega
          have a2 : (x : Int) / 4 = (q : Int) := by omega
          have a3 : IntKind.i64.wrap (q : Int) = (q : Int) := by rw [IntKind.wrap_i64]; omega
          obtain ⟨p, hp⟩ : ∃ p, q % 3 = p := ⟨_, rfl⟩
          have b1 : (q : Int) % 3 = (p : Int) := by omega
          have b2 : (q : Int).tmod 3 = (p : Int) := by rw [Int.tmod_eq_emod_of_nonneg (by omega)]; exact b1
          have b3 : IntKind.i64.wrap (p : Int) = (p : Int) := by rw [IntKind.wrap_i64]; omega
          have hp3 : p < 3 := by omega
          have HMK2 := Lib.hid (show (makeM (ns.take (i + 1))) = (obj, nw + 1 + (p : Int)) from by
            rw [HMK.out]; unfold makeS; rw [if_neg (by have := HR.out; omega), if_pos (by have := HR.out; omega), HOB.out, HNW.out, a2, b1])
          clear c0 c1' hq hp
          go_wp2_with fail
          clear m0 m1 z0 z1 y0
          go_roundw
          case rel => exact ⟨i + 1, A1, k1, c1, nw + 1 + (p : Int), by omega, by go_num, Lib.hid (by rw [HMK2.out, HLN.out]), Lib.hid (by rw [HMK2.out]), Lib.hid (by rw [HMK2.out]; exact HA.out.setN (nw + 1 + (p : Int)))⟩
          case measure => simp [intOf]; omega
        · have d1 : ((r : Int) == 1) = false := by rw [beq_eq_false_iff_ne]; omega
          have HMK2 := Lib.hid (show (makeM (ns.take (i + 1))) = (obj ++ [nw], nw + 1) from by
            rw [HMK.out]; unfold makeS; rw [if_neg (by have := HR.out; omega), if_neg (by have := HR.out; omega), HOB.out, HNW.out])
          have HBA := Lib.hid ((Below.refl wr.heap.size wr).alloc (Nat.le_refl _) (.cells #[.int .i64 nw] 3))
          have HAA := Lib.hid (HA.out.next HBA.out)
          clear c0 c1' m0 m1
          go_wp2_with (at_builtin; refine wpList_app_at Elem.pl (encInt .i64) rfl (.tmp 20) (.tmp 23) rfl w2.heap.size _ obj rfl HAA.out.own ⟨_, 0, none⟩ 1 1 [nw] rfl rfl ?_ ?_ ?_ ?_ ?_; exact cells_new _ _ _ rfl; (rw [HLN.out]; omega); (rw [HLN.out]; unfold maxLen; omega); (have h1 := HBA.out.size; have h2 := HA.out.gr.size; omega); intro v5 w5 h1 h2 _; obtain ⟨A5, c5, hv5⟩ := own_sl h1; simp only [List.length_append, List.length_singleton, HLN.out] at hv5; subst hv5; have HO5 := Lib.hid h1; have HG5 := Lib.hid h2; obtain ⟨m0, m1⟩ := (HAA.out.at5 h2).melts; obtain ⟨v0, v1⟩ := (HAA.out.at5 h2).cells; clear h1 h2)
          clear m0 m1 v0 v1 z0 z1 y0
          go_roundw
          case rel => exact ⟨i + 1, A5, k1 + 1, c5, nw + 1, by omega, by go_num, Lib.hid (by rw [HMK2.out, List.length_append, HLN.out]; rfl), Lib.hid (by rw [HMK2.out]), Lib.hid (by rw [HMK2.out]; exact (HAA.out.push HO5.out HG5.out).setN (nw + 1))⟩
          case measure => simp [intOf]; omega
    · have hii : ¬ (i : Int) < (n : Int) := by omega
      have hin : i = n := by omega
      subst hin
      have HE := Lib.hid (show ns.take i = ns from List.take_of_length_le (by rw [HS.out.hlen]; exact Nat.le_refl _))
      rw [HE.out] at HK1 HNW HA
      have HP := Lib.hid (HA.out.other HP1.out (by omega))
      obtain ⟨y0, y1⟩ := HP.out.cells
      obtain ⟨m0, m1⟩ := HP.out.melts
      obtain ⟨z0, z1⟩ := HA.out.cur.cells
      go_wp2_with fail
      have ho := HA.out.own
      rw [HSZ.out] at ho
      refine bodyPost_ret (out_mp (HP.out.put2 (.slice A1 k1 c1) nw) _ _ 2 res_mk rfl) rfl ⟨_, by rw [HNW.out], ?_, below_put2 (HA.out.aft HB.out (by omega) (by have := HSZ.out; omega)) (Nat.le_refl _) _ _⟩
      exact (ho.keep (fun g h1 _ _ => heap_put2 _ _ _ _ _ (by omega))).mono (by omega)
end Go.Proofs.Ytnnnpjdlhdkeaaa
