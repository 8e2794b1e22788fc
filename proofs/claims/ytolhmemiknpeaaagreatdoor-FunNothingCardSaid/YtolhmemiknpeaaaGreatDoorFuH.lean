/-
  Layer 8, the program: the sum.
-/
import Derived.Test.YtolhmemiknpeaaaGreatDoorFuG
import Derived.Deep.DeepCutAuto
namespace Go.Proofs.YtolhmemiknpeaaaGreatDoor
open Go.RowKit

theorem two16_ok (s : Vl) (n : Int) (hs : VOk s) : VOk (twoV 16 s (.num n)) := by
  unfold twoV
  split
  · exact hs
  split
  · rename_i h; exact absurd h (by show ¬ (1 : Int) = 4; decide)
  · show VOk (reckV sumV s (.num n))
    unfold reckV
    split
    · split
      · show VOk (fitV _)
        unfold fitV
        split
        · rename_i h; exact ok_num _ h.1 h.2
        · exact ok_err 2 (by omega) (by omega)
      · exact ok_err 1 (by omega) (by omega)
    · exact ok_err 1 (by omega) (by omega)
theorem sumF_ok : ∀ (l : List Int) (s : Vl), VOk s → VOk (sumF s l)
  | [], _, h => h
  | n :: t, s, h => sumF_ok t _ (two16_ok s n h)
theorem res_fsum : Tryz.f14.results = #[.cell 2 28] := by kernel_rfl
theorem store_below {w0 w1 : World} {B z : Nat} (h : Below B w0 w1) (hz : B ≤ z) (v : Vl) : Below B w0 (((w1.setCell ⟨z, 0, none⟩ (.int .i64 v.k)).setCell ⟨z, 1, none⟩ (.int .i64 v.n)).setCell ⟨z, 2, none⟩ (.string v.s)) := belowV3 h hz v
set_option maxRecDepth 100000 in
set_option maxHeartbeats 8000000 in
theorem fsum_any (w : World) (v : Value) (ags : List Ag) (h : SA w w.heap.size v ags) (hz : AZ ags) (ht : Tab w) (he : EtV w) : Calls Tryz.prog 14 #[.agg #[v]] w fun e w' => e = .returned (.agg #[.int .i64 (sumA ags).k, .int .i64 (sumA ags).n, .string (sumA ags).s]) ∧ Below w.heap.size w w' := by
  obtain ⟨c0, hzv, hb, hs1⟩ := cz_two w v
  have hpl := pas2_len [1] ags []
  have hpm := pas2_mem [1] ags []
  have hp := numbers_any ((w.alloc (.cells #[v] 38)).alloc (.cells #[.int .i64 0, .int .i64 0, .string ⟨#[]⟩] 28)) v ags ((h.below hb (Nat.le_refl _)).mono hb.size) hz
  obtain ⟨o, ho⟩ : ∃ o, pas2 [1] [] ags = o := ⟨_, rfl⟩
  have hol : (o.getD []).length ≤ 1000000 := by
    cases o with
    | none => simp
    | some l => have := hpl l ho; rw [List.length_nil, Nat.zero_add] at this; exact Nat.le_trans this hz.2.1
  have hok : ∀ n ∈ (o.getD []).map (·.n), -9223372036854775808 ≤ n ∧ n ≤ 9223372036854775807 := by
    intro n hn
    obtain ⟨x, hx, rfl⟩ := List.mem_map.1 hn
    cases o with
    | none => simp at hx
    | some l =>
      rcases hpm l ho x hx with h1 | ⟨a, ha, h1⟩
      · simp at h1
      · have := (hz.2.2 a ha).2 x h1; exact ⟨this.1, this.2.1⟩
  have hsum : sumA ags = match o with | none => Vl.err 1 | some l => sumF (.num 0) (l.map (·.n)) := by
    unfold sumA numsA; rw [ho]; cases o <;> rfl
  rw [ho] at hp
  rw [hsum]
  have HW1 := Lib.hid hb; have HZV := Lib.hid hzv; have HP := Lib.hid hp; have HT := Lib.hid ht; have HE := Lib.hid he; have HOK := Lib.hid hok; have HOL := Lib.hid hol
  clear hb hzv hpl hpm hp ho hol hok hsum h hz ht he
  cases o with
  | none =>
    go_enter Tryz.func14, Tryz.ntmps14
    go_upto_region 1 with (fail)
    generalize hq : w.heap.size = q at HW1 hs1 c0 HZV ⊢
    generalize ((w.alloc (.cells #[v] 38)).alloc (.cells #[.int .i64 0, .int .i64 0, .string ⟨#[]⟩] 28)) = w1 at HW1 hs1 c0 HZV HP ⊢
    have HF := Lib.hid (fun (W : World) => ffault_any 1 W)
    go_wp2_with (first
      | (go_at_call 33; ((with_reducible refine HP.out.mono ?_); rintro e w2 ⟨⟨lv, rfl, hp⟩, hb⟩; have HPV := Lib.hid hp; have HB2 := Lib.hid hb; clear hp hb))
      | (go_at_call 11; ((with_reducible refine (HF.out _).mono ?_); rintro e w3 ⟨rfl, hb⟩; have HB3 := Lib.hid (HB2.out.trans (hb.mono HB2.out.size)); have HZ3 := Lib.hid (HZV.out.over HB3.out); obtain ⟨m0, m1, m2⟩ := HZ3.out.melts; obtain ⟨u0, u1, u2⟩ := HZ3.out.cells; clear hb)))
    exact bodyPost_ret (out_vl (HZ3.out.put3 (Vl.err 1)) _ _ 2 res_fsum rfl) rfl ⟨rfl, by first | exact belowV3 (HW1.out.trans (HB3.out.mono (by omega))) (by omega) (Vl.err 1) | (rw [hq]; exact belowV3 (HW1.out.trans (HB3.out.mono (by omega))) (by omega) (Vl.err 1))⟩
  | some l =>
    obtain ⟨xs, hxs⟩ : ∃ xs, (((some l).getD []).map (·.n)) = xs := ⟨_, rfl⟩
    have hxl : xs.length ≤ 1000000 := by rw [← hxs, List.length_map]; exact HOL.out
    rw [hxs] at HOK
    rw [show (match (some l : Option (List Vl)) with | none => Vl.err 1 | some l => sumF (.num 0) (l.map (·.n))) = sumF (.num 0) xs by rw [← hxs]; rfl]
    have HXS := Lib.hid hxs
    clear hxs HOL
    have HN0 := Lib.hid (fun (W : World) => fnumber_any 0 W)
    go_enter Tryz.func14, Tryz.ntmps14
    go_upto_region 1 with (fail)
    generalize hq : w.heap.size = q at HW1 hs1 c0 HZV ⊢
    generalize ((w.alloc (.cells #[v] 38)).alloc (.cells #[.int .i64 0, .int .i64 0, .string ⟨#[]⟩] 28)) = w1 at HW1 hs1 c0 HZV HP ⊢
    go_upto_region 4 with (first
      | (go_at_call 33; ((with_reducible refine HP.out.mono ?_); rintro e w2 ⟨⟨lv, rfl, hp⟩, hb⟩; have HPV := Lib.hid hp; have HB2 := Lib.hid hb; clear hp hb)))
    clear c0
    have HSG := Lib.hid (own_sgI HPV.out)
    rw [HXS.out] at HSG
    go_upto_region 5 with (first
      | (go_at_call 34; ((with_reducible refine (HN0.out _).mono ?_); rintro e w3 ⟨rfl, hb⟩; have HB3 := Lib.hid hb; clear hb)))
    have HSG3 := Lib.hid (HSG.out.below HB3.out (Nat.le_refl _))
    have HB13 := Lib.hid (HB2.out.trans (HB3.out.mono HB2.out.size))
    have HV4 := Lib.hid (VlAt.new w3 (Vl.num 0))
    have HB4 := Lib.hid (HB13.out.alloc HB13.out.size (.cells #[.int .i64 (Vl.num 0).k, .int .i64 (Vl.num 0).n, .string (Vl.num 0).s] 28))
    have HSG4 := Lib.hid (HSG3.out.below (Aft.alloc w3 (.cells #[.int .i64 (Vl.num 0).k, .int .i64 (Vl.num 0).n, .string (Vl.num 0).s] 28)) (HB3.out.size))
    generalize hz5 : w3.heap.size = z5 at HV4 ⊢
    generalize w3.alloc (.cells #[.int .i64 (Vl.num 0).k, .int .i64 (Vl.num 0).n, .string (Vl.num 0).s] 28) = w4 at HV4 HB4 HSG4 ⊢
    obtain ⟨A, cap, rfl, hsg⟩ := id HSG4.out
    obtain ⟨m, hm⟩ : ∃ m, xs.length = m := ⟨_, rfl⟩
    rw [hm] at hxl ⊢
    have HM := Lib.hid hm; have HSA := Lib.hid hsg
    have hs4 := HB4.out.size
    have hz5' : w1.heap.size ≤ z5 := by rw [← hz5]; exact HB13.out.size
    have hz54 : z5 < w4.heap.size := HV4.out.lt
    have hz25 : w2.heap.size ≤ z5 := by rw [← hz5]; exact HB3.out.size
    have HT4 := Lib.hid (fun (W : World) (hW : Below w1.heap.size w1 W) => HT.out.below ((show Below w.heap.size w w1 by first | exact HW1.out | (rw [hq]; exact HW1.out)).trans (hW.mono (by omega))))
    have HE4 := Lib.hid (fun (W : World) (hW : Below w1.heap.size w1 W) => HE.out.below ((show Below w.heap.size w w1 by first | exact HW1.out | (rw [hq]; exact HW1.out)).trans (hW.mono (by omega))))
    clear hm hsg HSG HSG3 HB2 HB3 HB13 HPV hz5 HXS HT HE HN0 HP
    go_upto_region 6 with (fail)
    go_loopw [19] (fun iv wr => ∃ (i : Nat) (s : Vl), i ≤ m ∧ iv = .int .i64 (i : Int) ∧ Hid (VOk s) ∧ Hid (sumF (Vl.num 0) xs = sumF s (xs.drop i)) ∧ Hid (VlAt wr z5 s) ∧ Hid (Below w1.heap.size w1 wr) ∧ Hid (Below z5 w4 wr))
      (fun iv _ => m - (intOf iv).toNat)
    case atStart => exact ⟨0, Vl.num 0, Nat.zero_le _, rfl, Lib.hid (ok_num 0 (by omega) (by omega)), Lib.hid rfl, HV4, HB4, Lib.hid (Below.refl _ _)⟩
    case round =>
      obtain ⟨i, s, hi, rfl, HS, HT0, HV, HR, HR4⟩ := hrel
      by_cases hlt : i < m
      · have hii : (i : Int) < (m : Int) := by omega
        have hi0 : (0 : Int) ≤ (i : Int) := by omega
        obtain ⟨x, hx⟩ : ∃ x, xs[i]? = some x := ⟨_, List.getElem?_eq_getElem (by rw [HM.out]; exact hlt)⟩
        rcases HSA.out with e | ⟨pb, po, rfl, hpb, hc⟩
        · exfalso; rw [e] at hx; simp at hx
        have hpz : pb < z5 := by omega
        have k1 := (HR4.out.cell (p := ⟨pb, po + i, none⟩) hpz).trans (hc i x hx)
        have hxok := HOK.out x (List.mem_of_getElem? hx)
        have HD := Lib.hid (drop_at hx)
        have HNU := Lib.hid (fun (W : World) => fnumber_any x W)
        have HTWO := Lib.hid (fun (W : World) (hW : Below w1.heap.size w1 W) => two_any 16 s (Vl.num x) HS.out (ok_num x hxok.1 hxok.2) W (HT4.out W hW) (HE4.out W hW))
        have HS2 := Lib.hid (two16_ok s x HS.out)
        clear hc hx hxok
        go_upto_region 8 with (fail)
        clear k1
        have HVD := Lib.hid (show VlAt wr.drew z5 s from HV.out)
        have HRD := Lib.hid (HR.out.drew)
        have HQD := Lib.hid (HR4.out.drew)
        have hzr : z5 ≤ wr.drew.heap.size := Nat.le_of_lt HVD.out.lt
        obtain ⟨c0, c1, c2⟩ := HVD.out.cells
        go_region_with (first
          | (go_at_call 34; ((with_reducible refine (HNU.out _).mono ?_); rintro e w5 ⟨rfl, hb⟩; have HV5 := Lib.hid (HVD.out.over hb); have HR5 := Lib.hid (HRD.out.trans (hb.mono HRD.out.size)); have HQ5 := Lib.hid (HQD.out.trans (hb.mono hzr)); have hz5w := HV5.out.lt; obtain ⟨d0, d1, d2⟩ := HV5.out.cells; clear hb))
          | (go_at_call 35; ((with_reducible refine (HTWO.out _ HR5.out).mono ?_); rintro e w6 ⟨rfl, hb⟩; have HV6 := Lib.hid (HV5.out.over hb); have HR6 := Lib.hid (HR5.out.trans (hb.mono HR5.out.size)); obtain ⟨g0, g1, g2⟩ := HV6.out.cells; obtain ⟨m0, m1, m2⟩ := HV6.out.melts; have HQ6 := Lib.hid (HQ5.out.trans (hb.mono (Nat.le_of_lt hz5w))); clear hb)))
        all_goals go_wp2_with fail
        all_goals go_roundw
        all_goals first
          | exact ⟨i + 1, twoV 16 s (Vl.num x), by omega, by go_num, HS2, Lib.hid (by rw [HT0.out, HD.out]; rfl), Lib.hid (HV6.out.put3 _), Lib.hid (belowV3 HR6.out hz5' _), Lib.hid (belowV3 HQ6.out (Nat.le_refl _) _)⟩
          | (simp [intOf]; omega)
      · have hii : ¬ (i : Int) < (m : Int) := by omega
        have HF := Lib.hid (show sumF (Vl.num 0) xs = s by rw [HT0.out, show xs.drop i = [] from List.drop_of_length_le (by rw [HM.out]; omega)]; rfl)
        have HZ3 := Lib.hid (HZV.out.below HR.out (by omega))
        obtain ⟨m0, m1, m2⟩ := HZ3.out.melts
        obtain ⟨u0, u1, u2⟩ := HZ3.out.cells
        obtain ⟨c0, c1, c2⟩ := HV.out.cells
        go_wp2_with fail
        exact bodyPost_ret (out_vl (HZ3.out.put3 s) _ _ 2 res_fsum rfl) rfl ⟨by rw [HF.out], by first | exact belowV3 (HW1.out.trans (HR.out.mono (by omega))) (by omega) s | (rw [hq]; exact belowV3 (HW1.out.trans (HR.out.mono (by omega))) (by omega) s)⟩
end Go.Proofs.YtolhmemiknpeaaaGreatDoor
