/-
  Layer 8, the program: what is left; a choice.
-/
import Derived.Test.YtolhmemiknpeaaaGreatDoorFuI
import Derived.Deep.DeepCutAuto
namespace Go.Proofs.YtolhmemiknpeaaaGreatDoor
open Go.RowKit

theorem single_0 (w : World) (v : Value) (ags : List Ag) (h : SA w w.heap.size v ags) (hz : AZ ags) (hlt : 0 < ags.length) : Calls Tryz.prog 42 #[.agg #[v], .int .i64 0] w fun e w' => e = .returned (.agg #[.int .i64 (sglA ags 0).k, .int .i64 (sglA ags 0).n, .string (sglA ags 0).s]) ∧ Below w.heap.size w w' := single_any w v ags 0 h hz hlt
theorem single_1 (w : World) (v : Value) (ags : List Ag) (h : SA w w.heap.size v ags) (hz : AZ ags) (hlt : 1 < ags.length) : Calls Tryz.prog 42 #[.agg #[v], .int .i64 1] w fun e w' => e = .returned (.agg #[.int .i64 (sglA ags 1).k, .int .i64 (sglA ags 1).n, .string (sglA ags 1).s]) ∧ Below w.heap.size w w' := single_any w v ags 1 h hz hlt
theorem single_2 (w : World) (v : Value) (ags : List Ag) (h : SA w w.heap.size v ags) (hz : AZ ags) (hlt : 2 < ags.length) : Calls Tryz.prog 42 #[.agg #[v], .int .i64 2] w fun e w' => e = .returned (.agg #[.int .i64 (sglA ags 2).k, .int .i64 (sglA ags 2).n, .string (sglA ags 2).s]) ∧ Below w.heap.size w w' := single_any w v ags 2 h hz hlt
theorem sgl_ok (ags : List Ag) (hz : AZ ags) (i : Nat) (hi : i < ags.length) : VOk (sglA ags i) := by
  obtain ⟨a, ha⟩ : ∃ a, ags[i]? = some a := ⟨_, List.getElem?_eq_getElem hi⟩
  have hsg : sglA ags i = a.vs.headD Vl.none := by unfold sglA; rw [List.getD_eq_getElem?_getD, ha]; rfl
  rw [hsg]
  have hall := (hz.2.2 a (List.mem_of_getElem? ha)).2
  cases hv : a.vs with
  | nil => exact ok_none
  | cons x t => exact hall x (by rw [hv]; exact List.mem_cons_self ..)
theorem tmod_bd (a b : Int) (h : ¬ b = 0) (hb : -9223372036854775808 ≤ b) (hb2 : b ≤ 9223372036854775807) : -9223372036854775807 ≤ a.tmod b ∧ a.tmod b ≤ 9223372036854775807 ∧ (a.tmod b < 0 → 0 < b → -b < a.tmod b) ∧ (0 < a.tmod b → b < 0 → a.tmod b < -b) := by
  have h1 : (a.tmod b).natAbs < b.natAbs := by rw [Int.natAbs_tmod]; exact Nat.mod_lt _ (by omega)
  omega
theorem res_rest : Tryz.f23.results = #[.cell 2 28] := by kernel_rfl
theorem res_choice : Tryz.f20.results = #[.cell 2 28] := by kernel_rfl
set_option maxRecDepth 100000 in
set_option maxHeartbeats 8000000 in
theorem rest_any (w : World) (v : Value) (ags : List Ag) (h : SA w w.heap.size v ags) (hz : AZ ags) (hl : ags.length = 2) : Calls Tryz.prog 23 #[.agg #[v]] w fun e w' => e = .returned (.agg #[.int .i64 (restA ags).k, .int .i64 (restA ags).n, .string (restA ags).s]) ∧ Below w.heap.size w w' := by
  obtain ⟨⟨A, cap, rfl, hat⟩, hkid⟩ := id h
  obtain ⟨c1, hzv, hb, hs1⟩ := cz_two w (.slice A ags.length cap)
  have hS : ∀ W : World, Below ((w.alloc (.cells #[.slice A ags.length cap] 38)).alloc (.cells #[.int .i64 0, .int .i64 0, .string ⟨#[]⟩] 28)).heap.size ((w.alloc (.cells #[.slice A ags.length cap] 38)).alloc (.cells #[.int .i64 0, .int .i64 0, .string ⟨#[]⟩] 28)) W → SA W W.heap.size (.slice A ags.length cap) ags := fun W hW => (h.below (hb.trans (hW.mono (by omega))) (Nat.le_refl _)).mono (by have := hW.size; omega)
  obtain ⟨n, hn⟩ : ∃ n, ags.length = n := ⟨_, rfl⟩
  rw [hn] at hS c1 hzv hb hs1 hl ⊢
  have HW1 := Lib.hid hb; have HZ1 := Lib.hid hzv; have HSA := Lib.hid hS; have HZA := Lib.hid hz; have HN := Lib.hid hn
  subst hl
  have hx0 := sgl_ok ags hz 0 (by rw [HN.out]; omega)
  have hx1 := sgl_ok ags hz 1 (by rw [HN.out]; omega)
  have hr : restA ags = (if isInt (sglA ags 0) = true ∧ isInt (sglA ags 1) = true then (if intV (sglA ags 1) = 0 then Vl.err 3 else .num (modI (intV (sglA ags 0)) (intV (sglA ags 1)))) else .err 1) := rfl
  obtain ⟨rv, hrv⟩ : ∃ rv, restA ags = rv := ⟨_, rfl⟩
  rw [hrv] at hr ⊢
  have HI0 := Lib.hid (fun (W : World) => int_any (sglA ags 0) W)
  have HI1 := Lib.hid (fun (W : World) => int_any (sglA ags 1) W)
  have b1 := hx1.int; have b0 := hx0.int
  obtain ⟨i0, hi0⟩ : ∃ i0, isInt (sglA ags 0) = i0 := ⟨_, rfl⟩
  obtain ⟨i1, hi1⟩ : ∃ i1, isInt (sglA ags 1) = i1 := ⟨_, rfl⟩
  obtain ⟨a, ha⟩ : ∃ a, intV (sglA ags 0) = a := ⟨_, rfl⟩
  obtain ⟨b, hbb⟩ : ∃ b, intV (sglA ags 1) = b := ⟨_, rfl⟩
  rw [hi0, ha] at HI0
  rw [hi1, hbb] at HI1
  rw [hi0, hi1, ha, hbb] at hr
  have HRV := Lib.hid hr
  rw [hbb] at b1
  rw [ha] at b0
  clear h hz hb hzv hat hkid hS hn hx0 hx1 hr hi0 hi1 ha hbb hrv
  go_enter Tryz.func23, Tryz.ntmps23
  go_upto_region 1 with (fail)
  have HB1 := Lib.hid (Below.refl ((w.alloc (.cells #[.slice A 2 cap] 38)).alloc (.cells #[.int .i64 0, .int .i64 0, .string ⟨#[]⟩] 28)).heap.size ((w.alloc (.cells #[.slice A 2 cap] 38)).alloc (.cells #[.int .i64 0, .int .i64 0, .string ⟨#[]⟩] 28)))
  generalize hq : w.heap.size = q at HW1 hs1 c1 HZ1 ⊢
  generalize ((w.alloc (.cells #[.slice A 2 cap] 38)).alloc (.cells #[.int .i64 0, .int .i64 0, .string ⟨#[]⟩] 28)) = w1 at HW1 hs1 c1 HZ1 HB1 HSA ⊢
  by_cases hii : i0 = true ∧ i1 = true
  · obtain ⟨rfl, rfl⟩ := hii
    by_cases hb0 : b = 0
    · have e0 : (b == 0) = true := beq_iff_eq.2 hb0
      have HX := Lib.hid (show rv = Vl.err 3 by rw [HRV.out, if_pos ⟨rfl, rfl⟩, if_pos hb0])
      have HF := Lib.hid (fun (W : World) => ffault_any 3 W)
      go_wp2_with (first
        | (go_at_call 42; ((with_reducible refine (single_0 _ _ _ (HSA.out _ HB1.out) HZA.out (by rw [HN.out]; omega)).mono ?_); rintro e w2 ⟨rfl, hb⟩; have HB2 := Lib.hid (HB1.out.trans (hb.mono HB1.out.size)); have c2 := (hb.cell (p := ⟨q, 0, none⟩) (by have := HB1.out.size; show q < _; omega)).trans c1; have HZ2 := Lib.hid (HZ1.out.over hb); obtain ⟨m0, m1, m2⟩ := HZ2.out.melts; obtain ⟨u0, u1, u2⟩ := HZ2.out.cells; clear hb))
        | (go_at_call 44; ((with_reducible refine (HI0.out _).mono ?_); rintro e w3 ⟨rfl, hb⟩; have HB3 := Lib.hid (HB2.out.trans (hb.mono HB2.out.size)); have c3 := (hb.cell (p := ⟨q, 0, none⟩) (by have := HB2.out.size; show q < _; omega)).trans c2; have HZ3 := Lib.hid (HZ2.out.over hb); obtain ⟨m0, m1, m2⟩ := HZ3.out.melts; obtain ⟨u0, u1, u2⟩ := HZ3.out.cells; clear hb))
        | (go_at_call 42; ((with_reducible refine (single_1 _ _ _ (HSA.out _ HB3.out) HZA.out (by rw [HN.out]; omega)).mono ?_); rintro e w4 ⟨rfl, hb⟩; have HB4 := Lib.hid (HB3.out.trans (hb.mono HB3.out.size)); have c4 := (hb.cell (p := ⟨q, 0, none⟩) (by have := HB3.out.size; show q < _; omega)).trans c3; have HZ4 := Lib.hid (HZ3.out.over hb); obtain ⟨m0, m1, m2⟩ := HZ4.out.melts; obtain ⟨u0, u1, u2⟩ := HZ4.out.cells; clear hb))
        | (go_at_call 44; ((with_reducible refine (HI1.out _).mono ?_); rintro e w5 ⟨rfl, hb⟩; have HB5 := Lib.hid (HB4.out.trans (hb.mono HB4.out.size)); have c5 := (hb.cell (p := ⟨q, 0, none⟩) (by have := HB4.out.size; show q < _; omega)).trans c4; have HZ5 := Lib.hid (HZ4.out.over hb); obtain ⟨m0, m1, m2⟩ := HZ5.out.melts; obtain ⟨u0, u1, u2⟩ := HZ5.out.cells; clear hb))
        | (go_at_call 11; ((with_reducible refine (HF.out _).mono ?_); rintro e w6 ⟨rfl, hb⟩; have HB6 := Lib.hid (HB5.out.trans (hb.mono HB5.out.size)); have c6 := (hb.cell (p := ⟨q, 0, none⟩) (by have := HB5.out.size; show q < _; omega)).trans c5; have HZ6 := Lib.hid (HZ5.out.over hb); obtain ⟨m0, m1, m2⟩ := HZ6.out.melts; obtain ⟨u0, u1, u2⟩ := HZ6.out.cells; clear hb)))
      exact bodyPost_ret (out_vl (HZ6.out.put3 (Vl.err 3)) _ _ 2 res_rest rfl) rfl ⟨by rw [HX.out], by first | exact belowV3 (HW1.out.trans (HB6.out.mono (by omega))) (by omega) (Vl.err 3) | (rw [hq]; exact belowV3 (HW1.out.trans (HB6.out.mono (by omega))) (by omega) (Vl.err 3))⟩
    · have e0 : (b == 0) = false := beq_eq_false_iff_ne.2 hb0
      have HX := Lib.hid (show rv = .num (modI a b) by rw [HRV.out, if_pos ⟨rfl, rfl⟩, if_neg hb0])
      obtain ⟨t1, t2, t3, t4⟩ := tmod_bd a b hb0 b1.1 b1.2
      have HNU := Lib.hid (fun (W : World) => fnumber_any (modI a b) W)
      go_upto_region 7 with (first
        | (go_at_call 42; ((with_reducible refine (single_0 _ _ _ (HSA.out _ HB1.out) HZA.out (by rw [HN.out]; omega)).mono ?_); rintro e w2 ⟨rfl, hb⟩; have HB2 := Lib.hid (HB1.out.trans (hb.mono HB1.out.size)); have c2 := (hb.cell (p := ⟨q, 0, none⟩) (by have := HB1.out.size; show q < _; omega)).trans c1; have HZ2 := Lib.hid (HZ1.out.over hb); obtain ⟨m0, m1, m2⟩ := HZ2.out.melts; obtain ⟨u0, u1, u2⟩ := HZ2.out.cells; clear hb))
        | (go_at_call 44; ((with_reducible refine (HI0.out _).mono ?_); rintro e w3 ⟨rfl, hb⟩; have HB3 := Lib.hid (HB2.out.trans (hb.mono HB2.out.size)); have c3 := (hb.cell (p := ⟨q, 0, none⟩) (by have := HB2.out.size; show q < _; omega)).trans c2; have HZ3 := Lib.hid (HZ2.out.over hb); obtain ⟨m0, m1, m2⟩ := HZ3.out.melts; obtain ⟨u0, u1, u2⟩ := HZ3.out.cells; clear hb))
        | (go_at_call 42; ((with_reducible refine (single_1 _ _ _ (HSA.out _ HB3.out) HZA.out (by rw [HN.out]; omega)).mono ?_); rintro e w4 ⟨rfl, hb⟩; have HB4 := Lib.hid (HB3.out.trans (hb.mono HB3.out.size)); have c4 := (hb.cell (p := ⟨q, 0, none⟩) (by have := HB3.out.size; show q < _; omega)).trans c3; have HZ4 := Lib.hid (HZ3.out.over hb); obtain ⟨m0, m1, m2⟩ := HZ4.out.melts; obtain ⟨u0, u1, u2⟩ := HZ4.out.cells; clear hb))
        | (go_at_call 44; ((with_reducible refine (HI1.out _).mono ?_); rintro e w5 ⟨rfl, hb⟩; have HB5 := Lib.hid (HB4.out.trans (hb.mono HB4.out.size)); have c5 := (hb.cell (p := ⟨q, 0, none⟩) (by have := HB4.out.size; show q < _; omega)).trans c4; have HZ5 := Lib.hid (HZ4.out.over hb); obtain ⟨m0, m1, m2⟩ := HZ5.out.melts; obtain ⟨u0, u1, u2⟩ := HZ5.out.cells; clear hb)))
      go_upto_region 8 with (fail)
      have hmd : modI a b = (if a.tmod b ≠ 0 ∧ (decide (a.tmod b < 0) != decide (b < 0)) = true then a.tmod b + b else a.tmod b) := rfl
      obtain ⟨t, ht⟩ : ∃ t, a.tmod b = t := ⟨_, rfl⟩
      rw [ht] at hmd t1 t2 t3 t4 ⊢
      have HMD := Lib.hid hmd
      clear hmd ht
      by_cases h0 : t = 0
      · have e1 : (t != 0) = false := by rw [h0]; rfl
        have HM2 := Lib.hid (show modI a b = t by rw [HMD.out]; exact if_neg (fun h => h.1 h0))
        rw [HM2.out] at HX HNU
        clear h0
        go_wp2_with (first
          | (go_at_call 34; ((with_reducible refine (HNU.out _).mono ?_); rintro e w6 ⟨rfl, hb⟩; have HB6 := Lib.hid (HB5.out.trans (hb.mono HB5.out.size)); have c6 := (hb.cell (p := ⟨q, 0, none⟩) (by have := HB5.out.size; show q < _; omega)).trans c5; have HZ6 := Lib.hid (HZ5.out.over hb); obtain ⟨m0, m1, m2⟩ := HZ6.out.melts; obtain ⟨u0, u1, u2⟩ := HZ6.out.cells; clear hb)))
        exact bodyPost_ret (out_vl (HZ6.out.put3 (Vl.num t)) _ _ 2 res_rest rfl) rfl ⟨by rw [HX.out], by first | exact belowV3 (HW1.out.trans (HB6.out.mono (by omega))) (by omega) (Vl.num t) | (rw [hq]; exact belowV3 (HW1.out.trans (HB6.out.mono (by omega))) (by omega) (Vl.num t))⟩
      have e1 : (t != 0) = true := by rw [bne_iff_ne]; exact h0
      by_cases hn : t < 0
      · by_cases hb1 : b < 0
        · have HM2 := Lib.hid (show modI a b = t by rw [HMD.out]; exact if_neg (fun h => by rw [decide_eq_true hn, decide_eq_true hb1] at h; exact absurd h.2 (by decide)))
          rw [HM2.out] at HX HNU
          go_wp2_with (first
            | (go_at_call 34; ((with_reducible refine (HNU.out _).mono ?_); rintro e w6 ⟨rfl, hb⟩; have HB6 := Lib.hid (HB5.out.trans (hb.mono HB5.out.size)); have c6 := (hb.cell (p := ⟨q, 0, none⟩) (by have := HB5.out.size; show q < _; omega)).trans c5; have HZ6 := Lib.hid (HZ5.out.over hb); obtain ⟨m0, m1, m2⟩ := HZ6.out.melts; obtain ⟨u0, u1, u2⟩ := HZ6.out.cells; clear hb)))
          exact bodyPost_ret (out_vl (HZ6.out.put3 (Vl.num t)) _ _ 2 res_rest rfl) rfl ⟨by rw [HX.out], by first | exact belowV3 (HW1.out.trans (HB6.out.mono (by omega))) (by omega) (Vl.num t) | (rw [hq]; exact belowV3 (HW1.out.trans (HB6.out.mono (by omega))) (by omega) (Vl.num t))⟩
        · have HM2 := Lib.hid (show modI a b = t + b by rw [HMD.out]; exact if_pos ⟨h0, by rw [decide_eq_true hn, decide_eq_false hb1]; rfl⟩)
          have ew : wrap64 (t + b) = t + b := by unfold wrap64; omega
          rw [HM2.out] at HX HNU
          go_wp2_with (first
            | (go_at_call 34; ((with_reducible refine (HNU.out _).mono ?_); rintro e w6 ⟨rfl, hb⟩; have HB6 := Lib.hid (HB5.out.trans (hb.mono HB5.out.size)); have c6 := (hb.cell (p := ⟨q, 0, none⟩) (by have := HB5.out.size; show q < _; omega)).trans c5; have HZ6 := Lib.hid (HZ5.out.over hb); obtain ⟨m0, m1, m2⟩ := HZ6.out.melts; obtain ⟨u0, u1, u2⟩ := HZ6.out.cells; clear hb)))
          exact bodyPost_ret (out_vl (HZ6.out.put3 (Vl.num (t + b))) _ _ 2 res_rest rfl) rfl ⟨by rw [HX.out], by first | exact belowV3 (HW1.out.trans (HB6.out.mono (by omega))) (by omega) (Vl.num (t + b)) | (rw [hq]; exact belowV3 (HW1.out.trans (HB6.out.mono (by omega))) (by omega) (Vl.num (t + b)))⟩
      · by_cases hb1 : b < 0
        · have HM2 := Lib.hid (show modI a b = t + b by rw [HMD.out]; exact if_pos ⟨h0, by rw [decide_eq_false hn, decide_eq_true hb1]; rfl⟩)
          have ew : wrap64 (t + b) = t + b := by unfold wrap64; omega
          rw [HM2.out] at HX HNU
          go_wp2_with (first
            | (go_at_call 34; ((with_reducible refine (HNU.out _).mono ?_); rintro e w6 ⟨rfl, hb⟩; have HB6 := Lib.hid (HB5.out.trans (hb.mono HB5.out.size)); have c6 := (hb.cell (p := ⟨q, 0, none⟩) (by have := HB5.out.size; show q < _; omega)).trans c5; have HZ6 := Lib.hid (HZ5.out.over hb); obtain ⟨m0, m1, m2⟩ := HZ6.out.melts; obtain ⟨u0, u1, u2⟩ := HZ6.out.cells; clear hb)))
          exact bodyPost_ret (out_vl (HZ6.out.put3 (Vl.num (t + b))) _ _ 2 res_rest rfl) rfl ⟨by rw [HX.out], by first | exact belowV3 (HW1.out.trans (HB6.out.mono (by omega))) (by omega) (Vl.num (t + b)) | (rw [hq]; exact belowV3 (HW1.out.trans (HB6.out.mono (by omega))) (by omega) (Vl.num (t + b)))⟩
        · have HM2 := Lib.hid (show modI a b = t by rw [HMD.out]; exact if_neg (fun h => by rw [decide_eq_false hn, decide_eq_false hb1] at h; exact absurd h.2 (by decide)))
          rw [HM2.out] at HX HNU
          go_wp2_with (first
            | (go_at_call 34; ((with_reducible refine (HNU.out _).mono ?_); rintro e w6 ⟨rfl, hb⟩; have HB6 := Lib.hid (HB5.out.trans (hb.mono HB5.out.size)); have c6 := (hb.cell (p := ⟨q, 0, none⟩) (by have := HB5.out.size; show q < _; omega)).trans c5; have HZ6 := Lib.hid (HZ5.out.over hb); obtain ⟨m0, m1, m2⟩ := HZ6.out.melts; obtain ⟨u0, u1, u2⟩ := HZ6.out.cells; clear hb)))
          exact bodyPost_ret (out_vl (HZ6.out.put3 (Vl.num t)) _ _ 2 res_rest rfl) rfl ⟨by rw [HX.out], by first | exact belowV3 (HW1.out.trans (HB6.out.mono (by omega))) (by omega) (Vl.num t) | (rw [hq]; exact belowV3 (HW1.out.trans (HB6.out.mono (by omega))) (by omega) (Vl.num t))⟩
  · have HX := Lib.hid (show rv = Vl.err 1 by rw [HRV.out, if_neg hii])
    have HF := Lib.hid (fun (W : World) => ffault_any 1 W)
    cases i0 with
    | false =>
      go_wp2_with (first
        | (go_at_call 42; ((with_reducible refine (single_0 _ _ _ (HSA.out _ HB1.out) HZA.out (by rw [HN.out]; omega)).mono ?_); rintro e w2 ⟨rfl, hb⟩; have HB2 := Lib.hid (HB1.out.trans (hb.mono HB1.out.size)); have c2 := (hb.cell (p := ⟨q, 0, none⟩) (by have := HB1.out.size; show q < _; omega)).trans c1; have HZ2 := Lib.hid (HZ1.out.over hb); obtain ⟨m0, m1, m2⟩ := HZ2.out.melts; obtain ⟨u0, u1, u2⟩ := HZ2.out.cells; clear hb))
        | (go_at_call 44; ((with_reducible refine (HI0.out _).mono ?_); rintro e w3 ⟨rfl, hb⟩; have HB3 := Lib.hid (HB2.out.trans (hb.mono HB2.out.size)); have c3 := (hb.cell (p := ⟨q, 0, none⟩) (by have := HB2.out.size; show q < _; omega)).trans c2; have HZ3 := Lib.hid (HZ2.out.over hb); obtain ⟨m0, m1, m2⟩ := HZ3.out.melts; obtain ⟨u0, u1, u2⟩ := HZ3.out.cells; clear hb))
        | (go_at_call 42; ((with_reducible refine (single_1 _ _ _ (HSA.out _ HB3.out) HZA.out (by rw [HN.out]; omega)).mono ?_); rintro e w4 ⟨rfl, hb⟩; have HB4 := Lib.hid (HB3.out.trans (hb.mono HB3.out.size)); have c4 := (hb.cell (p := ⟨q, 0, none⟩) (by have := HB3.out.size; show q < _; omega)).trans c3; have HZ4 := Lib.hid (HZ3.out.over hb); obtain ⟨m0, m1, m2⟩ := HZ4.out.melts; obtain ⟨u0, u1, u2⟩ := HZ4.out.cells; clear hb))
        | (go_at_call 44; ((with_reducible refine (HI1.out _).mono ?_); rintro e w5 ⟨rfl, hb⟩; have HB5 := Lib.hid (HB4.out.trans (hb.mono HB4.out.size)); have c5 := (hb.cell (p := ⟨q, 0, none⟩) (by have := HB4.out.size; show q < _; omega)).trans c4; have HZ5 := Lib.hid (HZ4.out.over hb); obtain ⟨m0, m1, m2⟩ := HZ5.out.melts; obtain ⟨u0, u1, u2⟩ := HZ5.out.cells; clear hb))
        | (go_at_call 11; ((with_reducible refine (HF.out _).mono ?_); rintro e w6 ⟨rfl, hb⟩; have HB6 := Lib.hid (HB5.out.trans (hb.mono HB5.out.size)); have c6 := (hb.cell (p := ⟨q, 0, none⟩) (by have := HB5.out.size; show q < _; omega)).trans c5; have HZ6 := Lib.hid (HZ5.out.over hb); obtain ⟨m0, m1, m2⟩ := HZ6.out.melts; obtain ⟨u0, u1, u2⟩ := HZ6.out.cells; clear hb)))
      exact bodyPost_ret (out_vl (HZ6.out.put3 (Vl.err 1)) _ _ 2 res_rest rfl) rfl ⟨by rw [HX.out], by first | exact belowV3 (HW1.out.trans (HB6.out.mono (by omega))) (by omega) (Vl.err 1) | (rw [hq]; exact belowV3 (HW1.out.trans (HB6.out.mono (by omega))) (by omega) (Vl.err 1))⟩
    | true =>
      have h1 : i1 = false := by cases i1 <;> simp_all
      subst h1
      go_wp2_with (first
        | (go_at_call 42; ((with_reducible refine (single_0 _ _ _ (HSA.out _ HB1.out) HZA.out (by rw [HN.out]; omega)).mono ?_); rintro e w2 ⟨rfl, hb⟩; have HB2 := Lib.hid (HB1.out.trans (hb.mono HB1.out.size)); have c2 := (hb.cell (p := ⟨q, 0, none⟩) (by have := HB1.out.size; show q < _; omega)).trans c1; have HZ2 := Lib.hid (HZ1.out.over hb); obtain ⟨m0, m1, m2⟩ := HZ2.out.melts; obtain ⟨u0, u1, u2⟩ := HZ2.out.cells; clear hb))
        | (go_at_call 44; ((with_reducible refine (HI0.out _).mono ?_); rintro e w3 ⟨rfl, hb⟩; have HB3 := Lib.hid (HB2.out.trans (hb.mono HB2.out.size)); have c3 := (hb.cell (p := ⟨q, 0, none⟩) (by have := HB2.out.size; show q < _; omega)).trans c2; have HZ3 := Lib.hid (HZ2.out.over hb); obtain ⟨m0, m1, m2⟩ := HZ3.out.melts; obtain ⟨u0, u1, u2⟩ := HZ3.out.cells; clear hb))
        | (go_at_call 42; ((with_reducible refine (single_1 _ _ _ (HSA.out _ HB3.out) HZA.out (by rw [HN.out]; omega)).mono ?_); rintro e w4 ⟨rfl, hb⟩; have HB4 := Lib.hid (HB3.out.trans (hb.mono HB3.out.size)); have c4 := (hb.cell (p := ⟨q, 0, none⟩) (by have := HB3.out.size; show q < _; omega)).trans c3; have HZ4 := Lib.hid (HZ3.out.over hb); obtain ⟨m0, m1, m2⟩ := HZ4.out.melts; obtain ⟨u0, u1, u2⟩ := HZ4.out.cells; clear hb))
        | (go_at_call 44; ((with_reducible refine (HI1.out _).mono ?_); rintro e w5 ⟨rfl, hb⟩; have HB5 := Lib.hid (HB4.out.trans (hb.mono HB4.out.size)); have c5 := (hb.cell (p := ⟨q, 0, none⟩) (by have := HB4.out.size; show q < _; omega)).trans c4; have HZ5 := Lib.hid (HZ4.out.over hb); obtain ⟨m0, m1, m2⟩ := HZ5.out.melts; obtain ⟨u0, u1, u2⟩ := HZ5.out.cells; clear hb))
        | (go_at_call 11; ((with_reducible refine (HF.out _).mono ?_); rintro e w6 ⟨rfl, hb⟩; have HB6 := Lib.hid (HB5.out.trans (hb.mono HB5.out.size)); have c6 := (hb.cell (p := ⟨q, 0, none⟩) (by have := HB5.out.size; show q < _; omega)).trans c5; have HZ6 := Lib.hid (HZ5.out.over hb); obtain ⟨m0, m1, m2⟩ := HZ6.out.melts; obtain ⟨u0, u1, u2⟩ := HZ6.out.cells; clear hb)))
      exact bodyPost_ret (out_vl (HZ6.out.put3 (Vl.err 1)) _ _ 2 res_rest rfl) rfl ⟨by rw [HX.out], by first | exact belowV3 (HW1.out.trans (HB6.out.mono (by omega))) (by omega) (Vl.err 1) | (rw [hq]; exact belowV3 (HW1.out.trans (HB6.out.mono (by omega))) (by omega) (Vl.err 1))⟩
end Go.Proofs.YtolhmemiknpeaaaGreatDoor
