/-
  Layer 8, the program: a choice.
-/
import Derived.Test.YtppialmmhoopcaaDoorFuJ
import Derived.Deep.DeepCutAuto
namespace Go.Proofs.YtppialmmhoopcaaDoor
open Go.RowKit

set_option maxRecDepth 100000 in
set_option maxHeartbeats 8000000 in
theorem choice_2 (w : World) (v : Value) (ags : List Ag) (h : SA w w.heap.size v ags) (hz : AZ ags) (hl : ags.length = 2) : Calls Tryd.prog 23 #[.agg #[v]] w fun e w' => e = .returned (.agg #[.int .i64 (ifA ags).k, .int .i64 (ifA ags).n, .string (ifA ags).s]) ∧ Below w.heap.size w w' := by
  obtain ⟨⟨A, cap, rfl, hat⟩, hkid⟩ := id h
  obtain ⟨c1, hzv, hb, hs1⟩ := cz_two w (.slice A ags.length cap)
  have hS : ∀ W : World, Below ((w.alloc (.cells #[.slice A ags.length cap] 41)).alloc (.cells #[.int .i64 0, .int .i64 0, .string ⟨#[]⟩] 31)).heap.size ((w.alloc (.cells #[.slice A ags.length cap] 41)).alloc (.cells #[.int .i64 0, .int .i64 0, .string ⟨#[]⟩] 31)) W → SA W W.heap.size (.slice A ags.length cap) ags := fun W hW => (h.below (hb.trans (hW.mono (by omega))) (Nat.le_refl _)).mono (by have := hW.size; omega)
  obtain ⟨n, hn⟩ : ∃ n, ags.length = n := ⟨_, rfl⟩
  rw [hn] at hS c1 hzv hb hs1 hl ⊢
  have HW1 := Lib.hid hb; have HZ1 := Lib.hid hzv; have HSA := Lib.hid hS; have HZA := Lib.hid hz; have HN := Lib.hid hn
  subst hl
  obtain ⟨rv, hrv⟩ : ∃ rv, ifA ags = rv := ⟨_, rfl⟩
  rw [hrv]
  have hr : rv = if (sglA ags 0).k = 4 then sglA ags 0 else if isTruth (sglA ags 0) = true then (if truthV (sglA ags 0) = true then sglA ags 1 else Vl.truth false) else .err 1 := by rw [← hrv]; unfold ifA; rw [HN.out]; rw [if_neg (show ¬ (2 : Nat) = 3 by decide)]
  have HIE := Lib.hid (fun (W : World) => fisError_any (sglA ags 0) W)
  have HTR := Lib.hid (fun (W : World) => tru_any (sglA ags 0) W)
  obtain ⟨ie, hie⟩ : ∃ ie, decide ((sglA ags 0).k = 4) = ie := ⟨_, rfl⟩
  obtain ⟨it, hit⟩ : ∃ it, isTruth (sglA ags 0) = it := ⟨_, rfl⟩
  obtain ⟨tv, htv⟩ : ∃ tv, truthV (sglA ags 0) = tv := ⟨_, rfl⟩
  rw [hie] at HIE
  rw [hit, htv] at HTR
  rw [hit, htv] at hr
  have HR := Lib.hid hr; have HIX := Lib.hid hie
  clear h hz hb hzv hat hkid hS hn hrv hr hie hit htv
  go_enter Tryd.func23, Tryd.ntmps23
  go_upto_region 1 with (fail)
  have HB1 := Lib.hid (Below.refl ((w.alloc (.cells #[.slice A 2 cap] 41)).alloc (.cells #[.int .i64 0, .int .i64 0, .string ⟨#[]⟩] 31)).heap.size ((w.alloc (.cells #[.slice A 2 cap] 41)).alloc (.cells #[.int .i64 0, .int .i64 0, .string ⟨#[]⟩] 31)))
  generalize hq : w.heap.size = q at HW1 hs1 c1 HZ1 ⊢
  generalize ((w.alloc (.cells #[.slice A 2 cap] 41)).alloc (.cells #[.int .i64 0, .int .i64 0, .string ⟨#[]⟩] 31)) = w1 at HW1 hs1 c1 HZ1 HB1 HSA ⊢
  cases ie with
  | true =>
    have HX := Lib.hid (show rv = sglA ags 0 by rw [HR.out, if_pos (of_decide_eq_true HIX.out)])
    go_wp2_with (first
      | (go_at_call 45; ((with_reducible refine (single_0 _ _ _ (HSA.out _ HB1.out) HZA.out (by rw [HN.out]; omega)).mono ?_); rintro e w2 ⟨rfl, hb⟩; have HB2 := Lib.hid (HB1.out.trans (hb.mono HB1.out.size)); have HB3 := Lib.hid (show Below w1.heap.size w1 (w2.alloc (.cells #[.int .i64 (sglA ags 0).k, .int .i64 (sglA ags 0).n, .string (sglA ags 0).s] 31)) from HB2.out.alloc HB2.out.size _); have c3 := (HB3.out.cell (p := ⟨q, 0, none⟩) (by show q < w1.heap.size; omega)).trans c1; have HZ3 := Lib.hid (show VlAt (w2.alloc (.cells #[.int .i64 (sglA ags 0).k, .int .i64 (sglA ags 0).n, .string (sglA ags 0).s] 31)) (q + 1) Vl.none from HZ1.out.over HB3.out); have HV3 := Lib.hid (VlAt.new w2 (sglA ags 0)); obtain ⟨m0, m1, m2⟩ := HZ3.out.melts; obtain ⟨u0, u1, u2⟩ := HZ3.out.cells; obtain ⟨x0, x1, x2⟩ := HV3.out.cells; clear hb))
      | (go_at_call 35; ((with_reducible refine (HIE.out _).mono ?_); rintro e w4 ⟨rfl, hb⟩; have HB4 := Lib.hid (HB3.out.trans (hb.mono HB3.out.size)); have c4 := (hb.cell (p := ⟨q, 0, none⟩) (by have := HB3.out.size; show q < _; omega)).trans c3; have HZ4 := Lib.hid (HZ3.out.over hb); have HV4 := Lib.hid (HV3.out.over hb); obtain ⟨m0, m1, m2⟩ := HZ4.out.melts; obtain ⟨u0, u1, u2⟩ := HZ4.out.cells; obtain ⟨x0, x1, x2⟩ := HV4.out.cells; clear hb)))
    exact bodyPost_ret (out_vl (HZ4.out.put3 (sglA ags 0)) _ _ 2 res_choice rfl) rfl ⟨by rw [HX.out], by first | exact belowV3 (HW1.out.trans (HB4.out.mono (by omega))) (by omega) (sglA ags 0) | (rw [hq]; exact belowV3 (HW1.out.trans (HB4.out.mono (by omega))) (by omega) (sglA ags 0))⟩
  | false =>
    cases it with
    | false =>
      have HX := Lib.hid (show rv = Vl.err 1 by rw [HR.out, if_neg (of_decide_eq_false HIX.out)]; rfl)
      have HF := Lib.hid (fun (W : World) => ffault_any 1 W)
      go_wp2_with (first
        | (go_at_call 45; ((with_reducible refine (single_0 _ _ _ (HSA.out _ HB1.out) HZA.out (by rw [HN.out]; omega)).mono ?_); rintro e w2 ⟨rfl, hb⟩; have HB2 := Lib.hid (HB1.out.trans (hb.mono HB1.out.size)); have HB3 := Lib.hid (show Below w1.heap.size w1 (w2.alloc (.cells #[.int .i64 (sglA ags 0).k, .int .i64 (sglA ags 0).n, .string (sglA ags 0).s] 31)) from HB2.out.alloc HB2.out.size _); have c3 := (HB3.out.cell (p := ⟨q, 0, none⟩) (by show q < w1.heap.size; omega)).trans c1; have HZ3 := Lib.hid (show VlAt (w2.alloc (.cells #[.int .i64 (sglA ags 0).k, .int .i64 (sglA ags 0).n, .string (sglA ags 0).s] 31)) (q + 1) Vl.none from HZ1.out.over HB3.out); have HV3 := Lib.hid (VlAt.new w2 (sglA ags 0)); obtain ⟨m0, m1, m2⟩ := HZ3.out.melts; obtain ⟨u0, u1, u2⟩ := HZ3.out.cells; obtain ⟨x0, x1, x2⟩ := HV3.out.cells; clear hb))
        | (go_at_call 35; ((with_reducible refine (HIE.out _).mono ?_); rintro e w4 ⟨rfl, hb⟩; have HB4 := Lib.hid (HB3.out.trans (hb.mono HB3.out.size)); have c4 := (hb.cell (p := ⟨q, 0, none⟩) (by have := HB3.out.size; show q < _; omega)).trans c3; have HZ4 := Lib.hid (HZ3.out.over hb); have HV4 := Lib.hid (HV3.out.over hb); obtain ⟨m0, m1, m2⟩ := HZ4.out.melts; obtain ⟨u0, u1, u2⟩ := HZ4.out.cells; obtain ⟨x0, x1, x2⟩ := HV4.out.cells; clear hb))
        | (go_at_call 46; ((with_reducible refine (HTR.out _).mono ?_); rintro e w5 ⟨rfl, hb⟩; have HB5 := Lib.hid (HB4.out.trans (hb.mono HB4.out.size)); have c5 := (hb.cell (p := ⟨q, 0, none⟩) (by have := HB4.out.size; show q < _; omega)).trans c4; have HZ5 := Lib.hid (HZ4.out.over hb); have HV5 := Lib.hid (HV4.out.over hb); obtain ⟨m0, m1, m2⟩ := HZ5.out.melts; obtain ⟨u0, u1, u2⟩ := HZ5.out.cells; obtain ⟨x0, x1, x2⟩ := HV5.out.cells; clear hb))
        | (go_at_call 14; ((with_reducible refine (HF.out _).mono ?_); rintro e w6 ⟨rfl, hb⟩; have HB6 := Lib.hid (HB5.out.trans (hb.mono HB5.out.size)); have c6 := (hb.cell (p := ⟨q, 0, none⟩) (by have := HB5.out.size; show q < _; omega)).trans c5; have HZ6 := Lib.hid (HZ5.out.over hb); have HV6 := Lib.hid (HV5.out.over hb); obtain ⟨m0, m1, m2⟩ := HZ6.out.melts; obtain ⟨u0, u1, u2⟩ := HZ6.out.cells; obtain ⟨x0, x1, x2⟩ := HV6.out.cells; clear hb)))
      exact bodyPost_ret (out_vl (HZ6.out.put3 (Vl.err 1)) _ _ 2 res_choice rfl) rfl ⟨by rw [HX.out], by first | exact belowV3 (HW1.out.trans (HB6.out.mono (by omega))) (by omega) (Vl.err 1) | (rw [hq]; exact belowV3 (HW1.out.trans (HB6.out.mono (by omega))) (by omega) (Vl.err 1))⟩
    | true =>
      cases tv with
      | true =>
        have HX := Lib.hid (show rv = sglA ags 1 by rw [HR.out, if_neg (of_decide_eq_false HIX.out)]; rfl)
        go_wp2_with (first
          | (go_at_call 45; ((with_reducible refine (single_0 _ _ _ (HSA.out _ HB1.out) HZA.out (by rw [HN.out]; omega)).mono ?_); rintro e w2 ⟨rfl, hb⟩; have HB2 := Lib.hid (HB1.out.trans (hb.mono HB1.out.size)); have HB3 := Lib.hid (show Below w1.heap.size w1 (w2.alloc (.cells #[.int .i64 (sglA ags 0).k, .int .i64 (sglA ags 0).n, .string (sglA ags 0).s] 31)) from HB2.out.alloc HB2.out.size _); have c3 := (HB3.out.cell (p := ⟨q, 0, none⟩) (by show q < w1.heap.size; omega)).trans c1; have HZ3 := Lib.hid (show VlAt (w2.alloc (.cells #[.int .i64 (sglA ags 0).k, .int .i64 (sglA ags 0).n, .string (sglA ags 0).s] 31)) (q + 1) Vl.none from HZ1.out.over HB3.out); have HV3 := Lib.hid (VlAt.new w2 (sglA ags 0)); obtain ⟨m0, m1, m2⟩ := HZ3.out.melts; obtain ⟨u0, u1, u2⟩ := HZ3.out.cells; obtain ⟨x0, x1, x2⟩ := HV3.out.cells; clear hb))
          | (go_at_call 35; ((with_reducible refine (HIE.out _).mono ?_); rintro e w4 ⟨rfl, hb⟩; have HB4 := Lib.hid (HB3.out.trans (hb.mono HB3.out.size)); have c4 := (hb.cell (p := ⟨q, 0, none⟩) (by have := HB3.out.size; show q < _; omega)).trans c3; have HZ4 := Lib.hid (HZ3.out.over hb); have HV4 := Lib.hid (HV3.out.over hb); obtain ⟨m0, m1, m2⟩ := HZ4.out.melts; obtain ⟨u0, u1, u2⟩ := HZ4.out.cells; obtain ⟨x0, x1, x2⟩ := HV4.out.cells; clear hb))
          | (go_at_call 46; ((with_reducible refine (HTR.out _).mono ?_); rintro e w5 ⟨rfl, hb⟩; have HB5 := Lib.hid (HB4.out.trans (hb.mono HB4.out.size)); have c5 := (hb.cell (p := ⟨q, 0, none⟩) (by have := HB4.out.size; show q < _; omega)).trans c4; have HZ5 := Lib.hid (HZ4.out.over hb); have HV5 := Lib.hid (HV4.out.over hb); obtain ⟨m0, m1, m2⟩ := HZ5.out.melts; obtain ⟨u0, u1, u2⟩ := HZ5.out.cells; obtain ⟨x0, x1, x2⟩ := HV5.out.cells; clear hb))
          | (go_at_call 45; ((with_reducible refine (single_1 _ _ _ (HSA.out _ HB5.out) HZA.out (by rw [HN.out]; omega)).mono ?_); rintro e w6 ⟨rfl, hb⟩; have HB6 := Lib.hid (HB5.out.trans (hb.mono HB5.out.size)); have c6 := (hb.cell (p := ⟨q, 0, none⟩) (by have := HB5.out.size; show q < _; omega)).trans c5; have HZ6 := Lib.hid (HZ5.out.over hb); have HV6 := Lib.hid (HV5.out.over hb); obtain ⟨m0, m1, m2⟩ := HZ6.out.melts; obtain ⟨u0, u1, u2⟩ := HZ6.out.cells; obtain ⟨x0, x1, x2⟩ := HV6.out.cells; clear hb)))
        exact bodyPost_ret (out_vl (HZ6.out.put3 (sglA ags 1)) _ _ 2 res_choice rfl) rfl ⟨by rw [HX.out], by first | exact belowV3 (HW1.out.trans (HB6.out.mono (by omega))) (by omega) (sglA ags 1) | (rw [hq]; exact belowV3 (HW1.out.trans (HB6.out.mono (by omega))) (by omega) (sglA ags 1))⟩
      | false =>
        have HX := Lib.hid (show rv = Vl.truth false by rw [HR.out, if_neg (of_decide_eq_false HIX.out)]; rfl)
        have HTF := Lib.hid (fun (W : World) => ftruth_any false W)
        go_wp2_with (first
          | (go_at_call 45; ((with_reducible refine (single_0 _ _ _ (HSA.out _ HB1.out) HZA.out (by rw [HN.out]; omega)).mono ?_); rintro e w2 ⟨rfl, hb⟩; have HB2 := Lib.hid (HB1.out.trans (hb.mono HB1.out.size)); have HB3 := Lib.hid (show Below w1.heap.size w1 (w2.alloc (.cells #[.int .i64 (sglA ags 0).k, .int .i64 (sglA ags 0).n, .string (sglA ags 0).s] 31)) from HB2.out.alloc HB2.out.size _); have c3 := (HB3.out.cell (p := ⟨q, 0, none⟩) (by show q < w1.heap.size; omega)).trans c1; have HZ3 := Lib.hid (show VlAt (w2.alloc (.cells #[.int .i64 (sglA ags 0).k, .int .i64 (sglA ags 0).n, .string (sglA ags 0).s] 31)) (q + 1) Vl.none from HZ1.out.over HB3.out); have HV3 := Lib.hid (VlAt.new w2 (sglA ags 0)); obtain ⟨m0, m1, m2⟩ := HZ3.out.melts; obtain ⟨u0, u1, u2⟩ := HZ3.out.cells; obtain ⟨x0, x1, x2⟩ := HV3.out.cells; clear hb))
          | (go_at_call 35; ((with_reducible refine (HIE.out _).mono ?_); rintro e w4 ⟨rfl, hb⟩; have HB4 := Lib.hid (HB3.out.trans (hb.mono HB3.out.size)); have c4 := (hb.cell (p := ⟨q, 0, none⟩) (by have := HB3.out.size; show q < _; omega)).trans c3; have HZ4 := Lib.hid (HZ3.out.over hb); have HV4 := Lib.hid (HV3.out.over hb); obtain ⟨m0, m1, m2⟩ := HZ4.out.melts; obtain ⟨u0, u1, u2⟩ := HZ4.out.cells; obtain ⟨x0, x1, x2⟩ := HV4.out.cells; clear hb))
          | (go_at_call 46; ((with_reducible refine (HTR.out _).mono ?_); rintro e w5 ⟨rfl, hb⟩; have HB5 := Lib.hid (HB4.out.trans (hb.mono HB4.out.size)); have c5 := (hb.cell (p := ⟨q, 0, none⟩) (by have := HB4.out.size; show q < _; omega)).trans c4; have HZ5 := Lib.hid (HZ4.out.over hb); have HV5 := Lib.hid (HV4.out.over hb); obtain ⟨m0, m1, m2⟩ := HZ5.out.melts; obtain ⟨u0, u1, u2⟩ := HZ5.out.cells; obtain ⟨x0, x1, x2⟩ := HV5.out.cells; clear hb))
          | (go_at_call 43; ((with_reducible refine (HTF.out _).mono ?_); rintro e w6 ⟨rfl, hb⟩; have HB6 := Lib.hid (HB5.out.trans (hb.mono HB5.out.size)); have c6 := (hb.cell (p := ⟨q, 0, none⟩) (by have := HB5.out.size; show q < _; omega)).trans c5; have HZ6 := Lib.hid (HZ5.out.over hb); have HV6 := Lib.hid (HV5.out.over hb); obtain ⟨m0, m1, m2⟩ := HZ6.out.melts; obtain ⟨u0, u1, u2⟩ := HZ6.out.cells; obtain ⟨x0, x1, x2⟩ := HV6.out.cells; clear hb)))
        exact bodyPost_ret (out_vl (HZ6.out.put3 (Vl.truth false)) _ _ 2 res_choice rfl) rfl ⟨by rw [HX.out], by first | exact belowV3 (HW1.out.trans (HB6.out.mono (by omega))) (by omega) (Vl.truth false) | (rw [hq]; exact belowV3 (HW1.out.trans (HB6.out.mono (by omega))) (by omega) (Vl.truth false))⟩
set_option maxRecDepth 100000 in
set_option maxHeartbeats 8000000 in
theorem choice_3 (w : World) (v : Value) (ags : List Ag) (h : SA w w.heap.size v ags) (hz : AZ ags) (hl : ags.length = 3) : Calls Tryd.prog 23 #[.agg #[v]] w fun e w' => e = .returned (.agg #[.int .i64 (ifA ags).k, .int .i64 (ifA ags).n, .string (ifA ags).s]) ∧ Below w.heap.size w w' := by
  obtain ⟨⟨A, cap, rfl, hat⟩, hkid⟩ := id h
  obtain ⟨c1, hzv, hb, hs1⟩ := cz_two w (.slice A ags.length cap)
  have hS : ∀ W : World, Below ((w.alloc (.cells #[.slice A ags.length cap] 41)).alloc (.cells #[.int .i64 0, .int .i64 0, .string ⟨#[]⟩] 31)).heap.size ((w.alloc (.cells #[.slice A ags.length cap] 41)).alloc (.cells #[.int .i64 0, .int .i64 0, .string ⟨#[]⟩] 31)) W → SA W W.heap.size (.slice A ags.length cap) ags := fun W hW => (h.below (hb.trans (hW.mono (by omega))) (Nat.le_refl _)).mono (by have := hW.size; omega)
  obtain ⟨n, hn⟩ : ∃ n, ags.length = n := ⟨_, rfl⟩
  rw [hn] at hS c1 hzv hb hs1 hl ⊢
  have HW1 := Lib.hid hb; have HZ1 := Lib.hid hzv; have HSA := Lib.hid hS; have HZA := Lib.hid hz; have HN := Lib.hid hn
  subst hl
  obtain ⟨rv, hrv⟩ : ∃ rv, ifA ags = rv := ⟨_, rfl⟩
  rw [hrv]
  have hr : rv = if (sglA ags 0).k = 4 then sglA ags 0 else if isTruth (sglA ags 0) = true then (if truthV (sglA ags 0) = true then sglA ags 1 else sglA ags 2) else .err 1 := by rw [← hrv]; unfold ifA; rw [HN.out]; rw [if_pos rfl]
  have HIE := Lib.hid (fun (W : World) => fisError_any (sglA ags 0) W)
  have HTR := Lib.hid (fun (W : World) => tru_any (sglA ags 0) W)
  obtain ⟨ie, hie⟩ : ∃ ie, decide ((sglA ags 0).k = 4) = ie := ⟨_, rfl⟩
  obtain ⟨it, hit⟩ : ∃ it, isTruth (sglA ags 0) = it := ⟨_, rfl⟩
  obtain ⟨tv, htv⟩ : ∃ tv, truthV (sglA ags 0) = tv := ⟨_, rfl⟩
  rw [hie] at HIE
  rw [hit, htv] at HTR
  rw [hit, htv] at hr
  have HR := Lib.hid hr; have HIX := Lib.hid hie
  clear h hz hb hzv hat hkid hS hn hrv hr hie hit htv
  go_enter Tryd.func23, Tryd.ntmps23
  go_upto_region 1 with (fail)
  have HB1 := Lib.hid (Below.refl ((w.alloc (.cells #[.slice A 3 cap] 41)).alloc (.cells #[.int .i64 0, .int .i64 0, .string ⟨#[]⟩] 31)).heap.size ((w.alloc (.cells #[.slice A 3 cap] 41)).alloc (.cells #[.int .i64 0, .int .i64 0, .string ⟨#[]⟩] 31)))
  generalize hq : w.heap.size = q at HW1 hs1 c1 HZ1 ⊢
  generalize ((w.alloc (.cells #[.slice A 3 cap] 41)).alloc (.cells #[.int .i64 0, .int .i64 0, .string ⟨#[]⟩] 31)) = w1 at HW1 hs1 c1 HZ1 HB1 HSA ⊢
  cases ie with
  | true =>
    have HX := Lib.hid (show rv = sglA ags 0 by rw [HR.out, if_pos (of_decide_eq_true HIX.out)])
    go_wp2_with (first
      | (go_at_call 45; ((with_reducible refine (single_0 _ _ _ (HSA.out _ HB1.out) HZA.out (by rw [HN.out]; omega)).mono ?_); rintro e w2 ⟨rfl, hb⟩; have HB2 := Lib.hid (HB1.out.trans (hb.mono HB1.out.size)); have HB3 := Lib.hid (show Below w1.heap.size w1 (w2.alloc (.cells #[.int .i64 (sglA ags 0).k, .int .i64 (sglA ags 0).n, .string (sglA ags 0).s] 31)) from HB2.out.alloc HB2.out.size _); have c3 := (HB3.out.cell (p := ⟨q, 0, none⟩) (by show q < w1.heap.size; omega)).trans c1; have HZ3 := Lib.hid (show VlAt (w2.alloc (.cells #[.int .i64 (sglA ags 0).k, .int .i64 (sglA ags 0).n, .string (sglA ags 0).s] 31)) (q + 1) Vl.none from HZ1.out.over HB3.out); have HV3 := Lib.hid (VlAt.new w2 (sglA ags 0)); obtain ⟨m0, m1, m2⟩ := HZ3.out.melts; obtain ⟨u0, u1, u2⟩ := HZ3.out.cells; obtain ⟨x0, x1, x2⟩ := HV3.out.cells; clear hb))
      | (go_at_call 35; ((with_reducible refine (HIE.out _).mono ?_); rintro e w4 ⟨rfl, hb⟩; have HB4 := Lib.hid (HB3.out.trans (hb.mono HB3.out.size)); have c4 := (hb.cell (p := ⟨q, 0, none⟩) (by have := HB3.out.size; show q < _; omega)).trans c3; have HZ4 := Lib.hid (HZ3.out.over hb); have HV4 := Lib.hid (HV3.out.over hb); obtain ⟨m0, m1, m2⟩ := HZ4.out.melts; obtain ⟨u0, u1, u2⟩ := HZ4.out.cells; obtain ⟨x0, x1, x2⟩ := HV4.out.cells; clear hb)))
    exact bodyPost_ret (out_vl (HZ4.out.put3 (sglA ags 0)) _ _ 2 res_choice rfl) rfl ⟨by rw [HX.out], by first | exact belowV3 (HW1.out.trans (HB4.out.mono (by omega))) (by omega) (sglA ags 0) | (rw [hq]; exact belowV3 (HW1.out.trans (HB4.out.mono (by omega))) (by omega) (sglA ags 0))⟩
  | false =>
    cases it with
    | false =>
      have HX := Lib.hid (show rv = Vl.err 1 by rw [HR.out, if_neg (of_decide_eq_false HIX.out)]; rfl)
      have HF := Lib.hid (fun (W : World) => ffault_any 1 W)
      go_wp2_with (first
        | (go_at_call 45; ((with_reducible refine (single_0 _ _ _ (HSA.out _ HB1.out) HZA.out (by rw [HN.out]; omega)).mono ?_); rintro e w2 ⟨rfl, hb⟩; have HB2 := Lib.hid (HB1.out.trans (hb.mono HB1.out.size)); have HB3 := Lib.hid (show Below w1.heap.size w1 (w2.alloc (.cells #[.int .i64 (sglA ags 0).k, .int .i64 (sglA ags 0).n, .string (sglA ags 0).s] 31)) from HB2.out.alloc HB2.out.size _); have c3 := (HB3.out.cell (p := ⟨q, 0, none⟩) (by show q < w1.heap.size; omega)).trans c1; have HZ3 := Lib.hid (show VlAt (w2.alloc (.cells #[.int .i64 (sglA ags 0).k, .int .i64 (sglA ags 0).n, .string (sglA ags 0).s] 31)) (q + 1) Vl.none from HZ1.out.over HB3.out); have HV3 := Lib.hid (VlAt.new w2 (sglA ags 0)); obtain ⟨m0, m1, m2⟩ := HZ3.out.melts; obtain ⟨u0, u1, u2⟩ := HZ3.out.cells; obtain ⟨x0, x1, x2⟩ := HV3.out.cells; clear hb))
        | (go_at_call 35; ((with_reducible refine (HIE.out _).mono ?_); rintro e w4 ⟨rfl, hb⟩; have HB4 := Lib.hid (HB3.out.trans (hb.mono HB3.out.size)); have c4 := (hb.cell (p := ⟨q, 0, none⟩) (by have := HB3.out.size; show q < _; omega)).trans c3; have HZ4 := Lib.hid (HZ3.out.over hb); have HV4 := Lib.hid (HV3.out.over hb); obtain ⟨m0, m1, m2⟩ := HZ4.out.melts; obtain ⟨u0, u1, u2⟩ := HZ4.out.cells; obtain ⟨x0, x1, x2⟩ := HV4.out.cells; clear hb))
        | (go_at_call 46; ((with_reducible refine (HTR.out _).mono ?_); rintro e w5 ⟨rfl, hb⟩; have HB5 := Lib.hid (HB4.out.trans (hb.mono HB4.out.size)); have c5 := (hb.cell (p := ⟨q, 0, none⟩) (by have := HB4.out.size; show q < _; omega)).trans c4; have HZ5 := Lib.hid (HZ4.out.over hb); have HV5 := Lib.hid (HV4.out.over hb); obtain ⟨m0, m1, m2⟩ := HZ5.out.melts; obtain ⟨u0, u1, u2⟩ := HZ5.out.cells; obtain ⟨x0, x1, x2⟩ := HV5.out.cells; clear hb))
        | (go_at_call 14; ((with_reducible refine (HF.out _).mono ?_); rintro e w6 ⟨rfl, hb⟩; have HB6 := Lib.hid (HB5.out.trans (hb.mono HB5.out.size)); have c6 := (hb.cell (p := ⟨q, 0, none⟩) (by have := HB5.out.size; show q < _; omega)).trans c5; have HZ6 := Lib.hid (HZ5.out.over hb); have HV6 := Lib.hid (HV5.out.over hb); obtain ⟨m0, m1, m2⟩ := HZ6.out.melts; obtain ⟨u0, u1, u2⟩ := HZ6.out.cells; obtain ⟨x0, x1, x2⟩ := HV6.out.cells; clear hb)))
      exact bodyPost_ret (out_vl (HZ6.out.put3 (Vl.err 1)) _ _ 2 res_choice rfl) rfl ⟨by rw [HX.out], by first | exact belowV3 (HW1.out.trans (HB6.out.mono (by omega))) (by omega) (Vl.err 1) | (rw [hq]; exact belowV3 (HW1.out.trans (HB6.out.mono (by omega))) (by omega) (Vl.err 1))⟩
    | true =>
      cases tv with
      | true =>
        have HX := Lib.hid (show rv = sglA ags 1 by rw [HR.out, if_neg (of_decide_eq_false HIX.out)]; rfl)
        go_wp2_with (first
          | (go_at_call 45; ((with_reducible refine (single_0 _ _ _ (HSA.out _ HB1.out) HZA.out (by rw [HN.out]; omega)).mono ?_); rintro e w2 ⟨rfl, hb⟩; have HB2 := Lib.hid (HB1.out.trans (hb.mono HB1.out.size)); have HB3 := Lib.hid (show Below w1.heap.size w1 (w2.alloc (.cells #[.int .i64 (sglA ags 0).k, .int .i64 (sglA ags 0).n, .string (sglA ags 0).s] 31)) from HB2.out.alloc HB2.out.size _); have c3 := (HB3.out.cell (p := ⟨q, 0, none⟩) (by show q < w1.heap.size; omega)).trans c1; have HZ3 := Lib.hid (show VlAt (w2.alloc (.cells #[.int .i64 (sglA ags 0).k, .int .i64 (sglA ags 0).n, .string (sglA ags 0).s] 31)) (q + 1) Vl.none from HZ1.out.over HB3.out); have HV3 := Lib.hid (VlAt.new w2 (sglA ags 0)); obtain ⟨m0, m1, m2⟩ := HZ3.out.melts; obtain ⟨u0, u1, u2⟩ := HZ3.out.cells; obtain ⟨x0, x1, x2⟩ := HV3.out.cells; clear hb))
          | (go_at_call 35; ((with_reducible refine (HIE.out _).mono ?_); rintro e w4 ⟨rfl, hb⟩; have HB4 := Lib.hid (HB3.out.trans (hb.mono HB3.out.size)); have c4 := (hb.cell (p := ⟨q, 0, none⟩) (by have := HB3.out.size; show q < _; omega)).trans c3; have HZ4 := Lib.hid (HZ3.out.over hb); have HV4 := Lib.hid (HV3.out.over hb); obtain ⟨m0, m1, m2⟩ := HZ4.out.melts; obtain ⟨u0, u1, u2⟩ := HZ4.out.cells; obtain ⟨x0, x1, x2⟩ := HV4.out.cells; clear hb))
          | (go_at_call 46; ((with_reducible refine (HTR.out _).mono ?_); rintro e w5 ⟨rfl, hb⟩; have HB5 := Lib.hid (HB4.out.trans (hb.mono HB4.out.size)); have c5 := (hb.cell (p := ⟨q, 0, none⟩) (by have := HB4.out.size; show q < _; omega)).trans c4; have HZ5 := Lib.hid (HZ4.out.over hb); have HV5 := Lib.hid (HV4.out.over hb); obtain ⟨m0, m1, m2⟩ := HZ5.out.melts; obtain ⟨u0, u1, u2⟩ := HZ5.out.cells; obtain ⟨x0, x1, x2⟩ := HV5.out.cells; clear hb))
          | (go_at_call 45; ((with_reducible refine (single_1 _ _ _ (HSA.out _ HB5.out) HZA.out (by rw [HN.out]; omega)).mono ?_); rintro e w6 ⟨rfl, hb⟩; have HB6 := Lib.hid (HB5.out.trans (hb.mono HB5.out.size)); have c6 := (hb.cell (p := ⟨q, 0, none⟩) (by have := HB5.out.size; show q < _; omega)).trans c5; have HZ6 := Lib.hid (HZ5.out.over hb); have HV6 := Lib.hid (HV5.out.over hb); obtain ⟨m0, m1, m2⟩ := HZ6.out.melts; obtain ⟨u0, u1, u2⟩ := HZ6.out.cells; obtain ⟨x0, x1, x2⟩ := HV6.out.cells; clear hb)))
        exact bodyPost_ret (out_vl (HZ6.out.put3 (sglA ags 1)) _ _ 2 res_choice rfl) rfl ⟨by rw [HX.out], by first | exact belowV3 (HW1.out.trans (HB6.out.mono (by omega))) (by omega) (sglA ags 1) | (rw [hq]; exact belowV3 (HW1.out.trans (HB6.out.mono (by omega))) (by omega) (sglA ags 1))⟩
      | false =>
        have HX := Lib.hid (show rv = sglA ags 2 by rw [HR.out, if_neg (of_decide_eq_false HIX.out)]; rfl)
        go_wp2_with (first
          | (go_at_call 45; ((with_reducible refine (single_0 _ _ _ (HSA.out _ HB1.out) HZA.out (by rw [HN.out]; omega)).mono ?_); rintro e w2 ⟨rfl, hb⟩; have HB2 := Lib.hid (HB1.out.trans (hb.mono HB1.out.size)); have HB3 := Lib.hid (show Below w1.heap.size w1 (w2.alloc (.cells #[.int .i64 (sglA ags 0).k, .int .i64 (sglA ags 0).n, .string (sglA ags 0).s] 31)) from HB2.out.alloc HB2.out.size _); have c3 := (HB3.out.cell (p := ⟨q, 0, none⟩) (by show q < w1.heap.size; omega)).trans c1; have HZ3 := Lib.hid (show VlAt (w2.alloc (.cells #[.int .i64 (sglA ags 0).k, .int .i64 (sglA ags 0).n, .string (sglA ags 0).s] 31)) (q + 1) Vl.none from HZ1.out.over HB3.out); have HV3 := Lib.hid (VlAt.new w2 (sglA ags 0)); obtain ⟨m0, m1, m2⟩ := HZ3.out.melts; obtain ⟨u0, u1, u2⟩ := HZ3.out.cells; obtain ⟨x0, x1, x2⟩ := HV3.out.cells; clear hb))
          | (go_at_call 35; ((with_reducible refine (HIE.out _).mono ?_); rintro e w4 ⟨rfl, hb⟩; have HB4 := Lib.hid (HB3.out.trans (hb.mono HB3.out.size)); have c4 := (hb.cell (p := ⟨q, 0, none⟩) (by have := HB3.out.size; show q < _; omega)).trans c3; have HZ4 := Lib.hid (HZ3.out.over hb); have HV4 := Lib.hid (HV3.out.over hb); obtain ⟨m0, m1, m2⟩ := HZ4.out.melts; obtain ⟨u0, u1, u2⟩ := HZ4.out.cells; obtain ⟨x0, x1, x2⟩ := HV4.out.cells; clear hb))
          | (go_at_call 46; ((with_reducible refine (HTR.out _).mono ?_); rintro e w5 ⟨rfl, hb⟩; have HB5 := Lib.hid (HB4.out.trans (hb.mono HB4.out.size)); have c5 := (hb.cell (p := ⟨q, 0, none⟩) (by have := HB4.out.size; show q < _; omega)).trans c4; have HZ5 := Lib.hid (HZ4.out.over hb); have HV5 := Lib.hid (HV4.out.over hb); obtain ⟨m0, m1, m2⟩ := HZ5.out.melts; obtain ⟨u0, u1, u2⟩ := HZ5.out.cells; obtain ⟨x0, x1, x2⟩ := HV5.out.cells; clear hb))
          | (go_at_call 45; ((with_reducible refine (single_2 _ _ _ (HSA.out _ HB5.out) HZA.out (by rw [HN.out]; omega)).mono ?_); rintro e w6 ⟨rfl, hb⟩; have HB6 := Lib.hid (HB5.out.trans (hb.mono HB5.out.size)); have c6 := (hb.cell (p := ⟨q, 0, none⟩) (by have := HB5.out.size; show q < _; omega)).trans c5; have HZ6 := Lib.hid (HZ5.out.over hb); have HV6 := Lib.hid (HV5.out.over hb); obtain ⟨m0, m1, m2⟩ := HZ6.out.melts; obtain ⟨u0, u1, u2⟩ := HZ6.out.cells; obtain ⟨x0, x1, x2⟩ := HV6.out.cells; clear hb)))
        exact bodyPost_ret (out_vl (HZ6.out.put3 (sglA ags 2)) _ _ 2 res_choice rfl) rfl ⟨by rw [HX.out], by first | exact belowV3 (HW1.out.trans (HB6.out.mono (by omega))) (by omega) (sglA ags 2) | (rw [hq]; exact belowV3 (HW1.out.trans (HB6.out.mono (by omega))) (by omega) (sglA ags 2))⟩
end Go.Proofs.YtppialmmhoopcaaDoor
