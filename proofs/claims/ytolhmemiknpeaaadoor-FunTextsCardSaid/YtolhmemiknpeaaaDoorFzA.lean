/-
  Layer 8, the program: beginnings, ends, how long.
-/
import Derived.Test.YtolhmemiknpeaaaDoorFuZ
import Derived.Deep.DeepCutAuto
namespace Go.Proofs.YtolhmemiknpeaaaDoor
open Go.RowKit

theorem res_tleft : Tryd.f22.results = #[.cell 2 24] := by kernel_rfl
theorem res_tright : Tryd.f23.results = #[.cell 2 24] := by kernel_rfl
theorem res_tmiddle : Tryd.f24.results = #[.cell 2 24] := by kernel_rfl
theorem res_tlength : Tryd.f21.results = #[.cell 2 24] := by kernel_rfl
set_option maxRecDepth 100000 in
set_option maxHeartbeats 4000000 in
theorem length_any (w : World) (v : Value) (ags : List Ag) (h : SA w w.heap.size v ags) (hz : AZ ags) (hl : ags.length = 1) (ht : Tab w) (he : EtV w) : Calls Tryd.prog 21 #[.agg #[v]] w fun e w' => e = .returned (.agg #[.int .i64 (Vl.num (textV (sglA ags 0)).size).k, .int .i64 (Vl.num (textV (sglA ags 0)).size).n, .string (Vl.num (textV (sglA ags 0)).size).s]) ∧ Below w.heap.size w w' := by
  obtain ⟨⟨A, cap, rfl, hat⟩, hkid⟩ := id h
  obtain ⟨c1, hzv, hb, hs1⟩ := cz_two w (.slice A ags.length cap)
  have hS : ∀ W : World, Below ((w.alloc (.cells #[.slice A ags.length cap] 33)).alloc (.cells #[.int .i64 0, .int .i64 0, .string ⟨#[]⟩] 24)).heap.size ((w.alloc (.cells #[.slice A ags.length cap] 33)).alloc (.cells #[.int .i64 0, .int .i64 0, .string ⟨#[]⟩] 24)) W → SA W W.heap.size (.slice A ags.length cap) ags := fun W hW => (h.below (hb.trans (hW.mono (by omega))) (Nat.le_refl _)).mono (by have := hW.size; omega)
  obtain ⟨n, hn⟩ : ∃ n, ags.length = n := ⟨_, rfl⟩
  rw [hn] at hS c1 hzv hb hs1 hl ⊢
  have HW1 := Lib.hid hb; have HZ1 := Lib.hid hzv; have HSA := Lib.hid hS; have HZA := Lib.hid hz; have HN := Lib.hid hn
  subst hl
  have hx0 := sgl_ok ags hz 0 (by rw [HN.out]; omega)
  have hsz := textV_size _ hx0
  obtain ⟨s, hs⟩ : ∃ s, textV (sglA ags 0) = s := ⟨_, rfl⟩
  rw [hs] at hsz ⊢
  have HTX := Lib.hid (fun (W : World) (h1 : Tab W) (h2 : EtV W) => hs ▸ textV_any (sglA ags 0) hx0 W h1 h2)
  have HT := Lib.hid ht; have HE := Lib.hid he
  have HNU := Lib.hid (fun (W : World) => fnumber_any (s.size : Int) W)
  clear h hz hb hzv hat hkid hS hn hs hx0 ht he
  go_enter Tryd.func21, Tryd.ntmps21
  go_upto_region 1 with (fail)
  have HB1 := Lib.hid (Below.refl ((w.alloc (.cells #[.slice A 1 cap] 33)).alloc (.cells #[.int .i64 0, .int .i64 0, .string ⟨#[]⟩] 24)).heap.size ((w.alloc (.cells #[.slice A 1 cap] 33)).alloc (.cells #[.int .i64 0, .int .i64 0, .string ⟨#[]⟩] 24)))
  generalize hq : w.heap.size = q at HW1 hs1 c1 HZ1 ⊢
  generalize ((w.alloc (.cells #[.slice A 1 cap] 33)).alloc (.cells #[.int .i64 0, .int .i64 0, .string ⟨#[]⟩] 24)) = w1 at HW1 hs1 c1 HZ1 HB1 HSA ⊢
  go_wp2_with (first
    | (go_at_call 39; ((with_reducible refine (single_0 _ _ _ (HSA.out _ HB1.out) HZA.out (by rw [HN.out]; omega)).mono ?_); rintro e w2 ⟨rfl, hb⟩; have HB2 := Lib.hid (HB1.out.trans (hb.mono HB1.out.size)); have c2 := (hb.cell (p := ⟨q, 0, none⟩) (by have := HB1.out.size; show q < _; omega)).trans c1; have HZ2 := Lib.hid (HZ1.out.over hb); obtain ⟨m0, m1, m2⟩ := HZ2.out.melts; obtain ⟨u0, u1, u2⟩ := HZ2.out.cells; clear hb))
    | (go_at_call 43; ((with_reducible refine (HTX.out _ (HT.out.below ((show Below w.heap.size w w1 by first | exact HW1.out | (rw [hq]; exact HW1.out)).trans (HB2.out.mono (by omega)))) (HE.out.below ((show Below w.heap.size w w1 by first | exact HW1.out | (rw [hq]; exact HW1.out)).trans (HB2.out.mono (by omega))))).mono ?_); rintro e w3 ⟨rfl, hb⟩; have HB3 := Lib.hid (HB2.out.trans (hb.mono HB2.out.size)); have c3 := (hb.cell (p := ⟨q, 0, none⟩) (by have := HB2.out.size; show q < _; omega)).trans c2; have HZ3 := Lib.hid (HZ2.out.over hb); obtain ⟨m0, m1, m2⟩ := HZ3.out.melts; obtain ⟨u0, u1, u2⟩ := HZ3.out.cells; clear hb))
    | (go_at_call 31; ((with_reducible refine (HNU.out _).mono ?_); rintro e w4 ⟨rfl, hb⟩; have HB4 := Lib.hid (HB3.out.trans (hb.mono HB3.out.size)); have c4 := (hb.cell (p := ⟨q, 0, none⟩) (by have := HB3.out.size; show q < _; omega)).trans c3; have HZ4 := Lib.hid (HZ3.out.over hb); obtain ⟨m0, m1, m2⟩ := HZ4.out.melts; obtain ⟨u0, u1, u2⟩ := HZ4.out.cells; clear hb)))
  exact bodyPost_ret (out_vl (HZ4.out.put3 (Vl.num (s.size : Int))) _ _ 2 res_tlength rfl) rfl ⟨rfl, by first | exact belowV3 (HW1.out.trans (HB4.out.mono (by omega))) (by omega) (Vl.num (s.size : Int)) | (rw [hq]; exact belowV3 (HW1.out.trans (HB4.out.mono (by omega))) (by omega) (Vl.num (s.size : Int)))⟩
def leftV (s : ByteArray) (n : Int) (ok : Bool) : Vl := if ok = true then .text (s.extract 0 (min n.toNat s.size)) else .err 1
def rightV (s : ByteArray) (n : Int) (ok : Bool) : Vl := if ok = true then .text (s.extract (s.size - min n.toNat s.size) s.size) else .err 1
set_option maxRecDepth 100000 in
set_option maxHeartbeats 8000000 in
theorem left_any (w : World) (v : Value) (ags : List Ag) (h : SA w w.heap.size v ags) (hz : AZ ags) (hl : ags.length = 2) (ht : Tab w) (he : EtV w) : Calls Tryd.prog 22 #[.agg #[v]] w fun e w' => e = .returned (.agg #[.int .i64 (leftV (textV (sglA ags 0)) (nbV (sglA ags 1) 0) (nbOk (sglA ags 1) 0)).k, .int .i64 (leftV (textV (sglA ags 0)) (nbV (sglA ags 1) 0) (nbOk (sglA ags 1) 0)).n, .string (leftV (textV (sglA ags 0)) (nbV (sglA ags 1) 0) (nbOk (sglA ags 1) 0)).s]) ∧ Below w.heap.size w w' := by
  obtain ⟨⟨A, cap, rfl, hat⟩, hkid⟩ := id h
  obtain ⟨c1, hzv, hb, hs1⟩ := cz_two w (.slice A ags.length cap)
  have hS : ∀ W : World, Below ((w.alloc (.cells #[.slice A ags.length cap] 33)).alloc (.cells #[.int .i64 0, .int .i64 0, .string ⟨#[]⟩] 24)).heap.size ((w.alloc (.cells #[.slice A ags.length cap] 33)).alloc (.cells #[.int .i64 0, .int .i64 0, .string ⟨#[]⟩] 24)) W → SA W W.heap.size (.slice A ags.length cap) ags := fun W hW => (h.below (hb.trans (hW.mono (by omega))) (Nat.le_refl _)).mono (by have := hW.size; omega)
  obtain ⟨n, hn⟩ : ∃ n, ags.length = n := ⟨_, rfl⟩
  rw [hn] at hS c1 hzv hb hs1 hl ⊢
  have HW1 := Lib.hid hb; have HZ1 := Lib.hid hzv; have HSA := Lib.hid hS; have HZA := Lib.hid hz; have HN := Lib.hid hn
  subst hl
  have hx0 := sgl_ok ags hz 0 (by rw [HN.out]; omega)
  have hsz := textV_size _ hx0
  obtain ⟨s, hs⟩ : ∃ s, textV (sglA ags 0) = s := ⟨_, rfl⟩
  rw [hs] at hsz ⊢
  have HTX := Lib.hid (fun (W : World) (h1 : Tab W) (h2 : EtV W) => hs ▸ textV_any (sglA ags 0) hx0 W h1 h2)
  have HT := Lib.hid ht; have HE := Lib.hid he
  obtain ⟨nv, hnv⟩ : ∃ nv, nbV (sglA ags 1) 0 = nv := ⟨_, rfl⟩
  obtain ⟨ok, hok⟩ : ∃ ok, nbOk (sglA ags 1) 0 = ok := ⟨_, rfl⟩
  have hn0 : 0 ≤ nv := by rw [← hnv]; unfold nbV; split; rename_i h; unfold nbOk at h; rw [Bool.and_eq_true, decide_eq_true_iff] at h; omega; omega
  have HNB := Lib.hid (fun (W : World) (hW : SA W W.heap.size (.slice A 2 cap) ags) => hnv ▸ hok ▸ notBelow_1_0 W (.slice A 2 cap) ags hW hz (by rw [HN.out]; omega))
  rw [hnv, hok]
  clear h hz hb hzv hat hkid hS hn hs hx0 ht he hnv hok
  go_enter Tryd.func22, Tryd.ntmps22
  go_upto_region 1 with (fail)
  have HB1 := Lib.hid (Below.refl ((w.alloc (.cells #[.slice A 2 cap] 33)).alloc (.cells #[.int .i64 0, .int .i64 0, .string ⟨#[]⟩] 24)).heap.size ((w.alloc (.cells #[.slice A 2 cap] 33)).alloc (.cells #[.int .i64 0, .int .i64 0, .string ⟨#[]⟩] 24)))
  generalize hq : w.heap.size = q at HW1 hs1 c1 HZ1 ⊢
  generalize ((w.alloc (.cells #[.slice A 2 cap] 33)).alloc (.cells #[.int .i64 0, .int .i64 0, .string ⟨#[]⟩] 24)) = w1 at HW1 hs1 c1 HZ1 HB1 HSA ⊢
  cases ok with
  | false =>
    have HF := Lib.hid (fun (W : World) => ffault_any 1 W)
    go_wp2_with (first
      | (go_at_call 44; ((with_reducible refine (HNB.out _ (HSA.out _ HB1.out)).mono ?_); rintro e w2 ⟨rfl, hb⟩; have HB2 := Lib.hid (HB1.out.trans (hb.mono HB1.out.size)); have c2 := (hb.cell (p := ⟨q, 0, none⟩) (by have := HB1.out.size; show q < _; omega)).trans c1; have HZ2 := Lib.hid (HZ1.out.over hb); obtain ⟨m0, m1, m2⟩ := HZ2.out.melts; obtain ⟨u0, u1, u2⟩ := HZ2.out.cells; clear hb))
      | (go_at_call 8; ((with_reducible refine (HF.out _).mono ?_); rintro e w3 ⟨rfl, hb⟩; have HB3 := Lib.hid (HB2.out.trans (hb.mono HB2.out.size)); have c3 := (hb.cell (p := ⟨q, 0, none⟩) (by have := HB2.out.size; show q < _; omega)).trans c2; have HZ3 := Lib.hid (HZ2.out.over hb); obtain ⟨m0, m1, m2⟩ := HZ3.out.melts; obtain ⟨u0, u1, u2⟩ := HZ3.out.cells; clear hb)))
    exact bodyPost_ret (out_vl (HZ3.out.put3 (Vl.err 1)) _ _ 2 res_tleft rfl) rfl ⟨rfl, by first | exact belowV3 (HW1.out.trans (HB3.out.mono (by omega))) (by omega) (Vl.err 1) | (rw [hq]; exact belowV3 (HW1.out.trans (HB3.out.mono (by omega))) (by omega) (Vl.err 1))⟩
  | true =>
    obtain ⟨k, rfl⟩ : ∃ k : Nat, nv = (k : Int) := ⟨nv.toNat, by omega⟩
    obtain ⟨m, hm⟩ : ∃ m, min k s.size = m := ⟨_, rfl⟩
    have hmi : min (k : Int) (s.size : Int) = (m : Int) := by omega
    have hms : m ≤ s.size := by omega
    have HTT := Lib.hid (fun (W : World) => ftext_any (s.extract 0 m) W)
    have HX := Lib.hid (show leftV s (k : Int) true = Vl.text (s.extract 0 m) by unfold leftV; rw [if_pos rfl, ← hm]; rfl)
    have hmi0 : (0 : Int) ≤ (m : Int) := by omega
    have hmi1 : (m : Int) ≤ (s.size : Int) := by omega
    go_upto_region 5 with (first
      | (go_at_call 44; ((with_reducible refine (HNB.out _ (HSA.out _ HB1.out)).mono ?_); rintro e w2 ⟨rfl, hb⟩; have HB2 := Lib.hid (HB1.out.trans (hb.mono HB1.out.size)); have c2 := (hb.cell (p := ⟨q, 0, none⟩) (by have := HB1.out.size; show q < _; omega)).trans c1; have HZ2 := Lib.hid (HZ1.out.over hb); obtain ⟨m0, m1, m2⟩ := HZ2.out.melts; obtain ⟨u0, u1, u2⟩ := HZ2.out.cells; clear hb))
      | (go_at_call 39; ((with_reducible refine (single_0 _ _ _ (HSA.out _ HB2.out) HZA.out (by rw [HN.out]; omega)).mono ?_); rintro e w3 ⟨rfl, hb⟩; have HB3 := Lib.hid (HB2.out.trans (hb.mono HB2.out.size)); have c3 := (hb.cell (p := ⟨q, 0, none⟩) (by have := HB2.out.size; show q < _; omega)).trans c2; have HZ3 := Lib.hid (HZ2.out.over hb); obtain ⟨m0, m1, m2⟩ := HZ3.out.melts; obtain ⟨u0, u1, u2⟩ := HZ3.out.cells; clear hb))
      | (go_at_call 43; ((with_reducible refine (HTX.out _ (HT.out.below ((show Below w.heap.size w w1 by first | exact HW1.out | (rw [hq]; exact HW1.out)).trans (HB3.out.mono (by omega)))) (HE.out.below ((show Below w.heap.size w w1 by first | exact HW1.out | (rw [hq]; exact HW1.out)).trans (HB3.out.mono (by omega))))).mono ?_); rintro e w4 ⟨rfl, hb⟩; have HB4 := Lib.hid (HB3.out.trans (hb.mono HB3.out.size)); have c4 := (hb.cell (p := ⟨q, 0, none⟩) (by have := HB3.out.size; show q < _; omega)).trans c3; have HZ4 := Lib.hid (HZ3.out.over hb); obtain ⟨m0, m1, m2⟩ := HZ4.out.melts; obtain ⟨u0, u1, u2⟩ := HZ4.out.cells; clear hb)))
    go_wp2_with (first
      | (go_at_call 45; ((with_reducible refine (HTT.out _).mono ?_); rintro e w5 ⟨rfl, hb⟩; have HB5 := Lib.hid (HB4.out.trans (hb.mono HB4.out.size)); have c5 := (hb.cell (p := ⟨q, 0, none⟩) (by have := HB4.out.size; show q < _; omega)).trans c4; have HZ5 := Lib.hid (HZ4.out.over hb); obtain ⟨m0, m1, m2⟩ := HZ5.out.melts; obtain ⟨u0, u1, u2⟩ := HZ5.out.cells; clear hb)))
    exact bodyPost_ret (out_vl (HZ5.out.put3 (Vl.text (s.extract 0 m))) _ _ 2 res_tleft rfl) rfl ⟨by rw [HX.out], by first | exact belowV3 (HW1.out.trans (HB5.out.mono (by omega))) (by omega) (Vl.text (s.extract 0 m)) | (rw [hq]; exact belowV3 (HW1.out.trans (HB5.out.mono (by omega))) (by omega) (Vl.text (s.extract 0 m)))⟩
set_option maxRecDepth 100000 in
set_option maxHeartbeats 8000000 in
theorem right_any (w : World) (v : Value) (ags : List Ag) (h : SA w w.heap.size v ags) (hz : AZ ags) (hl : ags.length = 2) (ht : Tab w) (he : EtV w) : Calls Tryd.prog 23 #[.agg #[v]] w fun e w' => e = .returned (.agg #[.int .i64 (rightV (textV (sglA ags 0)) (nbV (sglA ags 1) 0) (nbOk (sglA ags 1) 0)).k, .int .i64 (rightV (textV (sglA ags 0)) (nbV (sglA ags 1) 0) (nbOk (sglA ags 1) 0)).n, .string (rightV (textV (sglA ags 0)) (nbV (sglA ags 1) 0) (nbOk (sglA ags 1) 0)).s]) ∧ Below w.heap.size w w' := by
  obtain ⟨⟨A, cap, rfl, hat⟩, hkid⟩ := id h
  obtain ⟨c1, hzv, hb, hs1⟩ := cz_two w (.slice A ags.length cap)
  have hS : ∀ W : World, Below ((w.alloc (.cells #[.slice A ags.length cap] 33)).alloc (.cells #[.int .i64 0, .int .i64 0, .string ⟨#[]⟩] 24)).heap.size ((w.alloc (.cells #[.slice A ags.length cap] 33)).alloc (.cells #[.int .i64 0, .int .i64 0, .string ⟨#[]⟩] 24)) W → SA W W.heap.size (.slice A ags.length cap) ags := fun W hW => (h.below (hb.trans (hW.mono (by omega))) (Nat.le_refl _)).mono (by have := hW.size; omega)
  obtain ⟨n, hn⟩ : ∃ n, ags.length = n := ⟨_, rfl⟩
  rw [hn] at hS c1 hzv hb hs1 hl ⊢
  have HW1 := Lib.hid hb; have HZ1 := Lib.hid hzv; have HSA := Lib.hid hS; have HZA := Lib.hid hz; have HN := Lib.hid hn
  subst hl
  have hx0 := sgl_ok ags hz 0 (by rw [HN.out]; omega)
  have hsz := textV_size _ hx0
  obtain ⟨s, hs⟩ : ∃ s, textV (sglA ags 0) = s := ⟨_, rfl⟩
  rw [hs] at hsz ⊢
  have HTX := Lib.hid (fun (W : World) (h1 : Tab W) (h2 : EtV W) => hs ▸ textV_any (sglA ags 0) hx0 W h1 h2)
  have HT := Lib.hid ht; have HE := Lib.hid he
  obtain ⟨nv, hnv⟩ : ∃ nv, nbV (sglA ags 1) 0 = nv := ⟨_, rfl⟩
  obtain ⟨ok, hok⟩ : ∃ ok, nbOk (sglA ags 1) 0 = ok := ⟨_, rfl⟩
  have hn0 : 0 ≤ nv := by rw [← hnv]; unfold nbV; split; rename_i h; unfold nbOk at h; rw [Bool.and_eq_true, decide_eq_true_iff] at h; omega; omega
  have HNB := Lib.hid (fun (W : World) (hW : SA W W.heap.size (.slice A 2 cap) ags) => hnv ▸ hok ▸ notBelow_1_0 W (.slice A 2 cap) ags hW hz (by rw [HN.out]; omega))
  rw [hnv, hok]
  clear h hz hb hzv hat hkid hS hn hs hx0 ht he hnv hok
  go_enter Tryd.func23, Tryd.ntmps23
  go_upto_region 1 with (fail)
  have HB1 := Lib.hid (Below.refl ((w.alloc (.cells #[.slice A 2 cap] 33)).alloc (.cells #[.int .i64 0, .int .i64 0, .string ⟨#[]⟩] 24)).heap.size ((w.alloc (.cells #[.slice A 2 cap] 33)).alloc (.cells #[.int .i64 0, .int .i64 0, .string ⟨#[]⟩] 24)))
  generalize hq : w.heap.size = q at HW1 hs1 c1 HZ1 ⊢
  generalize ((w.alloc (.cells #[.slice A 2 cap] 33)).alloc (.cells #[.int .i64 0, .int .i64 0, .string ⟨#[]⟩] 24)) = w1 at HW1 hs1 c1 HZ1 HB1 HSA ⊢
  cases ok with
  | false =>
    have HF := Lib.hid (fun (W : World) => ffault_any 1 W)
    go_wp2_with (first
      | (go_at_call 44; ((with_reducible refine (HNB.out _ (HSA.out _ HB1.out)).mono ?_); rintro e w2 ⟨rfl, hb⟩; have HB2 := Lib.hid (HB1.out.trans (hb.mono HB1.out.size)); have c2 := (hb.cell (p := ⟨q, 0, none⟩) (by have := HB1.out.size; show q < _; omega)).trans c1; have HZ2 := Lib.hid (HZ1.out.over hb); obtain ⟨m0, m1, m2⟩ := HZ2.out.melts; obtain ⟨u0, u1, u2⟩ := HZ2.out.cells; clear hb))
      | (go_at_call 8; ((with_reducible refine (HF.out _).mono ?_); rintro e w3 ⟨rfl, hb⟩; have HB3 := Lib.hid (HB2.out.trans (hb.mono HB2.out.size)); have c3 := (hb.cell (p := ⟨q, 0, none⟩) (by have := HB2.out.size; show q < _; omega)).trans c2; have HZ3 := Lib.hid (HZ2.out.over hb); obtain ⟨m0, m1, m2⟩ := HZ3.out.melts; obtain ⟨u0, u1, u2⟩ := HZ3.out.cells; clear hb)))
    exact bodyPost_ret (out_vl (HZ3.out.put3 (Vl.err 1)) _ _ 2 res_tright rfl) rfl ⟨rfl, by first | exact belowV3 (HW1.out.trans (HB3.out.mono (by omega))) (by omega) (Vl.err 1) | (rw [hq]; exact belowV3 (HW1.out.trans (HB3.out.mono (by omega))) (by omega) (Vl.err 1))⟩
  | true =>
    obtain ⟨k, rfl⟩ : ∃ k : Nat, nv = (k : Int) := ⟨nv.toNat, by omega⟩
    obtain ⟨m, hm⟩ : ∃ m, min k s.size = m := ⟨_, rfl⟩
    have hmi : min (k : Int) (s.size : Int) = (m : Int) := by omega
    have hms : m ≤ s.size := by omega
    obtain ⟨j, hj⟩ : ∃ j, s.size - m = j := ⟨_, rfl⟩
    have HTT := Lib.hid (fun (W : World) => ftext_any (s.extract j s.size) W)
    have HX := Lib.hid (show rightV s (k : Int) true = Vl.text (s.extract j s.size) by unfold rightV; rw [if_pos rfl, ← hj, ← hm]; rfl)
    have ew : wrap64 ((s.size : Int) - (m : Int)) = (j : Int) := by unfold wrap64; omega
    have hj0 : (0 : Int) ≤ (j : Int) := by omega
    have hj1 : (j : Int) ≤ (s.size : Int) := by omega
    go_upto_region 5 with (first
      | (go_at_call 44; ((with_reducible refine (HNB.out _ (HSA.out _ HB1.out)).mono ?_); rintro e w2 ⟨rfl, hb⟩; have HB2 := Lib.hid (HB1.out.trans (hb.mono HB1.out.size)); have c2 := (hb.cell (p := ⟨q, 0, none⟩) (by have := HB1.out.size; show q < _; omega)).trans c1; have HZ2 := Lib.hid (HZ1.out.over hb); obtain ⟨m0, m1, m2⟩ := HZ2.out.melts; obtain ⟨u0, u1, u2⟩ := HZ2.out.cells; clear hb))
      | (go_at_call 39; ((with_reducible refine (single_0 _ _ _ (HSA.out _ HB2.out) HZA.out (by rw [HN.out]; omega)).mono ?_); rintro e w3 ⟨rfl, hb⟩; have HB3 := Lib.hid (HB2.out.trans (hb.mono HB2.out.size)); have c3 := (hb.cell (p := ⟨q, 0, none⟩) (by have := HB2.out.size; show q < _; omega)).trans c2; have HZ3 := Lib.hid (HZ2.out.over hb); obtain ⟨m0, m1, m2⟩ := HZ3.out.melts; obtain ⟨u0, u1, u2⟩ := HZ3.out.cells; clear hb))
      | (go_at_call 43; ((with_reducible refine (HTX.out _ (HT.out.below ((show Below w.heap.size w w1 by first | exact HW1.out | (rw [hq]; exact HW1.out)).trans (HB3.out.mono (by omega)))) (HE.out.below ((show Below w.heap.size w w1 by first | exact HW1.out | (rw [hq]; exact HW1.out)).trans (HB3.out.mono (by omega))))).mono ?_); rintro e w4 ⟨rfl, hb⟩; have HB4 := Lib.hid (HB3.out.trans (hb.mono HB3.out.size)); have c4 := (hb.cell (p := ⟨q, 0, none⟩) (by have := HB3.out.size; show q < _; omega)).trans c3; have HZ4 := Lib.hid (HZ3.out.over hb); obtain ⟨m0, m1, m2⟩ := HZ4.out.melts; obtain ⟨u0, u1, u2⟩ := HZ4.out.cells; clear hb)))
    go_wp2_with (first
      | (go_at_call 45; ((with_reducible refine (HTT.out _).mono ?_); rintro e w5 ⟨rfl, hb⟩; have HB5 := Lib.hid (HB4.out.trans (hb.mono HB4.out.size)); have c5 := (hb.cell (p := ⟨q, 0, none⟩) (by have := HB4.out.size; show q < _; omega)).trans c4; have HZ5 := Lib.hid (HZ4.out.over hb); obtain ⟨m0, m1, m2⟩ := HZ5.out.melts; obtain ⟨u0, u1, u2⟩ := HZ5.out.cells; clear hb)))
    exact bodyPost_ret (out_vl (HZ5.out.put3 (Vl.text (s.extract j s.size))) _ _ 2 res_tright rfl) rfl ⟨by rw [HX.out], by first | exact belowV3 (HW1.out.trans (HB5.out.mono (by omega))) (by omega) (Vl.text (s.extract j s.size)) | (rw [hq]; exact belowV3 (HW1.out.trans (HB5.out.mono (by omega))) (by omega) (Vl.text (s.extract j s.size)))⟩
def midV (s : ByteArray) (p : Int) (po : Bool) (n : Int) (no : Bool) : Vl := if po = true ∧ no = true then .text ((s.extract (min (p - 1).toNat s.size) s.size).extract 0 (min n.toNat (s.extract (min (p - 1).toNat s.size) s.size).size)) else .err 1
set_option maxRecDepth 100000 in
set_option maxHeartbeats 8000000 in
theorem middle_any (w : World) (v : Value) (ags : List Ag) (h : SA w w.heap.size v ags) (hz : AZ ags) (hl : ags.length = 3) (ht : Tab w) (he : EtV w) : Calls Tryd.prog 24 #[.agg #[v]] w fun e w' => e = .returned (.agg #[.int .i64 (midV (textV (sglA ags 0)) (nbV (sglA ags 1) 1) (nbOk (sglA ags 1) 1) (nbV (sglA ags 2) 0) (nbOk (sglA ags 2) 0)).k, .int .i64 (midV (textV (sglA ags 0)) (nbV (sglA ags 1) 1) (nbOk (sglA ags 1) 1) (nbV (sglA ags 2) 0) (nbOk (sglA ags 2) 0)).n, .string (midV (textV (sglA ags 0)) (nbV (sglA ags 1) 1) (nbOk (sglA ags 1) 1) (nbV (sglA ags 2) 0) (nbOk (sglA ags 2) 0)).s]) ∧ Below w.heap.size w w' := by
  obtain ⟨⟨A, cap, rfl, hat⟩, hkid⟩ := id h
  obtain ⟨c1, hzv, hb, hs1⟩ := cz_two w (.slice A ags.length cap)
  have hS : ∀ W : World, Below ((w.alloc (.cells #[.slice A ags.length cap] 33)).alloc (.cells #[.int .i64 0, .int .i64 0, .string ⟨#[]⟩] 24)).heap.size ((w.alloc (.cells #[.slice A ags.length cap] 33)).alloc (.cells #[.int .i64 0, .int .i64 0, .string ⟨#[]⟩] 24)) W → SA W W.heap.size (.slice A ags.length cap) ags := fun W hW => (h.below (hb.trans (hW.mono (by omega))) (Nat.le_refl _)).mono (by have := hW.size; omega)
  obtain ⟨n, hn⟩ : ∃ n, ags.length = n := ⟨_, rfl⟩
  rw [hn] at hS c1 hzv hb hs1 hl ⊢
  have HW1 := Lib.hid hb; have HZ1 := Lib.hid hzv; have HSA := Lib.hid hS; have HZA := Lib.hid hz; have HN := Lib.hid hn
  subst hl
  have hx0 := sgl_ok ags hz 0 (by rw [HN.out]; omega)
  have hsz := textV_size _ hx0
  obtain ⟨s, hs⟩ : ∃ s, textV (sglA ags 0) = s := ⟨_, rfl⟩
  rw [hs] at hsz ⊢
  have HTX := Lib.hid (fun (W : World) (h1 : Tab W) (h2 : EtV W) => hs ▸ textV_any (sglA ags 0) hx0 W h1 h2)
  have HT := Lib.hid ht; have HE := Lib.hid he
  obtain ⟨pv, hpv⟩ : ∃ pv, nbV (sglA ags 1) 1 = pv := ⟨_, rfl⟩
  obtain ⟨po, hpo⟩ : ∃ po, nbOk (sglA ags 1) 1 = po := ⟨_, rfl⟩
  obtain ⟨nv, hnv⟩ : ∃ nv, nbV (sglA ags 2) 0 = nv := ⟨_, rfl⟩
  obtain ⟨no, hno⟩ : ∃ no, nbOk (sglA ags 2) 0 = no := ⟨_, rfl⟩
  have hp1 : po = true → 1 ≤ pv := fun e => by rw [← hpv]; unfold nbV; rw [hpo, if_pos e]; rw [← hpo] at e; unfold nbOk at e; rw [Bool.and_eq_true, decide_eq_true_iff] at e; omega
  have hpb : pv ≤ 9223372036854775807 := by
    have hx1 := (sgl_ok ags hz 1 (by rw [HN.out]; omega)).int
    rw [← hpv]; unfold nbV; split <;> omega
  have hn0 : 0 ≤ nv := by rw [← hnv]; unfold nbV; split; rename_i h; unfold nbOk at h; rw [Bool.and_eq_true, decide_eq_true_iff] at h; omega; omega
  have HP := Lib.hid (fun (W : World) (hW : SA W W.heap.size (.slice A 3 cap) ags) => hpv ▸ hpo ▸ notBelow_1_1 W (.slice A 3 cap) ags hW hz (by rw [HN.out]; omega))
  have HNB := Lib.hid (fun (W : World) (hW : SA W W.heap.size (.slice A 3 cap) ags) => hnv ▸ hno ▸ notBelow_2_0 W (.slice A 3 cap) ags hW hz (by rw [HN.out]; omega))
  rw [hpv, hpo, hnv, hno]
  clear h hz hb hzv hat hkid hS hn hs hx0 ht he hpv hpo hnv hno
  go_enter Tryd.func24, Tryd.ntmps24
  go_upto_region 1 with (fail)
  have HB1 := Lib.hid (Below.refl ((w.alloc (.cells #[.slice A 3 cap] 33)).alloc (.cells #[.int .i64 0, .int .i64 0, .string ⟨#[]⟩] 24)).heap.size ((w.alloc (.cells #[.slice A 3 cap] 33)).alloc (.cells #[.int .i64 0, .int .i64 0, .string ⟨#[]⟩] 24)))
  generalize hq : w.heap.size = q at HW1 hs1 c1 HZ1 ⊢
  generalize ((w.alloc (.cells #[.slice A 3 cap] 33)).alloc (.cells #[.int .i64 0, .int .i64 0, .string ⟨#[]⟩] 24)) = w1 at HW1 hs1 c1 HZ1 HB1 HSA ⊢
  by_cases hok : po = true ∧ no = true
  · obtain ⟨rfl, rfl⟩ := hok
    have hp2 := hp1 rfl
    obtain ⟨k, rfl⟩ : ∃ k : Nat, nv = (k : Int) := ⟨nv.toNat, by omega⟩
    obtain ⟨f, hf⟩ : ∃ f : Nat, pv - 1 = (f : Int) := ⟨(pv - 1).toNat, by omega⟩
    obtain ⟨m, hm⟩ : ∃ m, min f s.size = m := ⟨_, rfl⟩
    have ew : wrap64 (pv - 1) = (f : Int) := by unfold wrap64; omega
    have hmi : min (f : Int) (s.size : Int) = (m : Int) := by omega
    have hm0 : (0 : Int) ≤ (m : Int) := by omega
    have hm1 : (m : Int) ≤ (s.size : Int) := by omega
    obtain ⟨t, htt⟩ : ∃ t, s.extract m s.size = t := ⟨_, rfl⟩
    obtain ⟨r, hr⟩ : ∃ r, min k t.size = r := ⟨_, rfl⟩
    have hri : min (k : Int) (t.size : Int) = (r : Int) := by omega
    have hr0 : (0 : Int) ≤ (r : Int) := by omega
    have hr1 : (r : Int) ≤ (t.size : Int) := by omega
    have HTT := Lib.hid (fun (W : World) => ftext_any (t.extract 0 r) W)
    have HX := Lib.hid (show midV s pv true (k : Int) true = Vl.text (t.extract 0 r) by unfold midV; rw [if_pos ⟨rfl, rfl⟩, hf, Int.toNat_natCast, hm, htt, Int.toNat_natCast, hr])
    go_upto_region 6 with (first
      | (go_at_call 44; ((with_reducible refine (HP.out _ (HSA.out _ HB1.out)).mono ?_); rintro e w2 ⟨rfl, hb⟩; have HB2 := Lib.hid (HB1.out.trans (hb.mono HB1.out.size)); have c2 := (hb.cell (p := ⟨q, 0, none⟩) (by have := HB1.out.size; show q < _; omega)).trans c1; have HZ2 := Lib.hid (HZ1.out.over hb); obtain ⟨m0, m1, m2⟩ := HZ2.out.melts; obtain ⟨u0, u1, u2⟩ := HZ2.out.cells; clear hb))
      | (go_at_call 44; ((with_reducible refine (HNB.out _ (HSA.out _ HB2.out)).mono ?_); rintro e w3 ⟨rfl, hb⟩; have HB3 := Lib.hid (HB2.out.trans (hb.mono HB2.out.size)); have c3 := (hb.cell (p := ⟨q, 0, none⟩) (by have := HB2.out.size; show q < _; omega)).trans c2; have HZ3 := Lib.hid (HZ2.out.over hb); obtain ⟨m0, m1, m2⟩ := HZ3.out.melts; obtain ⟨u0, u1, u2⟩ := HZ3.out.cells; clear hb))
      | (go_at_call 39; ((with_reducible refine (single_0 _ _ _ (HSA.out _ HB3.out) HZA.out (by rw [HN.out]; omega)).mono ?_); rintro e w4 ⟨rfl, hb⟩; have HB4 := Lib.hid (HB3.out.trans (hb.mono HB3.out.size)); have c4 := (hb.cell (p := ⟨q, 0, none⟩) (by have := HB3.out.size; show q < _; omega)).trans c3; have HZ4 := Lib.hid (HZ3.out.over hb); obtain ⟨m0, m1, m2⟩ := HZ4.out.melts; obtain ⟨u0, u1, u2⟩ := HZ4.out.cells; clear hb))
      | (go_at_call 43; ((with_reducible refine (HTX.out _ (HT.out.below ((show Below w.heap.size w w1 by first | exact HW1.out | (rw [hq]; exact HW1.out)).trans (HB4.out.mono (by omega)))) (HE.out.below ((show Below w.heap.size w w1 by first | exact HW1.out | (rw [hq]; exact HW1.out)).trans (HB4.out.mono (by omega))))).mono ?_); rintro e w5 ⟨rfl, hb⟩; have HB5 := Lib.hid (HB4.out.trans (hb.mono HB4.out.size)); have c5 := (hb.cell (p := ⟨q, 0, none⟩) (by have := HB4.out.size; show q < _; omega)).trans c4; have HZ5 := Lib.hid (HZ4.out.over hb); obtain ⟨m0, m1, m2⟩ := HZ5.out.melts; obtain ⟨u0, u1, u2⟩ := HZ5.out.cells; clear hb)))
    go_upto_region 7 with (fail)
    try rw [htt]
    go_wp2_with (first
      | (go_at_call 45; ((with_reducible refine (HTT.out _).mono ?_); rintro e w6 ⟨rfl, hb⟩; have HB6 := Lib.hid (HB5.out.trans (hb.mono HB5.out.size)); have c6 := (hb.cell (p := ⟨q, 0, none⟩) (by have := HB5.out.size; show q < _; omega)).trans c5; have HZ6 := Lib.hid (HZ5.out.over hb); obtain ⟨m0, m1, m2⟩ := HZ6.out.melts; obtain ⟨u0, u1, u2⟩ := HZ6.out.cells; clear hb)))
    exact bodyPost_ret (out_vl (HZ6.out.put3 (Vl.text (t.extract 0 r))) _ _ 2 res_tmiddle rfl) rfl ⟨by rw [HX.out], by first | exact belowV3 (HW1.out.trans (HB6.out.mono (by omega))) (by omega) (Vl.text (t.extract 0 r)) | (rw [hq]; exact belowV3 (HW1.out.trans (HB6.out.mono (by omega))) (by omega) (Vl.text (t.extract 0 r)))⟩
  · have HX := Lib.hid (show midV s pv po nv no = Vl.err 1 by unfold midV; rw [if_neg hok])
    have HF := Lib.hid (fun (W : World) => ffault_any 1 W)
    cases po with
    | false =>
      go_wp2_with (first
        | (go_at_call 44; ((with_reducible refine (HP.out _ (HSA.out _ HB1.out)).mono ?_); rintro e w2 ⟨rfl, hb⟩; have HB2 := Lib.hid (HB1.out.trans (hb.mono HB1.out.size)); have c2 := (hb.cell (p := ⟨q, 0, none⟩) (by have := HB1.out.size; show q < _; omega)).trans c1; have HZ2 := Lib.hid (HZ1.out.over hb); obtain ⟨m0, m1, m2⟩ := HZ2.out.melts; obtain ⟨u0, u1, u2⟩ := HZ2.out.cells; clear hb))
        | (go_at_call 44; ((with_reducible refine (HNB.out _ (HSA.out _ HB2.out)).mono ?_); rintro e w3 ⟨rfl, hb⟩; have HB3 := Lib.hid (HB2.out.trans (hb.mono HB2.out.size)); have c3 := (hb.cell (p := ⟨q, 0, none⟩) (by have := HB2.out.size; show q < _; omega)).trans c2; have HZ3 := Lib.hid (HZ2.out.over hb); obtain ⟨m0, m1, m2⟩ := HZ3.out.melts; obtain ⟨u0, u1, u2⟩ := HZ3.out.cells; clear hb))
        | (go_at_call 8; ((with_reducible refine (HF.out _).mono ?_); rintro e w4 ⟨rfl, hb⟩; have HB4 := Lib.hid (HB3.out.trans (hb.mono HB3.out.size)); have c4 := (hb.cell (p := ⟨q, 0, none⟩) (by have := HB3.out.size; show q < _; omega)).trans c3; have HZ4 := Lib.hid (HZ3.out.over hb); obtain ⟨m0, m1, m2⟩ := HZ4.out.melts; obtain ⟨u0, u1, u2⟩ := HZ4.out.cells; clear hb)))
      exact bodyPost_ret (out_vl (HZ4.out.put3 (Vl.err 1)) _ _ 2 res_tmiddle rfl) rfl ⟨by rw [HX.out], by first | exact belowV3 (HW1.out.trans (HB4.out.mono (by omega))) (by omega) (Vl.err 1) | (rw [hq]; exact belowV3 (HW1.out.trans (HB4.out.mono (by omega))) (by omega) (Vl.err 1))⟩
    | true =>
      have hno2 : no = false := by cases no <;> simp_all
      subst hno2
      go_wp2_with (first
        | (go_at_call 44; ((with_reducible refine (HP.out _ (HSA.out _ HB1.out)).mono ?_); rintro e w2 ⟨rfl, hb⟩; have HB2 := Lib.hid (HB1.out.trans (hb.mono HB1.out.size)); have c2 := (hb.cell (p := ⟨q, 0, none⟩) (by have := HB1.out.size; show q < _; omega)).trans c1; have HZ2 := Lib.hid (HZ1.out.over hb); obtain ⟨m0, m1, m2⟩ := HZ2.out.melts; obtain ⟨u0, u1, u2⟩ := HZ2.out.cells; clear hb))
        | (go_at_call 44; ((with_reducible refine (HNB.out _ (HSA.out _ HB2.out)).mono ?_); rintro e w3 ⟨rfl, hb⟩; have HB3 := Lib.hid (HB2.out.trans (hb.mono HB2.out.size)); have c3 := (hb.cell (p := ⟨q, 0, none⟩) (by have := HB2.out.size; show q < _; omega)).trans c2; have HZ3 := Lib.hid (HZ2.out.over hb); obtain ⟨m0, m1, m2⟩ := HZ3.out.melts; obtain ⟨u0, u1, u2⟩ := HZ3.out.cells; clear hb))
        | (go_at_call 8; ((with_reducible refine (HF.out _).mono ?_); rintro e w4 ⟨rfl, hb⟩; have HB4 := Lib.hid (HB3.out.trans (hb.mono HB3.out.size)); have c4 := (hb.cell (p := ⟨q, 0, none⟩) (by have := HB3.out.size; show q < _; omega)).trans c3; have HZ4 := Lib.hid (HZ3.out.over hb); obtain ⟨m0, m1, m2⟩ := HZ4.out.melts; obtain ⟨u0, u1, u2⟩ := HZ4.out.cells; clear hb)))
      exact bodyPost_ret (out_vl (HZ4.out.put3 (Vl.err 1)) _ _ 2 res_tmiddle rfl) rfl ⟨by rw [HX.out], by first | exact belowV3 (HW1.out.trans (HB4.out.mono (by omega))) (by omega) (Vl.err 1) | (rw [hq]; exact belowV3 (HW1.out.trans (HB4.out.mono (by omega))) (by omega) (Vl.err 1))⟩
end Go.Proofs.YtolhmemiknpeaaaDoor
