/-
  Layer 8, the program: all, any.
-/
import Derived.Test.YtolhmemiknpeaaaGreatDoorFuT
import Derived.Deep.DeepCutAuto
namespace Go.Proofs.YtolhmemiknpeaaaGreatDoor
open Go.RowKit

def okT (o : Option (List Vl)) : Bool := o.isSome && decide (0 < (o.getD []).length)
theorem allA_is (ags : List Ag) (o : Option (List Vl)) (h : pas2 [1, 3] [] ags = o) : allA ags = if okT o = true then Vl.truth (!((o.getD []).map truthV).contains false) else Vl.err 1 := by
  unfold allA trusA okT; rw [h]
  cases o with
  | none => rfl
  | some l => cases l <;> rfl
theorem anyA_is (ags : List Ag) (o : Option (List Vl)) (h : pas2 [1, 3] [] ags = o) : anyA ags = if okT o = true then Vl.truth (((o.getD []).map truthV).contains true) else Vl.err 1 := by
  unfold anyA trusA okT; rw [h]
  cases o with
  | none => rfl
  | some l => cases l <;> rfl
theorem res_fall : Tryz.f18.results = #[.cell 2 28] := by kernel_rfl
set_option maxRecDepth 100000 in
set_option maxHeartbeats 8000000 in
theorem fall_any (w : World) (v : Value) (ags : List Ag) (h : SA w w.heap.size v ags) (hz : AZ ags) : Calls Tryz.prog 18 #[.agg #[v]] w fun e w' => e = .returned (.agg #[.int .i64 (allA ags).k, .int .i64 (allA ags).n, .string (allA ags).s]) ∧ Below w.heap.size w w' := by
  obtain ⟨c0, hzv, hb, hs1⟩ := cz_two w v
  have hpl := pas2_len [1, 3] ags []
  have hp := truths_any ((w.alloc (.cells #[v] 38)).alloc (.cells #[.int .i64 0, .int .i64 0, .string ⟨#[]⟩] 28)) v ags ((h.below hb (Nat.le_refl _)).mono hb.size) hz
  obtain ⟨o, ho⟩ : ∃ o, pas2 [1, 3] [] ags = o := ⟨_, rfl⟩
  have hol : (o.getD []).length ≤ 1000000 := by
    cases o with
    | none => simp
    | some l => have := hpl l ho; rw [List.length_nil, Nat.zero_add] at this; exact Nat.le_trans this hz.2.1
  have hr := allA_is ags o ho
  rw [ho] at hp
  obtain ⟨rv, hrv⟩ : ∃ rv, allA ags = rv := ⟨_, rfl⟩
  rw [hrv] at hr ⊢
  obtain ⟨ls, hls⟩ : ∃ ls, (o.getD []).map truthV = ls := ⟨_, rfl⟩
  have hlen : ls.length ≤ 1000000 := by rw [← hls, List.length_map]; exact hol
  unfold TruRet at hp
  rw [show (o.isSome && decide (0 < (o.getD []).length)) = okT o from rfl, hls] at hp
  rw [hls] at hr
  obtain ⟨ok, hok⟩ : ∃ ok, okT o = ok := ⟨_, rfl⟩
  rw [hok] at hp hr
  obtain ⟨cb, hcb⟩ : ∃ cb, ls.contains false = cb := ⟨_, rfl⟩
  rw [hcb] at hr
  have HC := Lib.hid (fun (W : World) (B : Nat) (lv : Value) (hs : SG Value.bool W B lv ls) => hcb ▸ contains_bool W B lv ls false hs hlen)
  have HW1 := Lib.hid hb; have HZV := Lib.hid hzv; have HP := Lib.hid hp; have HR := Lib.hid hr
  clear hb hzv hpl hp ho hol hr hrv hls hok hcb h hz
  cases ok with
  | false =>
    have HX := Lib.hid (show rv = Vl.err 1 by rw [HR.out]; rfl)
    go_enter Tryz.func18, Tryz.ntmps18
    go_upto_region 1 with (fail)
    generalize hq : w.heap.size = q at HW1 hs1 c0 HZV ⊢
    generalize ((w.alloc (.cells #[v] 38)).alloc (.cells #[.int .i64 0, .int .i64 0, .string ⟨#[]⟩] 28)) = w1 at HW1 hs1 c0 HZV HP ⊢
    have HF := Lib.hid (fun (W : World) => ffault_any 1 W)
    go_wp2_with (first
      | (go_at_call 39; ((with_reducible refine HP.out.mono ?_); rintro e w2 ⟨⟨lv, rfl, hp⟩, hb⟩; have HPV := Lib.hid hp; have HB2 := Lib.hid hb; clear hp hb))
      | (go_at_call 11; ((with_reducible refine (HF.out _).mono ?_); rintro e w3 ⟨rfl, hb⟩; have HB3 := Lib.hid (HB2.out.trans (hb.mono HB2.out.size)); have HZ3 := Lib.hid (HZV.out.over HB3.out); obtain ⟨m0, m1, m2⟩ := HZ3.out.melts; obtain ⟨u0, u1, u2⟩ := HZ3.out.cells; clear hb)))
    exact bodyPost_ret (out_vl (HZ3.out.put3 (Vl.err 1)) _ _ 2 res_fall rfl) rfl ⟨by rw [HX.out], by first | exact belowV3 (HW1.out.trans (HB3.out.mono (by omega))) (by omega) (Vl.err 1) | (rw [hq]; exact belowV3 (HW1.out.trans (HB3.out.mono (by omega))) (by omega) (Vl.err 1))⟩
  | true =>
    have HX := Lib.hid (show rv = Vl.truth (!cb) by rw [HR.out]; rfl)
    have HTR := Lib.hid (fun (W : World) => ftruth_any (!cb) W)
    go_enter Tryz.func18, Tryz.ntmps18
    go_upto_region 1 with (fail)
    generalize hq : w.heap.size = q at HW1 hs1 c0 HZV ⊢
    generalize ((w.alloc (.cells #[v] 38)).alloc (.cells #[.int .i64 0, .int .i64 0, .string ⟨#[]⟩] 28)) = w1 at HW1 hs1 c0 HZV HP ⊢
    go_wp2_with (first
      | (go_at_call 39; ((with_reducible refine HP.out.mono ?_); rintro e w2 ⟨⟨lv, rfl, hp⟩, hb⟩; have HPV := Lib.hid (own_sgB hp); have HB2 := Lib.hid hb; clear hp hb))
      | (go_at_call 41; ((with_reducible refine (HC.out _ _ _ HPV.out).mono ?_); rintro e w3 ⟨rfl, hb⟩; have HB3 := Lib.hid (HB2.out.trans ((show Below w2.heap.size w2 w3 from hb).mono HB2.out.size)); have HZ3 := Lib.hid (HZV.out.over HB3.out); obtain ⟨m0, m1, m2⟩ := HZ3.out.melts; obtain ⟨u0, u1, u2⟩ := HZ3.out.cells; clear hb))
      | (go_at_call 40; ((with_reducible refine (HTR.out _).mono ?_); rintro e w4 ⟨rfl, hb⟩; have HB4 := Lib.hid (HB3.out.trans (hb.mono HB3.out.size)); have HZ4 := Lib.hid (HZ3.out.over hb); obtain ⟨m0, m1, m2⟩ := HZ4.out.melts; obtain ⟨u0, u1, u2⟩ := HZ4.out.cells; clear hb)))
    exact bodyPost_ret (out_vl (HZ4.out.put3 (Vl.truth (!cb))) _ _ 2 res_fall rfl) rfl ⟨by rw [HX.out], by first | exact belowV3 (HW1.out.trans (HB4.out.mono (by omega))) (by omega) (Vl.truth (!cb)) | (rw [hq]; exact belowV3 (HW1.out.trans (HB4.out.mono (by omega))) (by omega) (Vl.truth (!cb)))⟩
theorem res_fany : Tryz.f19.results = #[.cell 2 28] := by kernel_rfl
set_option maxRecDepth 100000 in
set_option maxHeartbeats 8000000 in
theorem fany_any (w : World) (v : Value) (ags : List Ag) (h : SA w w.heap.size v ags) (hz : AZ ags) : Calls Tryz.prog 19 #[.agg #[v]] w fun e w' => e = .returned (.agg #[.int .i64 (anyA ags).k, .int .i64 (anyA ags).n, .string (anyA ags).s]) ∧ Below w.heap.size w w' := by
  obtain ⟨c0, hzv, hb, hs1⟩ := cz_two w v
  have hpl := pas2_len [1, 3] ags []
  have hp := truths_any ((w.alloc (.cells #[v] 38)).alloc (.cells #[.int .i64 0, .int .i64 0, .string ⟨#[]⟩] 28)) v ags ((h.below hb (Nat.le_refl _)).mono hb.size) hz
  obtain ⟨o, ho⟩ : ∃ o, pas2 [1, 3] [] ags = o := ⟨_, rfl⟩
  have hol : (o.getD []).length ≤ 1000000 := by
    cases o with
    | none => simp
    | some l => have := hpl l ho; rw [List.length_nil, Nat.zero_add] at this; exact Nat.le_trans this hz.2.1
  have hr := anyA_is ags o ho
  rw [ho] at hp
  obtain ⟨rv, hrv⟩ : ∃ rv, anyA ags = rv := ⟨_, rfl⟩
  rw [hrv] at hr ⊢
  obtain ⟨ls, hls⟩ : ∃ ls, (o.getD []).map truthV = ls := ⟨_, rfl⟩
  have hlen : ls.length ≤ 1000000 := by rw [← hls, List.length_map]; exact hol
  unfold TruRet at hp
  rw [show (o.isSome && decide (0 < (o.getD []).length)) = okT o from rfl, hls] at hp
  rw [hls] at hr
  obtain ⟨ok, hok⟩ : ∃ ok, okT o = ok := ⟨_, rfl⟩
  rw [hok] at hp hr
  obtain ⟨cb, hcb⟩ : ∃ cb, ls.contains true = cb := ⟨_, rfl⟩
  rw [hcb] at hr
  have HC := Lib.hid (fun (W : World) (B : Nat) (lv : Value) (hs : SG Value.bool W B lv ls) => hcb ▸ contains_bool W B lv ls true hs hlen)
  have HW1 := Lib.hid hb; have HZV := Lib.hid hzv; have HP := Lib.hid hp; have HR := Lib.hid hr
  clear hb hzv hpl hp ho hol hr hrv hls hok hcb h hz
  cases ok with
  | false =>
    have HX := Lib.hid (show rv = Vl.err 1 by rw [HR.out]; rfl)
    go_enter Tryz.func19, Tryz.ntmps19
    go_upto_region 1 with (fail)
    generalize hq : w.heap.size = q at HW1 hs1 c0 HZV ⊢
    generalize ((w.alloc (.cells #[v] 38)).alloc (.cells #[.int .i64 0, .int .i64 0, .string ⟨#[]⟩] 28)) = w1 at HW1 hs1 c0 HZV HP ⊢
    have HF := Lib.hid (fun (W : World) => ffault_any 1 W)
    go_wp2_with (first
      | (go_at_call 39; ((with_reducible refine HP.out.mono ?_); rintro e w2 ⟨⟨lv, rfl, hp⟩, hb⟩; have HPV := Lib.hid hp; have HB2 := Lib.hid hb; clear hp hb))
      | (go_at_call 11; ((with_reducible refine (HF.out _).mono ?_); rintro e w3 ⟨rfl, hb⟩; have HB3 := Lib.hid (HB2.out.trans (hb.mono HB2.out.size)); have HZ3 := Lib.hid (HZV.out.over HB3.out); obtain ⟨m0, m1, m2⟩ := HZ3.out.melts; obtain ⟨u0, u1, u2⟩ := HZ3.out.cells; clear hb)))
    exact bodyPost_ret (out_vl (HZ3.out.put3 (Vl.err 1)) _ _ 2 res_fany rfl) rfl ⟨by rw [HX.out], by first | exact belowV3 (HW1.out.trans (HB3.out.mono (by omega))) (by omega) (Vl.err 1) | (rw [hq]; exact belowV3 (HW1.out.trans (HB3.out.mono (by omega))) (by omega) (Vl.err 1))⟩
  | true =>
    have HX := Lib.hid (show rv = Vl.truth cb by rw [HR.out]; rfl)
    have HTR := Lib.hid (fun (W : World) => ftruth_any cb W)
    go_enter Tryz.func19, Tryz.ntmps19
    go_upto_region 1 with (fail)
    generalize hq : w.heap.size = q at HW1 hs1 c0 HZV ⊢
    generalize ((w.alloc (.cells #[v] 38)).alloc (.cells #[.int .i64 0, .int .i64 0, .string ⟨#[]⟩] 28)) = w1 at HW1 hs1 c0 HZV HP ⊢
    go_wp2_with (first
      | (go_at_call 39; ((with_reducible refine HP.out.mono ?_); rintro e w2 ⟨⟨lv, rfl, hp⟩, hb⟩; have HPV := Lib.hid (own_sgB hp); have HB2 := Lib.hid hb; clear hp hb))
      | (go_at_call 41; ((with_reducible refine (HC.out _ _ _ HPV.out).mono ?_); rintro e w3 ⟨rfl, hb⟩; have HB3 := Lib.hid (HB2.out.trans ((show Below w2.heap.size w2 w3 from hb).mono HB2.out.size)); have HZ3 := Lib.hid (HZV.out.over HB3.out); obtain ⟨m0, m1, m2⟩ := HZ3.out.melts; obtain ⟨u0, u1, u2⟩ := HZ3.out.cells; clear hb))
      | (go_at_call 40; ((with_reducible refine (HTR.out _).mono ?_); rintro e w4 ⟨rfl, hb⟩; have HB4 := Lib.hid (HB3.out.trans (hb.mono HB3.out.size)); have HZ4 := Lib.hid (HZ3.out.over hb); obtain ⟨m0, m1, m2⟩ := HZ4.out.melts; obtain ⟨u0, u1, u2⟩ := HZ4.out.cells; clear hb)))
    exact bodyPost_ret (out_vl (HZ4.out.put3 (Vl.truth cb)) _ _ 2 res_fany rfl) rfl ⟨by rw [HX.out], by first | exact belowV3 (HW1.out.trans (HB4.out.mono (by omega))) (by omega) (Vl.truth cb) | (rw [hq]; exact belowV3 (HW1.out.trans (HB4.out.mono (by omega))) (by omega) (Vl.truth cb))⟩
end Go.Proofs.YtolhmemiknpeaaaGreatDoor
