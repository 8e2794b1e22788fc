/-
  Layer 8, the program: least, greatest.
-/
import Derived.Test.YtolhmemiknpeaaaGreatDoorFuG
import Derived.Deep.DeepCutAuto
namespace Go.Proofs.YtolhmemiknpeaaaGreatDoor
open Go.RowKit

set_option maxRecDepth 100000 in
set_option maxHeartbeats 1600000 in
theorem minL_any (w : World) (B : Nat) (v : Value) (x : Int) (l : List Int) (h : SG (Value.int .i64) w B v (x :: l)) (hz : (x :: l).length ≤ 1000000) : Calls Tryz.prog 37 #[v] w fun e w' => e = .returned (.int .i64 (l.foldl min x)) ∧ Aft w w' := by
  obtain ⟨A, cap, rfl, hat⟩ := h
  obtain ⟨n, hn⟩ : ∃ n, (x :: l).length = n := ⟨_, rfl⟩
  rw [hn] at hz ⊢
  have hn1 : 1 ≤ n := by rw [← hn]; simp
  obtain ⟨pb, po, rfl, hpb, hc⟩ := hat.resolve_left (by simp)
  have hc0 := hc 0 x rfl
  simp only [Nat.add_zero] at hc0
  have h1 : ¬ (n : Int) < 1 := by omega
  have h0 : (0 : Int) < (n : Int) := by omega
  obtain ⟨rv, hrv⟩ : ∃ rv, l.foldl min x = rv := ⟨_, rfl⟩
  rw [hrv]
  have HC := Lib.hid hc; have HN := Lib.hid hn; have HRV := Lib.hid hrv
  clear hc hn hat hrv
  go_enter Tryz.func37, Tryz.ntmps37
  go_upto_region 5 with (fail)
  go_loopw [3, 4] (fun av iv wr => ∃ (i : Nat) (a : Int) (k : Nat), 1 ≤ i ∧ i ≤ n ∧ av = .int .i64 a ∧ iv = .int .i64 (i : Int) ∧ Hid (rv = ((x :: l).drop i).foldl min a) ∧ w.drewN k = wr)
    (fun _ iv _ => n - (intOf iv).toNat)
  case atStart => exact ⟨1, x, 0, Nat.le_refl _, hn1, rfl, rfl, Lib.hid HRV.out.symm, rfl⟩
  case round =>
    obtain ⟨i, a, k, hi1, hi, rfl, rfl, HT, rfl⟩ := hrel
    by_cases hlt : i < n
    · have hii : (i : Int) < (n : Int) := by omega
      have hi0 : (0 : Int) ≤ (i : Int) := by omega
      obtain ⟨y, hy⟩ : ∃ y, (x :: l)[i]? = some y := ⟨_, List.getElem?_eq_getElem (by rw [HN.out]; exact hlt)⟩
      have k1 := HC.out i y hy
      have HF := Lib.hid (show rv = ((x :: l).drop (i + 1)).foldl min (min a y) by rw [HT.out, drop_at hy]; rfl)
      clear hy
      go_wp2_with fail
      go_roundw
      case rel => exact ⟨i + 1, _, _, by omega, by omega, rfl, by go_num, HF, by first | rfl | trivial⟩
      case measure => simp [intOf]; omega
    · have hii : ¬ (i : Int) < (n : Int) := by omega
      have HF := Lib.hid (show rv = a by rw [HT.out, show (x :: l).drop i = [] from List.drop_of_length_le (by rw [HN.out]; omega)]; rfl)
      go_wp2_with fail
      go_ret
      exact ⟨by rw [HF.out] <;> rfl, drew_below8 _ _⟩
set_option maxRecDepth 100000 in
set_option maxHeartbeats 1600000 in
theorem maxL_any (w : World) (B : Nat) (v : Value) (x : Int) (l : List Int) (h : SG (Value.int .i64) w B v (x :: l)) (hz : (x :: l).length ≤ 1000000) : Calls Tryz.prog 38 #[v] w fun e w' => e = .returned (.int .i64 (l.foldl max x)) ∧ Aft w w' := by
  obtain ⟨A, cap, rfl, hat⟩ := h
  obtain ⟨n, hn⟩ : ∃ n, (x :: l).length = n := ⟨_, rfl⟩
  rw [hn] at hz ⊢
  have hn1 : 1 ≤ n := by rw [← hn]; simp
  obtain ⟨pb, po, rfl, hpb, hc⟩ := hat.resolve_left (by simp)
  have hc0 := hc 0 x rfl
  simp only [Nat.add_zero] at hc0
  have h1 : ¬ (n : Int) < 1 := by omega
  have h0 : (0 : Int) < (n : Int) := by omega
  obtain ⟨rv, hrv⟩ : ∃ rv, l.foldl max x = rv := ⟨_, rfl⟩
  rw [hrv]
  have HC := Lib.hid hc; have HN := Lib.hid hn; have HRV := Lib.hid hrv
  clear hc hn hat hrv
  go_enter Tryz.func38, Tryz.ntmps38
  go_upto_region 5 with (fail)
  go_loopw [3, 4] (fun av iv wr => ∃ (i : Nat) (a : Int) (k : Nat), 1 ≤ i ∧ i ≤ n ∧ av = .int .i64 a ∧ iv = .int .i64 (i : Int) ∧ Hid (rv = ((x :: l).drop i).foldl max a) ∧ w.drewN k = wr)
    (fun _ iv _ => n - (intOf iv).toNat)
  case atStart => exact ⟨1, x, 0, Nat.le_refl _, hn1, rfl, rfl, Lib.hid HRV.out.symm, rfl⟩
  case round =>
    obtain ⟨i, a, k, hi1, hi, rfl, rfl, HT, rfl⟩ := hrel
    by_cases hlt : i < n
    · have hii : (i : Int) < (n : Int) := by omega
      have hi0 : (0 : Int) ≤ (i : Int) := by omega
      obtain ⟨y, hy⟩ : ∃ y, (x :: l)[i]? = some y := ⟨_, List.getElem?_eq_getElem (by rw [HN.out]; exact hlt)⟩
      have k1 := HC.out i y hy
      have HF := Lib.hid (show rv = ((x :: l).drop (i + 1)).foldl max (max a y) by rw [HT.out, drop_at hy]; rfl)
      clear hy
      go_wp2_with fail
      go_roundw
      case rel => exact ⟨i + 1, _, _, by omega, by omega, rfl, by go_num, HF, by first | rfl | trivial⟩
      case measure => simp [intOf]; omega
    · have hii : ¬ (i : Int) < (n : Int) := by omega
      have HF := Lib.hid (show rv = a by rw [HT.out, show (x :: l).drop i = [] from List.drop_of_length_le (by rw [HN.out]; omega)]; rfl)
      go_wp2_with fail
      go_ret
      exact ⟨by rw [HF.out] <;> rfl, drew_below8 _ _⟩
theorem res_fextreme : Tryz.f36.results = #[.cell 4 28] := by kernel_rfl
theorem res_fleast : Tryz.f15.results = #[.cell 2 28] := by kernel_rfl
set_option maxRecDepth 100000 in
set_option maxHeartbeats 8000000 in
theorem extreme_min (w : World) (v : Value) (ags : List Ag) (h : SA w w.heap.size v ags) (hz : AZ ags) : Calls Tryz.prog 36 #[.agg #[v], .func (.func 37) #[] #[]] w fun e w' => e = .returned (.agg #[.int .i64 (minA ags).k, .int .i64 (minA ags).n, .string (minA ags).s]) ∧ Below w.heap.size w w' := by
  obtain ⟨c0, hzv, hb, hs1⟩ := cz_two w v
  have hpl := pas2_len [1] ags []
  have hp := numbers_any ((w.alloc (.cells #[v] 38)).alloc (.cells #[.int .i64 0, .int .i64 0, .string ⟨#[]⟩] 28)) v ags ((h.below hb (Nat.le_refl _)).mono hb.size) hz
  obtain ⟨o, ho⟩ : ∃ o, pas2 [1] [] ags = o := ⟨_, rfl⟩
  have hol : (o.getD []).length ≤ 1000000 := by
    cases o with
    | none => simp
    | some l => have := hpl l ho; rw [List.length_nil, Nat.zero_add] at this; exact Nat.le_trans this hz.2.1
  have hr : minA ags = match o.map (·.map (·.n)) with | none => .err 1 | some [] => .num 0 | some (n :: l) => .num (l.foldl min n) := by unfold minA numsA; rw [ho]; cases o with | none => rfl | some l => cases l <;> rfl
  rw [ho] at hp
  obtain ⟨rv, hrv⟩ : ∃ rv, minA ags = rv := ⟨_, rfl⟩
  rw [hrv] at hr ⊢
  unfold NumRet at hp
  have HW1 := Lib.hid hb; have HZV := Lib.hid hzv; have HP := Lib.hid hp; have HR := Lib.hid hr; have HOL := Lib.hid hol
  clear hb hzv hpl hp ho hol hr hrv h hz
  cases o with
  | none =>
    have HX := Lib.hid (show rv = Vl.err 1 from HR.out)
    go_enter Tryz.func36, Tryz.ntmps36
    go_upto_region 1 with (fail)
    generalize hq : w.heap.size = q at HW1 hs1 c0 HZV ⊢
    generalize ((w.alloc (.cells #[v] 38)).alloc (.cells #[.int .i64 0, .int .i64 0, .string ⟨#[]⟩] 28)) = w1 at HW1 hs1 c0 HZV HP ⊢
    have HF := Lib.hid (fun (W : World) => ffault_any 1 W)
    go_wp2_with (first
      | (go_at_call 33; ((with_reducible refine HP.out.mono ?_); rintro e w2 ⟨⟨lv, rfl, hp⟩, hb⟩; have HPV := Lib.hid hp; have HB2 := Lib.hid hb; clear hp hb))
      | (go_at_call 11; ((with_reducible refine (HF.out _).mono ?_); rintro e w3 ⟨rfl, hb⟩; have HB3 := Lib.hid (HB2.out.trans (hb.mono HB2.out.size)); have HZ3 := Lib.hid (HZV.out.over HB3.out); obtain ⟨m0, m1, m2⟩ := HZ3.out.melts; obtain ⟨u0, u1, u2⟩ := HZ3.out.cells; clear hb)))
    exact bodyPost_ret (out_vl (HZ3.out.put3 (Vl.err 1)) _ _ 4 res_fextreme rfl) rfl ⟨by rw [HX.out], by first | exact belowV3 (HW1.out.trans (HB3.out.mono (by omega))) (by omega) (Vl.err 1) | (rw [hq]; exact belowV3 (HW1.out.trans (HB3.out.mono (by omega))) (by omega) (Vl.err 1))⟩
  | some l =>
    obtain ⟨xs, hxs⟩ : ∃ xs, (((some l).getD []).map (·.n)) = xs := ⟨_, rfl⟩
    have hxl : xs.length ≤ 1000000 := by rw [← hxs, List.length_map]; exact HOL.out
    rw [hxs] at HP
    have hr2 : rv = match (some xs : Option (List Int)) with | none => .err 1 | some [] => .num 0 | some (n :: l) => .num (l.foldl min n) := by rw [HR.out, ← hxs]; rfl
    clear HR hxs HOL
    cases xs with
    | nil =>
      have HX := Lib.hid (show rv = Vl.num 0 from hr2)
      have HNU := Lib.hid (fun (W : World) => fnumber_any 0 W)
      clear hr2
      go_enter Tryz.func36, Tryz.ntmps36
      go_upto_region 1 with (fail)
      generalize hq : w.heap.size = q at HW1 hs1 c0 HZV ⊢
      generalize ((w.alloc (.cells #[v] 38)).alloc (.cells #[.int .i64 0, .int .i64 0, .string ⟨#[]⟩] 28)) = w1 at HW1 hs1 c0 HZV HP ⊢
      go_wp2_with (first
        | (go_at_call 33; ((with_reducible refine HP.out.mono ?_); rintro e w2 ⟨⟨lv, rfl, hp⟩, hb⟩; obtain ⟨A, cap, rfl, _⟩ := own_sgI hp; simp only [List.length_nil]; have HB2 := Lib.hid hb; clear hp hb))
        | (go_at_call 34; ((with_reducible refine (HNU.out _).mono ?_); rintro e w3 ⟨rfl, hb⟩; have HB3 := Lib.hid (HB2.out.trans (hb.mono HB2.out.size)); have HZ3 := Lib.hid (HZV.out.over HB3.out); obtain ⟨m0, m1, m2⟩ := HZ3.out.melts; obtain ⟨u0, u1, u2⟩ := HZ3.out.cells; clear hb)))
      exact bodyPost_ret (out_vl (HZ3.out.put3 (Vl.num 0)) _ _ 4 res_fextreme rfl) rfl ⟨by rw [HX.out], by first | exact belowV3 (HW1.out.trans (HB3.out.mono (by omega))) (by omega) (Vl.num 0) | (rw [hq]; exact belowV3 (HW1.out.trans (HB3.out.mono (by omega))) (by omega) (Vl.num 0))⟩
    | cons x t =>
      obtain ⟨mn, hmn⟩ : ∃ mn, t.foldl min x = mn := ⟨_, rfl⟩
      have HX := Lib.hid (show rv = Vl.num mn by rw [← hmn]; exact hr2)
      have HNU := Lib.hid (fun (W : World) => fnumber_any mn W)
      have HMI := Lib.hid (fun (W : World) (B : Nat) (lv : Value) (hs : SG (Value.int .i64) W B lv (x :: t)) => hmn ▸ minL_any W B lv x t hs hxl)
      obtain ⟨ln, hln⟩ : ∃ ln, (x :: t).length = ln := ⟨_, rfl⟩
      have hl0 : ¬ (ln : Int) = 0 := by rw [← hln]; simp; omega
      have HLN := Lib.hid hln
      clear hr2 hmn hln
      go_enter Tryz.func36, Tryz.ntmps36
      go_upto_region 1 with (fail)
      generalize hq : w.heap.size = q at HW1 hs1 c0 HZV ⊢
      generalize ((w.alloc (.cells #[v] 38)).alloc (.cells #[.int .i64 0, .int .i64 0, .string ⟨#[]⟩] 28)) = w1 at HW1 hs1 c0 HZV HP ⊢
      go_wp2_with (first
        | (go_at_call 33; ((with_reducible refine HP.out.mono ?_); rintro e w2 ⟨⟨lv, rfl, hp⟩, hb⟩; have HSG := Lib.hid (own_sgI hp); obtain ⟨A, cap, rfl, _⟩ := own_sgI hp; rw [HLN.out] at HSG ⊢; have HB2 := Lib.hid hb; clear hp hb))
        | (go_at_call 37; ((with_reducible refine (HMI.out _ _ _ HSG.out).mono ?_); rintro e w3 ⟨rfl, hb⟩; have HB3 := Lib.hid (HB2.out.trans ((show Below w2.heap.size w2 w3 from hb).mono HB2.out.size)); have HZ3 := Lib.hid (HZV.out.over HB3.out); clear hb))
        | (go_at_call 34; ((with_reducible refine (HNU.out _).mono ?_); rintro e w4 ⟨rfl, hb⟩; have HB4 := Lib.hid (HB3.out.trans (hb.mono HB3.out.size)); have HZ4 := Lib.hid (HZ3.out.over hb); obtain ⟨m0, m1, m2⟩ := HZ4.out.melts; obtain ⟨u0, u1, u2⟩ := HZ4.out.cells; clear hb)))
      exact bodyPost_ret (out_vl (HZ4.out.put3 (Vl.num mn)) _ _ 4 res_fextreme rfl) rfl ⟨by rw [HX.out], by first | exact belowV3 (HW1.out.trans (HB4.out.mono (by omega))) (by omega) (Vl.num mn) | (rw [hq]; exact belowV3 (HW1.out.trans (HB4.out.mono (by omega))) (by omega) (Vl.num mn))⟩
set_option maxRecDepth 100000 in
set_option maxHeartbeats 1600000 in
theorem fleast_any (w : World) (v : Value) (ags : List Ag) (h : SA w w.heap.size v ags) (hz : AZ ags) : Calls Tryz.prog 15 #[.agg #[v]] w fun e w' => e = .returned (.agg #[.int .i64 (minA ags).k, .int .i64 (minA ags).n, .string (minA ags).s]) ∧ Below w.heap.size w w' := by
  obtain ⟨c0, hzv, hb, hs1⟩ := cz_two w v
  have HP := Lib.hid (extreme_min ((w.alloc (.cells #[v] 38)).alloc (.cells #[.int .i64 0, .int .i64 0, .string ⟨#[]⟩] 28)) v ags ((h.below hb (Nat.le_refl _)).mono hb.size) hz)
  have HW1 := Lib.hid hb; have HZV := Lib.hid hzv
  obtain ⟨rv, hrv⟩ : ∃ rv, minA ags = rv := ⟨_, rfl⟩
  rw [hrv] at HP ⊢
  clear hb hzv h hz hrv
  go_enter Tryz.func15, Tryz.ntmps15
  go_upto_region 1 with (fail)
  generalize hq : w.heap.size = q at HW1 hs1 c0 HZV ⊢
  generalize ((w.alloc (.cells #[v] 38)).alloc (.cells #[.int .i64 0, .int .i64 0, .string ⟨#[]⟩] 28)) = w1 at HW1 hs1 c0 HZV HP ⊢
  go_wp2_with (first
    | (go_at_call 36; ((with_reducible refine HP.out.mono ?_); rintro e w3 ⟨rfl, hb⟩; have HB3 := Lib.hid hb; have HZ3 := Lib.hid (HZV.out.over HB3.out); obtain ⟨m0, m1, m2⟩ := HZ3.out.melts; obtain ⟨u0, u1, u2⟩ := HZ3.out.cells; clear hb)))
  exact bodyPost_ret (out_vl (HZ3.out.put3 rv) _ _ 2 res_fleast rfl) rfl ⟨rfl, by first | exact belowV3 (HW1.out.trans (HB3.out.mono (by omega))) (by omega) rv | (rw [hq]; exact belowV3 (HW1.out.trans (HB3.out.mono (by omega))) (by omega) rv)⟩
theorem res_fgreatest : Tryz.f16.results = #[.cell 2 28] := by kernel_rfl
set_option maxRecDepth 100000 in
set_option maxHeartbeats 8000000 in
theorem extreme_max (w : World) (v : Value) (ags : List Ag) (h : SA w w.heap.size v ags) (hz : AZ ags) : Calls Tryz.prog 36 #[.agg #[v], .func (.func 38) #[] #[]] w fun e w' => e = .returned (.agg #[.int .i64 (maxA ags).k, .int .i64 (maxA ags).n, .string (maxA ags).s]) ∧ Below w.heap.size w w' := by
  obtain ⟨c0, hzv, hb, hs1⟩ := cz_two w v
  have hpl := pas2_len [1] ags []
  have hp := numbers_any ((w.alloc (.cells #[v] 38)).alloc (.cells #[.int .i64 0, .int .i64 0, .string ⟨#[]⟩] 28)) v ags ((h.below hb (Nat.le_refl _)).mono hb.size) hz
  obtain ⟨o, ho⟩ : ∃ o, pas2 [1] [] ags = o := ⟨_, rfl⟩
  have hol : (o.getD []).length ≤ 1000000 := by
    cases o with
    | none => simp
    | some l => have := hpl l ho; rw [List.length_nil, Nat.zero_add] at this; exact Nat.le_trans this hz.2.1
  have hr : maxA ags = match o.map (·.map (·.n)) with | none => .err 1 | some [] => .num 0 | some (n :: l) => .num (l.foldl max n) := by unfold maxA numsA; rw [ho]; cases o with | none => rfl | some l => cases l <;> rfl
  rw [ho] at hp
  obtain ⟨rv, hrv⟩ : ∃ rv, maxA ags = rv := ⟨_, rfl⟩
  rw [hrv] at hr ⊢
  unfold NumRet at hp
  have HW1 := Lib.hid hb; have HZV := Lib.hid hzv; have HP := Lib.hid hp; have HR := Lib.hid hr; have HOL := Lib.hid hol
  clear hb hzv hpl hp ho hol hr hrv h hz
  cases o with
  | none =>
    have HX := Lib.hid (show rv = Vl.err 1 from HR.out)
    go_enter Tryz.func36, Tryz.ntmps36
    go_upto_region 1 with (fail)
    generalize hq : w.heap.size = q at HW1 hs1 c0 HZV ⊢
    generalize ((w.alloc (.cells #[v] 38)).alloc (.cells #[.int .i64 0, .int .i64 0, .string ⟨#[]⟩] 28)) = w1 at HW1 hs1 c0 HZV HP ⊢
    have HF := Lib.hid (fun (W : World) => ffault_any 1 W)
    go_wp2_with (first
      | (go_at_call 33; ((with_reducible refine HP.out.mono ?_); rintro e w2 ⟨⟨lv, rfl, hp⟩, hb⟩; have HPV := Lib.hid hp; have HB2 := Lib.hid hb; clear hp hb))
      | (go_at_call 11; ((with_reducible refine (HF.out _).mono ?_); rintro e w3 ⟨rfl, hb⟩; have HB3 := Lib.hid (HB2.out.trans (hb.mono HB2.out.size)); have HZ3 := Lib.hid (HZV.out.over HB3.out); obtain ⟨m0, m1, m2⟩ := HZ3.out.melts; obtain ⟨u0, u1, u2⟩ := HZ3.out.cells; clear hb)))
    exact bodyPost_ret (out_vl (HZ3.out.put3 (Vl.err 1)) _ _ 4 res_fextreme rfl) rfl ⟨by rw [HX.out], by first | exact belowV3 (HW1.out.trans (HB3.out.mono (by omega))) (by omega) (Vl.err 1) | (rw [hq]; exact belowV3 (HW1.out.trans (HB3.out.mono (by omega))) (by omega) (Vl.err 1))⟩
  | some l =>
    obtain ⟨xs, hxs⟩ : ∃ xs, (((some l).getD []).map (·.n)) = xs := ⟨_, rfl⟩
    have hxl : xs.length ≤ 1000000 := by rw [← hxs, List.length_map]; exact HOL.out
    rw [hxs] at HP
    have hr2 : rv = match (some xs : Option (List Int)) with | none => .err 1 | some [] => .num 0 | some (n :: l) => .num (l.foldl max n) := by rw [HR.out, ← hxs]; rfl
    clear HR hxs HOL
    cases xs with
    | nil =>
      have HX := Lib.hid (show rv = Vl.num 0 from hr2)
      have HNU := Lib.hid (fun (W : World) => fnumber_any 0 W)
      clear hr2
      go_enter Tryz.func36, Tryz.ntmps36
      go_upto_region 1 with (fail)
      generalize hq : w.heap.size = q at HW1 hs1 c0 HZV ⊢
      generalize ((w.alloc (.cells #[v] 38)).alloc (.cells #[.int .i64 0, .int .i64 0, .string ⟨#[]⟩] 28)) = w1 at HW1 hs1 c0 HZV HP ⊢
      go_wp2_with (first
        | (go_at_call 33; ((with_reducible refine HP.out.mono ?_); rintro e w2 ⟨⟨lv, rfl, hp⟩, hb⟩; obtain ⟨A, cap, rfl, _⟩ := own_sgI hp; simp only [List.length_nil]; have HB2 := Lib.hid hb; clear hp hb))
        | (go_at_call 34; ((with_reducible refine (HNU.out _).mono ?_); rintro e w3 ⟨rfl, hb⟩; have HB3 := Lib.hid (HB2.out.trans (hb.mono HB2.out.size)); have HZ3 := Lib.hid (HZV.out.over HB3.out); obtain ⟨m0, m1, m2⟩ := HZ3.out.melts; obtain ⟨u0, u1, u2⟩ := HZ3.out.cells; clear hb)))
      exact bodyPost_ret (out_vl (HZ3.out.put3 (Vl.num 0)) _ _ 4 res_fextreme rfl) rfl ⟨by rw [HX.out], by first | exact belowV3 (HW1.out.trans (HB3.out.mono (by omega))) (by omega) (Vl.num 0) | (rw [hq]; exact belowV3 (HW1.out.trans (HB3.out.mono (by omega))) (by omega) (Vl.num 0))⟩
    | cons x t =>
      obtain ⟨mn, hmn⟩ : ∃ mn, t.foldl max x = mn := ⟨_, rfl⟩
      have HX := Lib.hid (show rv = Vl.num mn by rw [← hmn]; exact hr2)
      have HNU := Lib.hid (fun (W : World) => fnumber_any mn W)
      have HMI := Lib.hid (fun (W : World) (B : Nat) (lv : Value) (hs : SG (Value.int .i64) W B lv (x :: t)) => hmn ▸ maxL_any W B lv x t hs hxl)
      obtain ⟨ln, hln⟩ : ∃ ln, (x :: t).length = ln := ⟨_, rfl⟩
      have hl0 : ¬ (ln : Int) = 0 := by rw [← hln]; simp; omega
      have HLN := Lib.hid hln
      clear hr2 hmn hln
      go_enter Tryz.func36, Tryz.ntmps36
      go_upto_region 1 with (fail)
      generalize hq : w.heap.size = q at HW1 hs1 c0 HZV ⊢
      generalize ((w.alloc (.cells #[v] 38)).alloc (.cells #[.int .i64 0, .int .i64 0, .string ⟨#[]⟩] 28)) = w1 at HW1 hs1 c0 HZV HP ⊢
      go_wp2_with (first
        | (go_at_call 33; ((with_reducible refine HP.out.mono ?_); rintro e w2 ⟨⟨lv, rfl, hp⟩, hb⟩; have HSG := Lib.hid (own_sgI hp); obtain ⟨A, cap, rfl, _⟩ := own_sgI hp; rw [HLN.out] at HSG ⊢; have HB2 := Lib.hid hb; clear hp hb))
        | (go_at_call 38; ((with_reducible refine (HMI.out _ _ _ HSG.out).mono ?_); rintro e w3 ⟨rfl, hb⟩; have HB3 := Lib.hid (HB2.out.trans ((show Below w2.heap.size w2 w3 from hb).mono HB2.out.size)); have HZ3 := Lib.hid (HZV.out.over HB3.out); clear hb))
        | (go_at_call 34; ((with_reducible refine (HNU.out _).mono ?_); rintro e w4 ⟨rfl, hb⟩; have HB4 := Lib.hid (HB3.out.trans (hb.mono HB3.out.size)); have HZ4 := Lib.hid (HZ3.out.over hb); obtain ⟨m0, m1, m2⟩ := HZ4.out.melts; obtain ⟨u0, u1, u2⟩ := HZ4.out.cells; clear hb)))
      exact bodyPost_ret (out_vl (HZ4.out.put3 (Vl.num mn)) _ _ 4 res_fextreme rfl) rfl ⟨by rw [HX.out], by first | exact belowV3 (HW1.out.trans (HB4.out.mono (by omega))) (by omega) (Vl.num mn) | (rw [hq]; exact belowV3 (HW1.out.trans (HB4.out.mono (by omega))) (by omega) (Vl.num mn))⟩
set_option maxRecDepth 100000 in
set_option maxHeartbeats 1600000 in
theorem fgreatest_any (w : World) (v : Value) (ags : List Ag) (h : SA w w.heap.size v ags) (hz : AZ ags) : Calls Tryz.prog 16 #[.agg #[v]] w fun e w' => e = .returned (.agg #[.int .i64 (maxA ags).k, .int .i64 (maxA ags).n, .string (maxA ags).s]) ∧ Below w.heap.size w w' := by
  obtain ⟨c0, hzv, hb, hs1⟩ := cz_two w v
  have HP := Lib.hid (extreme_max ((w.alloc (.cells #[v] 38)).alloc (.cells #[.int .i64 0, .int .i64 0, .string ⟨#[]⟩] 28)) v ags ((h.below hb (Nat.le_refl _)).mono hb.size) hz)
  have HW1 := Lib.hid hb; have HZV := Lib.hid hzv
  obtain ⟨rv, hrv⟩ : ∃ rv, maxA ags = rv := ⟨_, rfl⟩
  rw [hrv] at HP ⊢
  clear hb hzv h hz hrv
  go_enter Tryz.func16, Tryz.ntmps16
  go_upto_region 1 with (fail)
  generalize hq : w.heap.size = q at HW1 hs1 c0 HZV ⊢
  generalize ((w.alloc (.cells #[v] 38)).alloc (.cells #[.int .i64 0, .int .i64 0, .string ⟨#[]⟩] 28)) = w1 at HW1 hs1 c0 HZV HP ⊢
  go_wp2_with (first
    | (go_at_call 36; ((with_reducible refine HP.out.mono ?_); rintro e w3 ⟨rfl, hb⟩; have HB3 := Lib.hid hb; have HZ3 := Lib.hid (HZV.out.over HB3.out); obtain ⟨m0, m1, m2⟩ := HZ3.out.melts; obtain ⟨u0, u1, u2⟩ := HZ3.out.cells; clear hb)))
  exact bodyPost_ret (out_vl (HZ3.out.put3 rv) _ _ 2 res_fgreatest rfl) rfl ⟨rfl, by first | exact belowV3 (HW1.out.trans (HB3.out.mono (by omega))) (by omega) rv | (rw [hq]; exact belowV3 (HW1.out.trans (HB3.out.mono (by omega))) (by omega) rv)⟩
end Go.Proofs.YtolhmemiknpeaaaGreatDoor
