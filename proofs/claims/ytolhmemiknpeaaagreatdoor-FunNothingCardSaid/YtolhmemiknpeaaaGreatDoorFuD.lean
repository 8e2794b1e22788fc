/-
  Layer 8, the program: the first error; single ones.
-/
import Derived.Test.YtolhmemiknpeaaaGreatDoorFuC
import Derived.Deep.DeepCutAuto
namespace Go.Proofs.YtolhmemiknpeaaaGreatDoor
open Go.RowKit

theorem VlAt.load {w : World} {b : Nat} {v : Vl} (h : VlAt w b v) : (loadVar 28 ⟨b, 0, none⟩).run Tryz.prog w = .ok (.agg #[.int .i64 v.k, .int .i64 v.n, .string v.s]) w :=
  run_loadVar_row w b 28 28 _ _ _ h Tryz.underlying28 rfl vl_size
/-- The way out: a value out of its cell, something beside it. -/
theorem out_vlb {w : World} {b : Nat} {v : Vl} (h : VlAt w b v) (fn : Func) (tmps : Array Value) (ok : Value) (p u : Tmp) (hf : fn.results = #[.cell p 28, .tmp u]) (hp : tmps.getD p undef = .pointer (some ⟨b, 0, none⟩)) (hu : tmps.getD u undef = ok) :
    (results fn tmps).run Tryz.prog w = .ok (.tuple #[.agg #[.int .i64 v.k, .int .i64 v.n, .string v.s], ok]) w := by
  rw [results_cell_tmp hf, hp, hu]
  simp [asAddr, h.load, Result.andThen]
/-- A call's block, and a cell for a value behind it. -/
theorem cz_two (w : World) (c : Value) : ((w.alloc (.cells #[c] 38)).alloc (.cells #[.int .i64 0, .int .i64 0, .string ⟨#[]⟩] 28)).cell? ⟨w.heap.size, 0, none⟩ = some c ∧ VlAt ((w.alloc (.cells #[c] 38)).alloc (.cells #[.int .i64 0, .int .i64 0, .string ⟨#[]⟩] 28)) (w.heap.size + 1) Vl.none ∧
    Below w.heap.size w ((w.alloc (.cells #[c] 38)).alloc (.cells #[.int .i64 0, .int .i64 0, .string ⟨#[]⟩] 28)) ∧ ((w.alloc (.cells #[c] 38)).alloc (.cells #[.int .i64 0, .int .i64 0, .string ⟨#[]⟩] 28)).heap.size = w.heap.size + 2 := by
  have h1 := (Go.MapKept.heap_alloc w (.cells #[c] 38)).1
  have h2 := VlAt.zero (w.alloc (.cells #[c] 38))
  rw [World.size_alloc] at h2
  have h3 : ((w.alloc (.cells #[c] 38)).alloc (.cells #[.int .i64 0, .int .i64 0, .string ⟨#[]⟩] 28)).heap[w.heap.size]? = _ := ((Go.MapKept.heap_alloc (w.alloc (.cells #[c] 38)) _).2 _ (by rw [World.size_alloc]; omega)).trans h1
  refine ⟨?_, h2, ((Below.refl w.heap.size w).alloc (Nat.le_refl _) _).alloc (by rw [World.size_alloc]; omega) _, by rw [World.size_alloc, World.size_alloc]⟩
  rw [cell_of_row _ _ 0 _ _ _ h3]; rfl
theorem takeVal {w : World} {B : Nat} {A : Option Addr} {m cap : Nat} {vs : List Vl} {j : Nat} {x : Vl} (h : SV w B (.slice A m cap) vs) (hj : vs[j]? = some x) :
    ∃ pb po, A = some ⟨pb, po, none⟩ ∧ pb < B ∧ w.cell? ⟨pb, po + j * 3, none⟩ = some (.int .i64 x.k) ∧ w.cell? ⟨pb, po + j * 3 + 1, none⟩ = some (.int .i64 x.n) ∧ w.cell? ⟨pb, po + j * 3 + 2, none⟩ = some (.string x.s) := by
  obtain ⟨A', cap', h1, h2⟩ := h
  injection h1 with e1 e2 e3
  subst e1
  rcases h2 with rfl | ⟨pb, po, h1, h2, h3⟩
  · simp at hj
  · exact ⟨pb, po, h1, h2, h3 j x hj⟩
theorem faultL_cons (v : Vl) (t : List Vl) : faultL (v :: t) = if v.k = 4 then some v else faultL t := rfl
theorem res_first : Tryz.f13.results = #[.cell 2 28, .tmp 3] := by kernel_rfl
theorem res_single : Tryz.f42.results = #[.cell 4 28] := by kernel_rfl
def fstV (o : Option Vl) : Vl := o.getD Vl.none
set_option maxRecDepth 100000 in
set_option maxHeartbeats 4000000 in
theorem firstError_any (w : World) (v : Value) (ags : List Ag) (h : SA w w.heap.size v ags) (hz : AZ ags) : Calls Tryz.prog 13 #[.agg #[v]] w fun e w' => e = .returned (.tuple #[.agg #[.int .i64 (fstV (faultA ags)).k, .int .i64 (fstV (faultA ags)).n, .string (fstV (faultA ags)).s], .bool (faultA ags).isSome]) ∧ Below w.heap.size w w' := by
  obtain ⟨⟨A, cap, rfl, hat⟩, hkid⟩ := h
  obtain ⟨hlen, -, hel⟩ := hz
  obtain ⟨n, hn⟩ : ∃ n, ags.length = n := ⟨_, rfl⟩
  rw [hn] at hlen ⊢
  obtain ⟨c0, hzv, hb, hs1⟩ := cz_two w (.slice A n cap)
  have HW1 := Lib.hid hb; have HAT := Lib.hid hat; have HN := Lib.hid hn; have HKID := Lib.hid hkid; have HZ := Lib.hid hel; have HZV := Lib.hid hzv
  obtain ⟨o, ho⟩ : ∃ o, faultA ags = o := ⟨_, rfl⟩
  rw [ho]
  have HO := Lib.hid ho
  clear hb hat hn hkid hel hzv ho
  go_enter Tryz.func13, Tryz.ntmps13
  go_upto_region 1 with (fail)
  generalize hq : w.heap.size = q at HAT HKID HZV c0 hs1 HW1 ⊢
  generalize ((w.alloc (.cells #[.slice A n cap] 38)).alloc (.cells #[.int .i64 0, .int .i64 0, .string ⟨#[]⟩] 28)) = w1 at HW1 HZV hs1 c0 ⊢
  go_upto_region 2 with (fail)
  clear c0
  go_loopw [11] (fun iv wr => ∃ i : Nat, i ≤ n ∧ iv = .int .i64 (i : Int) ∧ Hid (o = faultA (ags.drop i)) ∧ Hid (Below w1.heap.size w1 wr))
    (fun iv _ => n - (intOf iv).toNat)
  case atStart => exact ⟨0, Nat.zero_le _, rfl, Lib.hid HO.out.symm, Lib.hid (Below.refl _ _)⟩
  case round =>
    obtain ⟨i, hi, rfl, HT, HR⟩ := hrel
    by_cases hlt : i < n
    · have hii : (i : Int) < (n : Int) := by omega
      have hi0 : (0 : Int) ≤ (i : Int) := by omega
      obtain ⟨a, ha⟩ : ∃ a, ags[i]? = some a := ⟨_, List.getElem?_eq_getElem (by rw [HN.out]; exact hlt)⟩
      obtain ⟨pb, po, Av, capv, rfl, hpb, e0, e1, e2, hsv⟩ := takeArg HAT.out HKID.out ha
      obtain ⟨m, hm⟩ : ∃ m, a.vs.length = m := ⟨_, rfl⟩
      rw [hm] at e2 hsv
      have hm6 : m ≤ 1000000 := hm ▸ (HZ.out a (List.mem_of_getElem? ha)).1
      have HM := Lib.hid hm; have HSV := Lib.hid hsv; have HIN := Lib.hid (List.mem_of_getElem? ha)
      have hpw1 : pb < w1.heap.size := by omega
      have x0 : wr.cell? ⟨pb, po + i * 3, none⟩ = some (.bool a.r) := (HR.out.cell (p := ⟨pb, po + i * 3, none⟩) hpw1).trans ((HW1.out.cell (p := ⟨pb, po + i * 3, none⟩) hpb).trans e0)
      have x1 : wr.cell? ⟨pb, po + i * 3 + 1, none⟩ = some (.int .i64 a.c) := (HR.out.cell (p := ⟨pb, po + i * 3 + 1, none⟩) hpw1).trans ((HW1.out.cell (p := ⟨pb, po + i * 3 + 1, none⟩) hpb).trans e1)
      have x2 : wr.cell? ⟨pb, po + i * 3 + 2, none⟩ = some (.slice Av m capv) := (HR.out.cell (p := ⟨pb, po + i * 3 + 2, none⟩) hpw1).trans ((HW1.out.cell (p := ⟨pb, po + i * 3 + 2, none⟩) hpb).trans e2)
      have HD := Lib.hid (drop_at ha)
      have HX := Lib.hid (AgAt.new wr a.r a.c (.slice Av m capv))
      have HR2 := Lib.hid (HR.out.alloc HR.out.size (.cells #[.bool a.r, .int .i64 a.c, .slice Av m capv] 32))
      have hz2 : w1.heap.size ≤ wr.heap.size := HR.out.size
      clear e0 e1 e2 ha hm hsv
      go_upto_region 4 with (fail)
      generalize hz2' : wr.heap.size = z2 at HX hz2 ⊢
      generalize wr.alloc (.cells #[.bool a.r, .int .i64 a.c, .slice Av m capv] 32) = w2 at HX HR2 ⊢
      obtain ⟨y0, y1, y2⟩ := HX.out.cells
      clear x0 x1 x2 hz2'
      go_upto_region 5 with (fail)
      clear y0 y1 y2
      go_loopw [18] (fun jv wr => ∃ j : Nat, j ≤ m ∧ jv = .int .i64 (j : Int) ∧ Hid (faultL a.vs = faultL (a.vs.drop j)) ∧ Hid (Below w1.heap.size w1 wr))
        (fun jv _ => m - (intOf jv).toNat)
      case atStart => exact ⟨0, Nat.zero_le _, rfl, Lib.hid rfl, HR2⟩
      case round =>
        obtain ⟨j, hj, rfl, HTJ, HI⟩ := hrel
        by_cases hjt : j < m
        · have hjj : (j : Int) < (m : Int) := by omega
          have hj0 : (0 : Int) ≤ (j : Int) := by omega
          obtain ⟨x, hx⟩ : ∃ x, a.vs[j]? = some x := ⟨_, List.getElem?_eq_getElem (by rw [HM.out]; exact hjt)⟩
          obtain ⟨vb, vo, rfl, hvb, e0, e1, e2⟩ := takeVal HSV.out hx
          have hvw1 : vb < w1.heap.size := by omega
          have v0 : wr.cell? ⟨vb, vo + j * 3, none⟩ = some (.int .i64 x.k) := (HI.out.cell (p := ⟨vb, vo + j * 3, none⟩) hvw1).trans ((HW1.out.cell (p := ⟨vb, vo + j * 3, none⟩) hvb).trans e0)
          have v1 : wr.cell? ⟨vb, vo + j * 3 + 1, none⟩ = some (.int .i64 x.n) := (HI.out.cell (p := ⟨vb, vo + j * 3 + 1, none⟩) hvw1).trans ((HW1.out.cell (p := ⟨vb, vo + j * 3 + 1, none⟩) hvb).trans e1)
          have v2 : wr.cell? ⟨vb, vo + j * 3 + 2, none⟩ = some (.string x.s) := (HI.out.cell (p := ⟨vb, vo + j * 3 + 2, none⟩) hvw1).trans ((HW1.out.cell (p := ⟨vb, vo + j * 3 + 2, none⟩) hvb).trans e2)
          have HDV := Lib.hid (drop_at hx)
          have HV3 := Lib.hid (VlAt.new wr x)
          have HI3 := Lib.hid (HI.out.alloc HI.out.size (.cells #[.int .i64 x.k, .int .i64 x.n, .string x.s] 28))
          have hz3 : w1.heap.size ≤ wr.heap.size := HI.out.size
          clear e0 e1 e2
          clear hx
          go_upto_region 7 with (fail)
          generalize hz3' : wr.heap.size = z3 at HV3 hz3 ⊢
          generalize wr.alloc (.cells #[.int .i64 x.k, .int .i64 x.n, .string x.s] 28) = w3 at HV3 HI3 ⊢
          obtain ⟨u0, u1, u2⟩ := HV3.out.cells
          clear v0 v1 v2 hz3'
          have hie := fisError_any x w3
          by_cases hx4 : x.k = 4
          · rw [decide_eq_true hx4] at hie
            have HIE := Lib.hid hie
            have HF := Lib.hid (show o = some x by rw [HT.out, HD.out]; show (match faultL a.vs with | some v => some v | none => faultA (ags.drop (i + 1))) = _; rw [HTJ.out, HDV.out, faultL_cons, if_pos hx4])
            have HZV3 := Lib.hid (HZV.out.below HI3.out (by omega))
            clear hie hx4
            go_upto_region 8 with (first
              | (go_at_call 32; ((with_reducible refine HIE.out.mono ?_); rintro e w4 ⟨rfl, hb⟩; have HB4 := Lib.hid hb; clear hb)))
            have HV4 := Lib.hid (HV3.out.over HB4.out)
            have HZ4 := Lib.hid (HZV3.out.over HB4.out)
            have HI4 := Lib.hid (HW1.out.trans ((HI3.out.trans (HB4.out.mono HI3.out.size)).mono (by omega)))
            obtain ⟨u0, u1, u2⟩ := HV4.out.cells
            obtain ⟨m0, m1, m2⟩ := HZ4.out.melts
            obtain ⟨k0, k1, k2⟩ := HZ4.out.cells
            go_wp2_with fail
            exact bodyPost_ret (out_vlb (HZ4.out.put3 x) _ _ (.bool true) 2 3 res_first rfl rfl) rfl ⟨by rw [HF.out]; rfl, by first | exact belowV3 HI4.out (by omega) x | (rw [hq]; exact belowV3 HI4.out (by omega) x)⟩
          · rw [decide_eq_false hx4] at hie
            have HIE := Lib.hid hie
            have HF := Lib.hid (show faultL a.vs = faultL (a.vs.drop (j + 1)) by rw [HTJ.out, HDV.out, faultL_cons, if_neg hx4])
            clear hie hx4
            go_wp2_with (first
              | (go_at_call 32; ((with_reducible refine HIE.out.mono ?_); rintro e w4 ⟨rfl, hb⟩; have HB4 := Lib.hid hb; clear hb)))
            go_roundw
            case rel => exact ⟨j + 1, by omega, by go_num, HF, Lib.hid (HI3.out.trans (HB4.out.mono HI3.out.size))⟩
            case measure => simp [intOf]; omega
        · have hjj : ¬ (j : Int) < (m : Int) := by omega
          have HF := Lib.hid (show o = faultA (ags.drop (i + 1)) by
            have h0 : faultL a.vs = none := by rw [HTJ.out, List.drop_of_length_le (by rw [HM.out]; omega)]; rfl
            rw [HT.out, HD.out]; show (match faultL a.vs with | some v => some v | none => faultA (ags.drop (i + 1))) = _; rw [h0])
          go_wp2_with fail
          go_roundw
          case rel => exact ⟨i + 1, by omega, by go_num, HF, HI⟩
          case measure => simp [intOf]; omega
    · have hii : ¬ (i : Int) < (n : Int) := by omega
      have HF := Lib.hid (show o = none by rw [HT.out, List.drop_of_length_le (by rw [HN.out]; omega)]; rfl)
      have HZV2 := Lib.hid (HZV.out.below HR.out (by omega))
      obtain ⟨m0, m1, m2⟩ := HZV2.out.melts
      obtain ⟨u0, u1, u2⟩ := HZV2.out.cells
      go_wp2_with fail
      exact bodyPost_ret (out_vlb (HZV2.out.put3 Vl.none) _ _ (.bool false) 2 3 res_first rfl rfl) rfl ⟨by rw [HF.out]; rfl, by first | exact belowV3 (HW1.out.trans (HR.out.mono (by omega))) (by omega) Vl.none | (rw [hq]; exact belowV3 (HW1.out.trans (HR.out.mono (by omega))) (by omega) Vl.none)⟩
set_option maxRecDepth 100000 in
set_option maxHeartbeats 1600000 in
theorem single_any (w : World) (v : Value) (ags : List Ag) (i : Nat) (h : SA w w.heap.size v ags) (hz : AZ ags) (hlt : i < ags.length) : Calls Tryz.prog 42 #[.agg #[v], .int .i64 (i : Int)] w fun e w' => e = .returned (.agg #[.int .i64 (sglA ags i).k, .int .i64 (sglA ags i).n, .string (sglA ags i).s]) ∧ Below w.heap.size w w' := by
  obtain ⟨⟨A, cap, rfl, hat⟩, hkid⟩ := h
  obtain ⟨hlen, -, hel⟩ := hz
  obtain ⟨a, ha⟩ : ∃ a, ags[i]? = some a := ⟨_, List.getElem?_eq_getElem hlt⟩
  have hsg : sglA ags i = a.vs.headD Vl.none := by unfold sglA; rw [List.getD_eq_getElem?_getD, ha]; rfl
  obtain ⟨n, hn⟩ : ∃ n, ags.length = n := ⟨_, rfl⟩
  rw [hn] at hlen hlt ⊢
  obtain ⟨c0, hzv, hb, hs1⟩ := cz_two w (.slice A n cap)
  obtain ⟨pb, po, Av, capv, rfl, hpb, e0, e1, e2, hsv⟩ := takeArg hat hkid ha
  obtain ⟨m, hm⟩ : ∃ m, a.vs.length = m := ⟨_, rfl⟩
  rw [hm] at e2 hsv
  have hm6 : m ≤ 1000000 := hm ▸ (hel a (List.mem_of_getElem? ha)).1
  have hii : (i : Int) < (n : Int) := by omega
  have hi0 : (0 : Int) ≤ (i : Int) := by omega
  have HW1 := Lib.hid hb; have HZV := Lib.hid hzv; have HSG := Lib.hid hsg; have HM := Lib.hid hm; have HSV := Lib.hid hsv
  clear hb hzv hsg hm hsv hat hkid hel ha hn
  by_cases hm0 : m = 0
  · have hz0 : ((m : Int) == 0) = true := by rw [hm0]; rfl
    have HV := Lib.hid (show sglA ags i = Vl.none by
      have h0 : a.vs = [] := List.eq_nil_of_length_eq_zero (by rw [HM.out]; exact hm0)
      rw [HSG.out, h0]; rfl)
    go_enter Tryz.func42, Tryz.ntmps42
    go_upto_region 1 with (fail)
    have x2 : ((w.alloc (.cells #[.slice (some ⟨pb, po, none⟩) n cap] 38)).alloc (.cells #[.int .i64 0, .int .i64 0, .string ⟨#[]⟩] 28)).cell? ⟨pb, po + i * 3 + 2, none⟩ = some (.slice Av m capv) := (HW1.out.cell (p := ⟨pb, po + i * 3 + 2, none⟩) hpb).trans e2
    generalize hq : w.heap.size = q at HZV c0 hs1 HW1 HSV ⊢
    generalize ((w.alloc (.cells #[.slice (some ⟨pb, po, none⟩) n cap] 38)).alloc (.cells #[.int .i64 0, .int .i64 0, .string ⟨#[]⟩] 28)) = w1 at HW1 HZV hs1 c0 x2 ⊢
    obtain ⟨m0, m1, m2⟩ := HZV.out.melts
    obtain ⟨u0, u1, u2⟩ := HZV.out.cells
    go_wp2_with fail
    exact bodyPost_ret (out_vl (HZV.out.put3 Vl.none) _ _ 4 res_single rfl) rfl ⟨by rw [HV.out], by first | exact belowV3 HW1.out (by omega) Vl.none | (rw [hq]; exact belowV3 HW1.out (by omega) Vl.none)⟩
  · have hz0 : ((m : Int) == 0) = false := by rw [beq_eq_false_iff_ne]; omega
    have hm1 : (0 : Int) < (m : Int) := by omega
    obtain ⟨x, hx⟩ : ∃ x, a.vs[0]? = some x := ⟨_, List.getElem?_eq_getElem (by rw [HM.out]; omega)⟩
    obtain ⟨vb, vo, rfl, hvb, f0, f1, f2⟩ := takeVal HSV.out hx
    have HV := Lib.hid (show sglA ags i = x by
      rw [HSG.out, List.headD_eq_head?_getD, List.head?_eq_getElem?, hx]; rfl)
    simp only [Nat.zero_mul, Nat.add_zero] at f0 f1 f2
    clear hx
    go_enter Tryz.func42, Tryz.ntmps42
    go_upto_region 1 with (fail)
    have x2 : ((w.alloc (.cells #[.slice (some ⟨pb, po, none⟩) n cap] 38)).alloc (.cells #[.int .i64 0, .int .i64 0, .string ⟨#[]⟩] 28)).cell? ⟨pb, po + i * 3 + 2, none⟩ = some (.slice (some ⟨vb, vo, none⟩) m capv) := (HW1.out.cell (p := ⟨pb, po + i * 3 + 2, none⟩) hpb).trans e2
    have v0 : ((w.alloc (.cells #[.slice (some ⟨pb, po, none⟩) n cap] 38)).alloc (.cells #[.int .i64 0, .int .i64 0, .string ⟨#[]⟩] 28)).cell? ⟨vb, vo, none⟩ = some (.int .i64 x.k) := (HW1.out.cell (p := ⟨vb, vo, none⟩) hvb).trans f0
    have v1 : ((w.alloc (.cells #[.slice (some ⟨pb, po, none⟩) n cap] 38)).alloc (.cells #[.int .i64 0, .int .i64 0, .string ⟨#[]⟩] 28)).cell? ⟨vb, vo + 1, none⟩ = some (.int .i64 x.n) := (HW1.out.cell (p := ⟨vb, vo + 1, none⟩) hvb).trans f1
    have v2 : ((w.alloc (.cells #[.slice (some ⟨pb, po, none⟩) n cap] 38)).alloc (.cells #[.int .i64 0, .int .i64 0, .string ⟨#[]⟩] 28)).cell? ⟨vb, vo + 2, none⟩ = some (.string x.s) := (HW1.out.cell (p := ⟨vb, vo + 2, none⟩) hvb).trans f2
    generalize hq : w.heap.size = q at HZV c0 hs1 HW1 HSV ⊢
    generalize ((w.alloc (.cells #[.slice (some ⟨pb, po, none⟩) n cap] 38)).alloc (.cells #[.int .i64 0, .int .i64 0, .string ⟨#[]⟩] 28)) = w1 at HW1 HZV hs1 c0 x2 v0 v1 v2 ⊢
    obtain ⟨m0, m1, m2⟩ := HZV.out.melts
    obtain ⟨u0, u1, u2⟩ := HZV.out.cells
    go_wp2_with fail
    exact bodyPost_ret (out_vl (HZV.out.put3 x) _ _ 4 res_single rfl) rfl ⟨by rw [HV.out], by first | exact belowV3 HW1.out (by omega) x | (rw [hq]; exact belowV3 HW1.out (by omega) x)⟩
end Go.Proofs.YtolhmemiknpeaaaGreatDoor
