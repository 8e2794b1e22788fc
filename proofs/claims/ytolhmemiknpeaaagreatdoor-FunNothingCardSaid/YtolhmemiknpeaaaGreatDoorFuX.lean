/-
  Layer 8, the program: how many numbers.
-/
import Derived.Test.YtolhmemiknpeaaaGreatDoorFuF
import Derived.Deep.DeepCutAuto
namespace Go.Proofs.YtolhmemiknpeaaaGreatDoor
open Go.RowKit

theorem cntF_app (n : Int) : ∀ (a b : List Vl), cntF n (a ++ b) = cntF (cntF n a) b
  | [], _ => rfl
  | _ :: t, b => cntF_app _ t b
theorem valsA_cons (a : Ag) (t : List Ag) : valsA (a :: t) = a.vs ++ valsA t := by simp [valsA]
theorem res_fcount : Tryz.f17.results = #[.cell 2 28] := by kernel_rfl
set_option maxRecDepth 100000 in
set_option maxHeartbeats 4000000 in
theorem fcount_any (w : World) (v : Value) (ags : List Ag) (h : SA w w.heap.size v ags) (hz : AZ ags) : Calls Tryz.prog 17 #[.agg #[v]] w fun e w' => e = .returned (.agg #[.int .i64 (Vl.num (cntF 0 (valsA ags))).k, .int .i64 (Vl.num (cntF 0 (valsA ags))).n, .string (Vl.num (cntF 0 (valsA ags))).s]) ∧ Below w.heap.size w w' := by
  obtain ⟨⟨A, cap, rfl, hat⟩, hkid⟩ := h
  obtain ⟨hlen, hcnt, hel⟩ := hz
  obtain ⟨n, hn⟩ : ∃ n, ags.length = n := ⟨_, rfl⟩
  rw [hn] at hlen ⊢
  obtain ⟨c0, hzv, hb, hs1⟩ := cz_two w (.slice A n cap)
  have HW1 := Lib.hid hb; have HAT := Lib.hid hat; have HN := Lib.hid hn; have HKID := Lib.hid hkid; have HZ := Lib.hid hel; have HZV := Lib.hid hzv; have HCNT := Lib.hid hcnt
  obtain ⟨o, ho⟩ : ∃ o, cntF 0 (valsA ags) = o := ⟨_, rfl⟩
  rw [ho]
  have HO := Lib.hid ho
  have HNU := Lib.hid (fun (W : World) => fnumber_any o W)
  clear hb hat hn hkid hel hzv ho hcnt
  go_enter Tryz.func17, Tryz.ntmps17
  go_upto_region 1 with (fail)
  generalize hq : w.heap.size = q at HAT HKID HZV c0 hs1 HW1 ⊢
  generalize ((w.alloc (.cells #[.slice A n cap] 38)).alloc (.cells #[.int .i64 0, .int .i64 0, .string ⟨#[]⟩] 28)) = w1 at HW1 HZV hs1 c0 ⊢
  go_upto_region 3 with (fail)
  clear c0
  go_loopw [3, 11] (fun nv iv wr => ∃ (i : Nat) (c : Int), i ≤ n ∧ nv = .int .i64 c ∧ iv = .int .i64 (i : Int) ∧ 0 ≤ c ∧ c + cntA (ags.drop i) ≤ 1000000 ∧ Hid (o = cntF c (valsA (ags.drop i))) ∧ Hid (Below w1.heap.size w1 wr))
    (fun _ iv _ => n - (intOf iv).toNat)
  case atStart => exact ⟨0, 0, Nat.zero_le _, rfl, rfl, by omega, (by have := HCNT.out; rw [List.drop_zero]; omega), Lib.hid HO.out.symm, Lib.hid (Below.refl _ _)⟩
  case round =>
    obtain ⟨i, c, hi, rfl, rfl, hc0, hcb, HT, HR⟩ := hrel
    by_cases hlt : i < n
    · have hii : (i : Int) < (n : Int) := by omega
      have hi0 : (0 : Int) ≤ (i : Int) := by omega
      obtain ⟨a, ha⟩ : ∃ a, ags[i]? = some a := ⟨_, List.getElem?_eq_getElem (by rw [HN.out]; exact hlt)⟩
      obtain ⟨pb, po, Av, capv, rfl, hpb, e0, e1, e2, hsv⟩ := takeArg HAT.out HKID.out ha
      obtain ⟨m, hm⟩ : ∃ m, a.vs.length = m := ⟨_, rfl⟩
      rw [hm] at e2 hsv
      have hm6 : m ≤ 1000000 := hm ▸ (HZ.out a (List.mem_of_getElem? ha)).1
      have HM := Lib.hid hm; have HSV := Lib.hid hsv; have HIN := Lib.hid (List.mem_of_getElem? ha)
      have hpw1 : pb < w1.heap.size := by omega
      have x0 : wr.cell? ⟨pb, po + i * 3, none⟩ = some (.bool a.r) := (HR.out.cell (p := ⟨pb, po + i * 3, none⟩) hpw1).trans ((HW1.out.cell (p := ⟨pb, po + i * 3, none⟩) hpb).trans e0)
      have x1 : wr.cell? ⟨pb, po + i * 3 + 1, none⟩ = some (.int .i64 a.c) := (HR.out.cell (p := ⟨pb, po + i * 3 + 1, none⟩) hpw1).trans ((HW1.out.cell (p := ⟨pb, po + i * 3 + 1, none⟩) hpb).trans e1)
      have x2 : wr.cell? ⟨pb, po + i * 3 + 2, none⟩ = some (.slice Av m capv) := (HR.out.cell (p := ⟨pb, po + i * 3 + 2, none⟩) hpw1).trans ((HW1.out.cell (p := ⟨pb, po + i * 3 + 2, none⟩) hpb).trans e2)
      have HD := Lib.hid (drop_at ha)
      have HX := Lib.hid (AgAt.new wr a.r a.c (.slice Av m capv))
      have HR2 := Lib.hid (HR.out.alloc HR.out.size (.cells #[.bool a.r, .int .i64 a.c, .slice Av m capv] 32))
      have hz2 : w1.heap.size ≤ wr.heap.size := HR.out.size
      clear e0 e1 e2 ha hm hsv
      have HT2 := Lib.hid (show o = cntF (cntF c a.vs) (valsA (ags.drop (i + 1))) by rw [HT.out, HD.out, valsA_cons, cntF_app])
      rw [cnt_drop HD.out, HM.out] at hcb
      obtain ⟨tl, htl⟩ : ∃ tl, cntA (ags.drop (i + 1)) = tl := ⟨_, rfl⟩
      rw [htl] at hcb
      have HTL := Lib.hid htl
      clear htl
      go_upto_region 5 with (fail)
      generalize hz2' : wr.heap.size = z2 at HX hz2 ⊢
      generalize wr.alloc (.cells #[.bool a.r, .int .i64 a.c, .slice Av m capv] 32) = w2 at HX HR2 ⊢
      obtain ⟨y0, y1, y2⟩ := HX.out.cells
      clear x0 x1 x2 hz2'
      go_upto_region 6 with (fail)
      clear y0 y1 y2
      go_loopw [3, 18] (fun nv jv wr => ∃ (j : Nat) (d : Int), j ≤ m ∧ nv = .int .i64 d ∧ jv = .int .i64 (j : Int) ∧ 0 ≤ d ∧ d + ((m - j : Nat) : Int) + tl ≤ 1000000 ∧ Hid (cntF c a.vs = cntF d (a.vs.drop j)) ∧ Hid (Below w1.heap.size w1 wr))
        (fun _ jv _ => m - (intOf jv).toNat)
      case atStart => exact ⟨0, c, Nat.zero_le _, rfl, rfl, hc0, (by rw [Nat.sub_zero]; omega), Lib.hid rfl, HR2⟩
      case round =>
        obtain ⟨j, d, hj, rfl, rfl, hd0, hdb, HTJ, HI⟩ := hrel
        by_cases hjt : j < m
        · have hjj : (j : Int) < (m : Int) := by omega
          have hj0 : (0 : Int) ≤ (j : Int) := by omega
          obtain ⟨x, hx⟩ : ∃ x, a.vs[j]? = some x := ⟨_, List.getElem?_eq_getElem (by rw [HM.out]; exact hjt)⟩
          obtain ⟨vb, vo, rfl, hvb, e0, e1, e2⟩ := takeVal HSV.out hx
          have hvw1 : vb < w1.heap.size := by omega
          have v0 : wr.cell? ⟨vb, vo + j * 3, none⟩ = some (.int .i64 x.k) := (HI.out.cell (p := ⟨vb, vo + j * 3, none⟩) hvw1).trans ((HW1.out.cell (p := ⟨vb, vo + j * 3, none⟩) hvb).trans e0)
          have v1 : wr.cell? ⟨vb, vo + j * 3 + 1, none⟩ = some (.int .i64 x.n) := (HI.out.cell (p := ⟨vb, vo + j * 3 + 1, none⟩) hvw1).trans ((HW1.out.cell (p := ⟨vb, vo + j * 3 + 1, none⟩) hvb).trans e1)
          have v2 : wr.cell? ⟨vb, vo + j * 3 + 2, none⟩ = some (.string x.s) := (HI.out.cell (p := ⟨vb, vo + j * 3 + 2, none⟩) hvw1).trans ((HW1.out.cell (p := ⟨vb, vo + j * 3 + 2, none⟩) hvb).trans e2)
          have HDV := Lib.hid (drop_at hx)
          have HV3 := Lib.hid (VlAt.new wr x)
          have HI3 := Lib.hid (HI.out.alloc HI.out.size (.cells #[.int .i64 x.k, .int .i64 x.n, .string x.s] 28))
          have hz3 : w1.heap.size ≤ wr.heap.size := HI.out.size
          clear e0 e1 e2
          clear hx
          go_upto_region 8 with (fail)
          generalize hz3' : wr.heap.size = z3 at HV3 hz3 ⊢
          generalize wr.alloc (.cells #[.int .i64 x.k, .int .i64 x.n, .string x.s] 28) = w3 at HV3 HI3 ⊢
          obtain ⟨u0, u1, u2⟩ := HV3.out.cells
          clear v0 v1 v2 hz3'
          by_cases hx1 : x.k = 1
          · have e1 : (x.k == 1) = true := beq_iff_eq.2 hx1
            have HF := Lib.hid (show cntF c a.vs = cntF (d + 1) (a.vs.drop (j + 1)) by rw [HTJ.out, HDV.out]; show cntF (if x.k = 1 then d + 1 else d) _ = _; rw [if_pos hx1])
            have ew : wrap64 (d + 1) = d + 1 := by unfold wrap64; omega
            go_wp2_with fail
            go_roundw
            case rel => exact ⟨j + 1, d + 1, by omega, by go_num, by go_num, by omega, by omega, HF, HI3⟩
            case measure => simp [intOf]; omega
          · have e1 : (x.k == 1) = false := beq_eq_false_iff_ne.2 hx1
            have HF := Lib.hid (show cntF c a.vs = cntF d (a.vs.drop (j + 1)) by rw [HTJ.out, HDV.out]; show cntF (if x.k = 1 then d + 1 else d) _ = _; rw [if_neg hx1])
            go_wp2_with fail
            go_roundw
            case rel => exact ⟨j + 1, d, by omega, rfl, by go_num, by omega, by omega, HF, HI3⟩
            case measure => simp [intOf]; omega
        · have hjj : ¬ (j : Int) < (m : Int) := by omega
          have HF := Lib.hid (show o = cntF d (valsA (ags.drop (i + 1))) by rw [HT2.out, HTJ.out, show a.vs.drop j = [] from List.drop_of_length_le (by rw [HM.out]; omega)]; rfl)
          go_wp2_with fail
          go_roundw
          case rel => exact ⟨i + 1, d, by omega, rfl, by go_num, hd0, by rw [HTL.out]; omega, HF, HI⟩
          case measure => simp [intOf]; omega
    · have hii : ¬ (i : Int) < (n : Int) := by omega
      have HF := Lib.hid (show c = o by rw [HT.out, show ags.drop i = [] from List.drop_of_length_le (by rw [HN.out]; omega)]; rfl)
      have hco := HF.out
      subst hco
      have HZV2 := Lib.hid (HZV.out.below HR.out (by omega))
      go_wp2_with (first
        | (go_at_call 34; ((with_reducible refine (HNU.out _).mono ?_); rintro e w4 ⟨rfl, hb⟩; have HB4 := Lib.hid (HR.out.trans (hb.mono HR.out.size)); have HZ4 := Lib.hid (HZV2.out.over hb); obtain ⟨m0, m1, m2⟩ := HZ4.out.melts; obtain ⟨u0, u1, u2⟩ := HZ4.out.cells; clear hb)))
      exact bodyPost_ret (out_vl (HZ4.out.put3 (Vl.num c)) _ _ 2 res_fcount rfl) rfl ⟨rfl, by first | exact belowV3 (HW1.out.trans (HB4.out.mono (by omega))) (by omega) (Vl.num c) | (rw [hq]; exact belowV3 (HW1.out.trans (HB4.out.mono (by omega))) (by omega) (Vl.num c))⟩
end Go.Proofs.YtolhmemiknpeaaaGreatDoor
