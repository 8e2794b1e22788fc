/-
  Layer 8, the program: texts side by side.
-/
import Derived.Test.YtolhmemiknpeaaaGreatDoorFuX
import Derived.Test.YtolhmemiknpeaaaGreatDoorFuZ
import Derived.Test.YtolhmemiknpeaaaGreatDoorBdr
namespace Go.Proofs.YtolhmemiknpeaaaGreatDoor
open Go.RowKit

theorem res_fjoin : Tryz.f28.results = #[.cell 2 28] := by kernel_rfl
theorem joinF_cons (s : ByteArray) (x : Vl) (t : List Vl) : joinF s (x :: t) = if 200 < s.size + (textV x).size then none else joinF (s ++ textV x) t := rfl
theorem wr_join (a b : Nat) (h : a ≤ 200) (g : b ≤ 4000000000000000000) : wrap64 ((a : Int) + (b : Int)) = (a : Int) + (b : Int) := by unfold wrap64; omega
theorem big_i (a b : Nat) (h : 200 < a + b) : (200 : Int) < (a : Int) + (b : Int) := by omega
theorem small_i (a b : Nat) (h : ¬ 200 < a + b) : ¬ (200 : Int) < (a : Int) + (b : Int) := by omega
theorem str_more (txt : List Int) (t : ByteArray) : strOfNums txt ++ t = strOfNums (txt ++ sb t) := by conv => lhs; rw [← str_sb t, str_append]
set_option maxRecDepth 100000 in
set_option maxHeartbeats 4000000 in
theorem fjoin_any (w : World) (v : Value) (ags : List Ag) (h : SA w w.heap.size v ags) (hz : AZ ags) (ht : Tab w) (he : EtV w) : Calls Tryz.prog 28 #[.agg #[v]] w fun e w' => e = .returned (.agg #[.int .i64 (joinA ags).k, .int .i64 (joinA ags).n, .string (joinA ags).s]) ∧ Below w.heap.size w w' := by
  obtain ⟨⟨A, cap, rfl, hat⟩, hkid⟩ := h
  obtain ⟨hlen, hcnt, hel⟩ := hz
  obtain ⟨n, hn⟩ : ∃ n, ags.length = n := ⟨_, rfl⟩
  rw [hn] at hlen ⊢
  obtain ⟨c0, hzv, hb, hs1⟩ := cz_two w (.slice A n cap)
  have HW1 := Lib.hid hb; have HAT := Lib.hid hat; have HN := Lib.hid hn; have HKID := Lib.hid hkid; have HZ := Lib.hid hel; have HZV := Lib.hid hzv
  obtain ⟨o, ho⟩ : ∃ o, joinA ags = o := ⟨_, rfl⟩
  rw [ho]
  have HO := Lib.hid (show (match joinF ⟨#[]⟩ (valsA ags) with | none => Vl.err 1 | some s => Vl.text s) = o from ho)
  have HT0 := Lib.hid (ht.below hb); have HE0 := Lib.hid (he.below hb)
  clear hb hat hn hkid hel hzv ho hcnt ht he
  go_enter Tryz.func28, Tryz.ntmps28
  go_upto_region 1 with (fail)
  generalize hq : w.heap.size = q at HAT HKID HZV c0 hs1 HW1 ⊢
  generalize ((w.alloc (.cells #[.slice A n cap] 38)).alloc (.cells #[.int .i64 0, .int .i64 0, .string ⟨#[]⟩] 28)) = w1 at HW1 HZV hs1 c0 HT0 HE0 ⊢
  have hqb : w1.heap.size = q + 2 := hs1
  have HBS := Lib.hid (show BS (w1.alloc (.cells #[.pointer none, .slice none 0 0] 74)) (q + 2) [] from hqb ▸ BS.new w1)
  have HB1 := Lib.hid (show Below w1.heap.size w1 (w1.alloc (.cells #[.pointer none, .slice none 0 0] 74)) from (Below.refl _ _).alloc (Nat.le_refl _) _)
  have hqlt : q < w1.heap.size := by omega
  have hqle : q ≤ w1.heap.size := by omega
  have hq1 : q + 1 < w1.heap.size := by omega
  have c0' : (w1.alloc (.cells #[.pointer none, .slice none 0 0] 74)).cell? ⟨q, 0, none⟩ = some (.slice A n cap) := (HB1.out.cell (p := ⟨q, 0, none⟩) hqlt).trans c0
  go_upto_region 2 with (fail)
  generalize w1.alloc (.cells #[.pointer none, .slice none 0 0] 74) = w2 at HBS HB1 c0' ⊢
  clear c0
  go_upto_region 3 with (fail)
  clear c0'
  go_loopw [12] (fun iv wr => ∃ (i : Nat) (txt : List Int), i ≤ n ∧ iv = .int .i64 (i : Int) ∧ txt.length ≤ 200 ∧ Hid (joinF ⟨#[]⟩ (valsA ags) = joinF (strOfNums txt) (valsA (ags.drop i))) ∧ Hid (BS wr (q + 2) txt) ∧ Hid (Below w1.heap.size w1 wr))
    (fun iv _ => n - (intOf iv).toNat)
  case atStart => exact ⟨0, [], Nat.zero_le _, rfl, by simp, Lib.hid rfl, HBS, HB1⟩
  case round =>
    obtain ⟨i, txt, hi, rfl, htl, HT, HS, HR⟩ := hrel
    by_cases hlt : i < n
    · have hii : (i : Int) < (n : Int) := by omega
      have hi0 : (0 : Int) ≤ (i : Int) := by omega
      obtain ⟨a, ha⟩ : ∃ a, ags[i]? = some a := ⟨_, List.getElem?_eq_getElem (by rw [HN.out]; exact hlt)⟩
      obtain ⟨pb, po, Av, capv, rfl, hpb, e0, e1, e2, hsv⟩ := takeArg HAT.out HKID.out ha
      obtain ⟨m, hm⟩ : ∃ m, a.vs.length = m := ⟨_, rfl⟩
      rw [hm] at e2 hsv
      have hm6 : m ≤ 1000000 := hm ▸ (HZ.out a (List.mem_of_getElem? ha)).1
      have HM := Lib.hid hm; have HSV := Lib.hid hsv; have HIN := Lib.hid (List.mem_of_getElem? ha)
      have hpw1 : pb < w1.heap.size := Nat.lt_of_lt_of_le hpb hqle
      have x0 : wr.cell? ⟨pb, po + i * 3, none⟩ = some (.bool a.r) := (HR.out.cell (p := ⟨pb, po + i * 3, none⟩) hpw1).trans ((HW1.out.cell (p := ⟨pb, po + i * 3, none⟩) hpb).trans e0)
      have x1 : wr.cell? ⟨pb, po + i * 3 + 1, none⟩ = some (.int .i64 a.c) := (HR.out.cell (p := ⟨pb, po + i * 3 + 1, none⟩) hpw1).trans ((HW1.out.cell (p := ⟨pb, po + i * 3 + 1, none⟩) hpb).trans e1)
      have x2 : wr.cell? ⟨pb, po + i * 3 + 2, none⟩ = some (.slice Av m capv) := (HR.out.cell (p := ⟨pb, po + i * 3 + 2, none⟩) hpw1).trans ((HW1.out.cell (p := ⟨pb, po + i * 3 + 2, none⟩) hpb).trans e2)
      have HD := Lib.hid (drop_at ha)
      have HX := Lib.hid (AgAt.new wr a.r a.c (.slice Av m capv))
      have HR2 := Lib.hid (HR.out.alloc HR.out.size (.cells #[.bool a.r, .int .i64 a.c, .slice Av m capv] 32))
      have HS2 := Lib.hid (HS.out.below (Below.alloc (Below.refl _ _) (Nat.le_refl _) (.cells #[.bool a.r, .int .i64 a.c, .slice Av m capv] 32)))
      have hz2 : w1.heap.size ≤ wr.heap.size := HR.out.size
      clear e0 e1 e2 ha hm hsv
      have HT2 := Lib.hid (show joinF ⟨#[]⟩ (valsA ags) = joinF (strOfNums txt) (a.vs ++ valsA (ags.drop (i + 1))) by rw [HT.out, HD.out, valsA_cons])
      go_upto_region 5 with (fail)
      generalize hz2' : wr.heap.size = z2 at HX hz2 ⊢
      generalize wr.alloc (.cells #[.bool a.r, .int .i64 a.c, .slice Av m capv] 32) = w3 at HX HR2 HS2 ⊢
      obtain ⟨y0, y1, y2⟩ := HX.out.cells
      clear x0 x1 x2 hz2'
      go_upto_region 6 with (fail)
      clear y0 y1 y2
      go_loopw [19] (fun jv wr => ∃ (j : Nat) (tx : List Int), j ≤ m ∧ jv = .int .i64 (j : Int) ∧ tx.length ≤ 200 ∧ Hid (joinF ⟨#[]⟩ (valsA ags) = joinF (strOfNums tx) (a.vs.drop j ++ valsA (ags.drop (i + 1)))) ∧ Hid (BS wr (q + 2) tx) ∧ Hid (Below w1.heap.size w1 wr))
        (fun jv _ => m - (intOf jv).toNat)
      case atStart => exact ⟨0, txt, Nat.zero_le _, rfl, htl, HT2, HS2, HR2⟩
      case round =>
        obtain ⟨j, tx, hj, rfl, htx, HTJ, HSJ, HI⟩ := hrel
        by_cases hjt : j < m
        · have hjj : (j : Int) < (m : Int) := by omega
          have hj0 : (0 : Int) ≤ (j : Int) := by omega
          obtain ⟨x, hx⟩ : ∃ x, a.vs[j]? = some x := ⟨_, List.getElem?_eq_getElem (by rw [HM.out]; exact hjt)⟩
          obtain ⟨vb, vo, rfl, hvb, e0, e1, e2⟩ := takeVal HSV.out hx
          have hvw1 : vb < w1.heap.size := Nat.lt_of_lt_of_le hvb hqle
          have v0 : wr.cell? ⟨vb, vo + j * 3, none⟩ = some (.int .i64 x.k) := (HI.out.cell (p := ⟨vb, vo + j * 3, none⟩) hvw1).trans ((HW1.out.cell (p := ⟨vb, vo + j * 3, none⟩) hvb).trans e0)
          have v1 : wr.cell? ⟨vb, vo + j * 3 + 1, none⟩ = some (.int .i64 x.n) := (HI.out.cell (p := ⟨vb, vo + j * 3 + 1, none⟩) hvw1).trans ((HW1.out.cell (p := ⟨vb, vo + j * 3 + 1, none⟩) hvb).trans e1)
          have v2 : wr.cell? ⟨vb, vo + j * 3 + 2, none⟩ = some (.string x.s) := (HI.out.cell (p := ⟨vb, vo + j * 3 + 2, none⟩) hvw1).trans ((HW1.out.cell (p := ⟨vb, vo + j * 3 + 2, none⟩) hvb).trans e2)
          have HDV := Lib.hid (drop_at hx)
          have hok : VOk x := (HZ.out a HIN.out).2 x (List.mem_of_getElem? hx)
          have hsz := textV_size _ hok
          have HV3 := Lib.hid (VlAt.new wr x)
          have HI3 := Lib.hid (HI.out.alloc HI.out.size (.cells #[.int .i64 x.k, .int .i64 x.n, .string x.s] 28))
          have HS3 := Lib.hid (HSJ.out.below (Below.alloc (Below.refl _ _) (Nat.le_refl _) (.cells #[.int .i64 x.k, .int .i64 x.n, .string x.s] 28)))
          have hz3 : w1.heap.size ≤ wr.heap.size := HI.out.size
          obtain ⟨t, htt⟩ : ∃ t, textV x = t := ⟨_, rfl⟩
          rw [htt] at hsz
          have HTX := Lib.hid (fun (W : World) (hW : Below w1.heap.size w1 W) => htt ▸ textV_any x hok W (HT0.out.below hW) (HE0.out.below hW))
          have HTJ2 := Lib.hid (show joinF ⟨#[]⟩ (valsA ags) = if 200 < (strOfNums tx).size + t.size then none else joinF (strOfNums tx ++ t) (a.vs.drop (j + 1) ++ valsA (ags.drop (i + 1))) by rw [HTJ.out, HDV.out, List.cons_append, joinF_cons, htt])
          clear e0 e1 e2 hok htt
          clear hx
          go_upto_region 8 with (fail)
          generalize hz3' : wr.heap.size = z3 at HV3 hz3 ⊢
          generalize wr.alloc (.cells #[.int .i64 x.k, .int .i64 x.n, .string x.s] 28) = w4 at HV3 HI3 HS3 ⊢
          obtain ⟨u0, u1, u2⟩ := HV3.out.cells
          clear v0 v1 v2 hz3'
          have hst : (strOfNums tx).size = tx.length := strOfNums_size tx
          have ew := wr_join tx.length t.size htx hsz
          by_cases hbig : 200 < tx.length + t.size
          · have hbi := big_i _ _ hbig
            have HF := Lib.hid (show o = Vl.err 1 by rw [← HO.out, HTJ2.out, if_pos (by rw [hst]; exact hbig)])
            have hoo := HF.out
            subst hoo
            clear hst hsz hbig
            have HZ3 := Lib.hid (HZV.out.below HI3.out hq1)
            go_wp2_with (first
              | (go_at_call 46; ((with_reducible refine (HTX.out _ HI3.out).mono ?_); rintro e w5 ⟨rfl, hb⟩; have HI5 := Lib.hid (HI3.out.trans (hb.mono HI3.out.size)); have HS5 := Lib.hid (HS3.out.below hb); have HZ5 := Lib.hid (HZ3.out.over hb); clear hb))
              | (go_at_call 49; ((with_reducible refine (lenb_any _ (q + 2) tx HS5.out).mono ?_); rintro e w6 ⟨rfl, rfl⟩))
              | (go_at_call 11; ((with_reducible refine (ffault_any 1 _).mono ?_); rintro e w7 ⟨rfl, hb⟩; have HI7 := Lib.hid (HI5.out.trans (hb.mono HI5.out.size)); have HZ7 := Lib.hid (HZ5.out.over hb); obtain ⟨m0, m1, m2⟩ := HZ7.out.melts; obtain ⟨u0, u1, u2⟩ := HZ7.out.cells; clear hb)))
            exact bodyPost_ret (out_vl (HZ7.out.put3 (Vl.err 1)) _ _ 2 res_fjoin rfl) rfl ⟨rfl, by first | exact belowV3 (HW1.out.trans (HI7.out.mono hqle)) (Nat.le_succ q) (Vl.err 1) | (rw [hq]; exact belowV3 (HW1.out.trans (HI7.out.mono hqle)) (Nat.le_succ q) (Vl.err 1))⟩
          · have hbi := small_i _ _ hbig
            have HF := Lib.hid (show joinF ⟨#[]⟩ (valsA ags) = joinF (strOfNums (tx ++ sb t)) (a.vs.drop (j + 1) ++ valsA (ags.drop (i + 1))) by rw [HTJ2.out, if_neg (by rw [hst]; exact hbig), str_more])
            have HLE := Lib.hid (show (tx ++ sb t).length ≤ 200 by rw [List.length_append, length_sb]; exact Nat.le_of_not_lt hbig)
            have HBZ := Lib.hid (show tx.length + t.size ≤ 10000000000 from Nat.le_trans (Nat.le_of_not_lt hbig) (by decide))
            clear hst hsz hbig
            obtain ⟨S, hS⟩ : ∃ S : Int, (tx.length : Int) + (t.size : Int) = S := ⟨_, rfl⟩
            rw [hS] at hbi
            have ew2 : wrap64 ((tx.length : Int) + (t.size : Int)) = S := ew.trans hS
            clear hS ew
            go_wp2_with (first
              | (go_at_call 46; ((with_reducible refine (HTX.out _ HI3.out).mono ?_); rintro e w5 ⟨rfl, hb⟩; have HI5 := Lib.hid (HI3.out.trans (hb.mono HI3.out.size)); have HS5 := Lib.hid (HS3.out.below hb); clear hb))
              | (go_at_call 49; ((with_reducible refine (lenb_any _ (q + 2) tx HS5.out).mono ?_); rintro e w6 ⟨rfl, rfl⟩))
              | (go_at_call 50; ((with_reducible refine (writeb_any _ (q + 2) tx t HS5.out HBZ.out).mono ?_); rintro e w7 ⟨⟨xx, rfl⟩, hbs, hfb⟩; have HS7 := Lib.hid hbs; have HI7 := Lib.hid (HI5.out.trans (hfb.belowB (B := w1.heap.size) (Nat.le_of_eq hqb) HI5.out.size)); clear hbs hfb)))
            go_roundw
            case rel => exact ⟨j + 1, tx ++ sb t, hjt, by go_num, HLE.out, HF, HS7, HI7⟩
            case measure =>
              clear ew2 hbi htx
              simp [intOf]; omega
        · have hjj : ¬ (j : Int) < (m : Int) := by omega
          have HF := Lib.hid (show joinF ⟨#[]⟩ (valsA ags) = joinF (strOfNums tx) (valsA (ags.drop (i + 1))) by rw [HTJ.out, show a.vs.drop j = [] from List.drop_of_length_le (by rw [HM.out]; omega)]; rfl)
          go_wp2_with fail
          go_roundw
          case rel => exact ⟨i + 1, tx, hlt, by go_num, htx, HF, HSJ, HI⟩
          case measure => simp [intOf]; omega
    · have hii : ¬ (i : Int) < (n : Int) := by omega
      have HF := Lib.hid (show o = Vl.text (strOfNums txt) by rw [← HO.out, HT.out, show ags.drop i = [] from List.drop_of_length_le (by rw [HN.out]; omega)]; rfl)
      have hoo := HF.out
      subst hoo
      have HZ2 := Lib.hid (HZV.out.below HR.out hq1)
      go_wp2_with (first
        | (go_at_call 51; ((with_reducible refine (stringb_all _ (q + 2) txt HS.out).mono ?_); rintro e w4 ⟨rfl, hb⟩; have HB4 := Lib.hid (HR.out.trans (hb.mono (hqb ▸ Nat.le_succ _))); have HZ4 := Lib.hid (HZ2.out.below hb (hqb ▸ Nat.lt_succ_of_lt hq1)); clear hb))
        | (go_at_call 48; ((with_reducible refine (ftext_any (strOfNums txt) _).mono ?_); rintro e w5 ⟨rfl, hb⟩; have HB5 := Lib.hid (HB4.out.trans (hb.mono HB4.out.size)); have HZ5 := Lib.hid (HZ4.out.over hb); obtain ⟨m0, m1, m2⟩ := HZ5.out.melts; obtain ⟨u0, u1, u2⟩ := HZ5.out.cells; clear hb)))
      exact bodyPost_ret (out_vl (HZ5.out.put3 (Vl.text (strOfNums txt))) _ _ 2 res_fjoin rfl) rfl ⟨rfl, by first | exact belowV3 (HW1.out.trans (HB5.out.mono hqle)) (Nat.le_succ q) (Vl.text (strOfNums txt)) | (rw [hq]; exact belowV3 (HW1.out.trans (HB5.out.mono hqle)) (Nat.le_succ q) (Vl.text (strOfNums txt)))⟩
end Go.Proofs.YtolhmemiknpeaaaGreatDoor
