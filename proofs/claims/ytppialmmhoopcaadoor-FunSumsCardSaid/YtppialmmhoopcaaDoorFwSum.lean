/-
  Layer 8, the law: sums, least, greatest, counts.
-/
import Derived.Test.YtppialmmhoopcaaDoorFwSumU
import Derived.Deep.DeepCutAuto
namespace Go.Proofs.YtppialmmhoopcaaDoor
open Go.RowKit

set_option maxRecDepth 100000 in
set_option maxHeartbeats 8000000 in
theorem sums_head (w : World) (v : Value) (xs : List Int) (c : Int) (wide : Bool) (c0 : 0 ≤ c) (c1 : c ≤ 255) (h : SG (Value.int .i32) w w.heap.size v xs) (hx : ∀ x ∈ xs, -2147483648 ≤ x ∧ x ≤ 2147483647) (hn : ¬ (30 : Int) < (xs.length : Int)) (ht : Tab w) (he : EtV w) : Calls Tryd.prog 3 #[v, .int .u8 c, .bool wide] w fun e w' => e = .returned (.bool true) ∧ Below w.heap.size w w' := by
  have hin := ints_any w v xs h (by omega) hx
  obtain ⟨A, cap, rfl, hat⟩ := h
  obtain ⟨n, hnn⟩ : ∃ n, xs.length = n := ⟨_, rfl⟩
  rw [hnn] at hn hin ⊢
  have hn30 : n ≤ 30 := by omega
  have hgt : ¬ (n : Int) > 30 := by omega
  have HAT := Lib.hid hat; have HN := Lib.hid hnn; have HT := Lib.hid ht; have HE := Lib.hid he; have HX := Lib.hid hx; have HIN := Lib.hid hin
  obtain ⟨eb, hEB, EL⟩ := Elem.agF
  have HEL := Lib.hid EL
  clear hat hnn ht he EL hn hx hin
  have ew : wrap64 ((n : Int) + 1) = (n : Int) + 1 := by unfold wrap64; omega
  have en : ¬ (n : Int) + 1 = 0 := by omega
  obtain ⟨k, hk⟩ : ∃ k : Nat, c % ((n : Int) + 1) = (k : Int) := ⟨(c % ((n : Int) + 1)).toNat, by have := Int.emod_nonneg c en; omega⟩
  have hkn : k ≤ n := by have := Int.emod_lt_of_pos c (show (0 : Int) < (n : Int) + 1 by omega); omega
  have hkt : c.tmod ((n : Int) + 1) = (k : Int) := by rw [Int.tmod_eq_emod_of_nonneg c0]; exact hk
  go_enter Tryd.func3, Tryd.ntmps3
  go_upto_region 5 with (first
    | (go_at_call 9; ((with_reducible refine HIN.out.mono ?_); rintro e w1 ⟨⟨vv, rfl, ho⟩, hb⟩; have HV := Lib.hid ho; have HB1 := Lib.hid hb; clear ho hb)))
  have HL := Lib.hid (show (xs.map Vl.num).length = n by rw [List.length_map]; exact HN.out)
  rcases HV.out.shape with ⟨rfl, hnil⟩ | ⟨g, cap2, rfl, hg, hgl, hgc, hgm⟩
  · have hn0 : n = 0 := by rw [← HL.out, hnil]; rfl
    have hk0 : k = 0 := by omega
    subst hn0
    subst hk0
    have HS1 := Lib.hid (show SV w1 w1.heap.size (.slice none 0 0) ((xs.take 0).map Vl.num) from ⟨none, 0, rfl, .inl rfl⟩)
    have HS2 := Lib.hid (show SV w1 w1.heap.size (.slice none 0 0) ((xs.drop 0).map Vl.num) from ⟨none, 0, by rw [List.length_map, List.drop_zero, HN.out], .inl (by rw [List.drop_zero]; exact hnil)⟩)
    have HVS := Lib.hid (own_sv HV.out)
    have hkn : 0 ≤ 0 := Nat.le_refl _
    have HOA := Lib.hid (show Own encAg 27 (w1.alloc (.cells #[.bool true, .int .i64 1, .slice none 0 0] 27)) w1.heap.size (.slice (some ⟨w1.heap.size, 0, none⟩) 1 1) [agRange ((xs.take 0).map Vl.num) (.slice none 0 0)] from own_lit _ (Nat.le_refl _) rfl)
    have HA2 := Lib.hid (Aft.alloc w1 (.cells #[.bool true, .int .i64 1, .slice none 0 0] 27))
    go_upto_region 6 with (fail)
    have HS1' := Lib.hid (HS1.out.next HA2.out)
    have HS2' := Lib.hid (HS2.out.next HA2.out)
    have HB2 := Lib.hid ((show Aft w w1 from HB1.out).trans HA2.out)
    have hs12 := HA2.out.size
    generalize hz9 : w1.heap.size = z9 at HOA hs12 ⊢
    have hz9' := hz9
    generalize (w1.alloc (.cells #[.bool true, .int .i64 1, .slice none 0 0] 27)) = w2 at HOA HA2 HS1' HS2' HB2 hs12 ⊢
    generalize hav : (Value.slice (some (⟨z9, 0, none⟩ : Addr)) 1 1) = av at HOA ⊢
    have HDE := Lib.hid (show Deal w2 z9 av [agRange ((xs.take 0).map Vl.num) (.slice none 0 0)] from ⟨HOA.out, fun x hx => by
      simp only [List.mem_singleton] at hx; subst hx; exact ⟨HS1'.out, .inl (by show (xs.take 0).map Vl.num = []; rfl)⟩⟩)
    have HNU1 := Lib.hid (Nums.range (xs.take 0) (.slice none 0 0))
    have hwz : w.heap.size ≤ z9 := by rw [← hz9']; exact HB1.out.size
    have H9 := Lib.hid (show Below z9 w1 w2 by rw [← hz9']; exact HA2.out)
    clear HS1 HS2 HV hav
    go_upto_if 35 with (fail)
    go_cut [9] (fun rv wx => ∃ (lv : Value) (gs : List Ag) (wy : World), lv = rv ∧ wy = wx ∧ Hid (Deal wx z9 lv gs) ∧ Hid (Nums gs xs) ∧ Hid (1 ≤ gs.length ∧ gs.length ≤ 40) ∧ Hid (Aft w wx) ∧ Hid (z9 ≤ wx.heap.size))
    case first =>
      cases wide with
      | true =>
        go_wp2_with (first
          | (at_builtin; refine wpList_app_at HEL.out encAg rfl (.tmp 36) (.tmp 41) rfl z9 _ [agRange ((xs.take 0).map Vl.num) (.slice none 0 0)] rfl (HOA.out.alloc _) ⟨_, 0, none⟩ 1 1 [agRange ((xs.drop 0).map Vl.num) (.slice none 0 0)] rfl rfl ?_ ?_ ?_ ?_ ?_; exact cells_new _ _ _ rfl; (exact Nat.le_trans (Nat.mul_le_mul_left _ hEB) (by show (1 + 1) * 100 ≤ 140737488355328; decide)); (show 1 + 1 ≤ maxLen; unfold maxLen; decide); (rw [World.size_alloc]; omega); intro v5 w5 h1 h2 h3; have HO5 := Lib.hid h1; have HG5 := Lib.hid h2; have HC5 := Lib.hid h3; clear h1 h2 h3))
        go_meet
        case rel =>
          have hsa := HS2'.out.next (Aft.alloc w2 (.cells #[.bool true, .int .i64 1, .slice none 0 0] 27))
          have hd := (HDE.out.aft (Aft.alloc w2 (.cells #[.bool true, .int .i64 1, .slice none 0 0] 27))).app (a := agRange ((xs.drop 0).map Vl.num) (.slice none 0 0)) hsa (.inl (by show (xs.drop _).map Vl.num = []; rw [List.drop_of_length_le (by rw [HN.out]; exact Nat.le_refl _)]; rfl)) HO5.out HG5.out HC5.out
          refine ⟨_, _, _, rfl, rfl, Lib.hid hd, Lib.hid ?_, Lib.hid ⟨by simp, by simp⟩, Lib.hid (Below.trans (show Below w.heap.size w _ from HB2.out.allocR (.cells #[.bool true, .int .i64 1, .slice none 0 0] 27)) (Below.mono (own_grown (HOA.out.alloc _) (by rw [World.size_alloc]; omega) HG5.out) hwz)), Lib.hid ?_⟩
          · have := HNU1.out.app (Nums.range (xs.drop 0) (.slice none 0 0)); rwa [List.take_append_drop] at this
          · have := HG5.out.size; rw [World.size_alloc] at this; omega
      | false =>
        go_wp2_with fail
        go_loopw [9, 10] (fun rv iv wr => ∃ (i : Nat) (lv : Value) (gs : List Ag), 0 ≤ i ∧ i ≤ 0 ∧ lv = rv ∧ iv = .int .i64 (i : Int) ∧ gs.length = 1 + (i - 0) ∧ Hid (Deal wr z9 lv gs) ∧ Hid (Nums gs (xs.take i)) ∧ Hid (Aft w wr) ∧ Hid (Below z9 w1 wr))
          (fun _ iv _ => 0 - (intOf iv).toNat)
        case atStart => exact ⟨0, _, _, Nat.le_refl _, hkn, rfl, rfl, (by simp), HDE, HNU1, HB2, H9⟩
        case round =>
          obtain ⟨i, lv, gs, hki, hin, rfl, rfl, hgl, HD, HNG, HRA, HR9⟩ := hrel
          have hszr : z9 ≤ wr.heap.size := by have := HR9.out.size; omega
          by_cases hlt : i < 0
          · exfalso; omega
          · have hii : ¬ (i : Int) < ((0 : Nat) : Int) := by omega
            have HTK := Lib.hid (show xs.take i = xs from List.take_of_length_le (by rw [HN.out]; omega))
            go_wp2_with fail
            go_meet
            case rel => exact ⟨_, gs, _, rfl, rfl, HD, Lib.hid (by have := HNG.out; rwa [HTK.out] at this), Lib.hid ⟨by omega, by omega⟩, HRA, Lib.hid hszr⟩
    case rest =>
      obtain ⟨lv, gs, wy, rfl, rfl, HD, HNG, HLG, HAW0, HZX⟩ := hcut
      have HSA := Lib.hid (own_sa HD.out.1 (fun a ha => (HD.out.2 a ha).1))
      have HAZ := Lib.hid (show AZ gs from ⟨by have := HLG.out.2; omega, (by
        show (valsA gs).length ≤ _
        rw [HNG.out.2, List.length_map, HN.out]; omega), fun a ha => ⟨by
          have h1 : a.vs.length ≤ (valsA gs).length := sublist_len ha
          rw [HNG.out.2, List.length_map, HN.out] at h1; omega, fun x hx => by
          obtain ⟨y, rfl⟩ := HNG.out.1 a ha x hx
          have hy : Vl.num y ∈ valsA gs := List.mem_flatMap.2 ⟨a, ha, hx⟩
          rw [HNG.out.2] at hy
          obtain ⟨z, hz, hzy⟩ := List.mem_map.1 hy
          injection hzy with _ e _
          subst e
          have := HX.out z hz
          exact ok_num z (by omega) (by omega)⟩⟩)
      have hl40 := HLG.out
      have HSUM := Lib.hid (fun (W : World) (hW : Aft wy W) => (HNG.out.sum hl40.1 (by omega) HX.out (by rw [HN.out]; omega)) ▸ call_SUM W _ gs ((HSA.out.below hW (Nat.le_refl _)).mono hW.size) HAZ.out (HT.out.below (HAW0.out.trans hW)) (HE.out.below (HAW0.out.trans hW)))
      have HCNT := Lib.hid (fun (W : World) (hW : Aft wy W) => (HNG.out.count hl40.1 (by omega)) ▸ call_COUNT W _ gs ((HSA.out.below hW (Nat.le_refl _)).mono hW.size) HAZ.out)
      have HMIN := Lib.hid (fun (W : World) (hW : Aft wy W) => (HNG.out.least hl40.1 (by omega)) ▸ call_MIN W _ gs ((HSA.out.below hW (Nat.le_refl _)).mono hW.size) HAZ.out)
      have HMAX := Lib.hid (fun (W : World) (hW : Aft wy W) => (HNG.out.most hl40.1 (by omega)) ▸ call_MAX W _ gs ((HSA.out.below hW (Nat.le_refl _)).mono hW.size) HAZ.out)
      have HAWK := Lib.hid (fun (W : World) (hW : Aft w W) => awake8_any W (HT.out.below hW) (HE.out.below hW))
      rw [HN.out] at HCNT
      clear HD HLG HSA HAZ HNG hl40
      go_upto_region 14 with (fail)
      go_loopw [11, 12, 13, 14] (fun sv nv mv iv wr => ∃ (i : Nat) (s mn mx : Int), i ≤ 0 ∧ sv = .int .i64 s ∧ nv = .int .i64 mn ∧ mv = .int .i64 mx ∧ iv = .int .i64 (i : Int) ∧ Hid ((xs.take i).foldl (· + ·) 0 = s) ∧ Hid (minO (xs.take i) = mn) ∧ Hid (maxO (xs.take i) = mx) ∧ Hid (Aft wy wr))
        (fun _ _ _ iv _ => 0 - (intOf iv).toNat)
      case atStart => exact ⟨0, 0, 0, 0, Nat.zero_le _, rfl, rfl, rfl, rfl, Lib.hid rfl, Lib.hid rfl, Lib.hid rfl, Lib.hid (Aft.refl _)⟩
      case round =>
        obtain ⟨i, s, mn, mx, hi, rfl, rfl, rfl, rfl, HS, HMN, HMX, HR⟩ := hrel
        by_cases hlt : i < 0
        · exfalso; omega
        · have hii : ¬ (i : Int) < ((0 : Nat) : Int) := by omega
          have HTK := Lib.hid (show xs.take i = xs from List.take_of_length_le (by rw [HN.out]; omega))
          have hs := HS.out; have hmn := HMN.out; have hmx := HMX.out
          rw [HTK.out] at hs hmn hmx
          rw [hs] at HSUM
          rw [hmn] at HMIN
          rw [hmx] at HMAX
          clear HS HMN HMX HTK hs hmn hmx
          have en : ∀ z : Int, (Vl.num z).n = z := fun _ => rfl
          have ek : ((Vl.num s).k == 1) = true := rfl
          have hvn := run_val_nF
          go_wp2_with (first
            | (go_at_call 11; ((with_reducible refine (HSUM.out _ HR.out).mono ?_); rintro e w2 ⟨rfl, hb⟩; have HC2 := Lib.hid (HR.out.trans hb); clear hb))
            | (go_at_call 11; ((with_reducible refine (HCNT.out _ HC2.out).mono ?_); rintro e w3 ⟨rfl, hb⟩; have HC3 := Lib.hid (HC2.out.trans hb); clear hb))
            | (go_at_call 11; ((with_reducible refine (HMIN.out _ ((HC3.out.allocR _).allocR _)).mono ?_); rintro e w4 ⟨rfl, hb⟩; have HC4 := Lib.hid (((HC3.out.allocR _).allocR _).trans hb); clear hb))
            | (go_at_call 11; ((with_reducible refine (HMAX.out _ HC4.out).mono ?_); rintro e w5 ⟨rfl, hb⟩; have HC5 := Lib.hid (HC4.out.trans hb); clear hb))
            | (go_at_call 8; ((with_reducible refine (HAWK.out _ (HAW0.out.trans HC5.out)).mono ?_); rintro e w6 ⟨rfl, hb⟩; have HC6 := Lib.hid ((HAW0.out.trans HC5.out).trans hb); clear hb)))
          go_ret
          exact ⟨by rfl, HC6.out⟩
  · rw [HL.out] at hgc ⊢
    have hki : (k : Int) ≤ (n : Int) := by omega
    have hk0 : (0 : Int) ≤ (k : Int) := by omega
    have hkc : (k : Int) ≤ (cap2 : Int) := by omega
    have HV1 := Lib.hid (show Own encVl 31 w1 w.heap.size (.slice (some ⟨g, 0, none⟩) n cap2) (xs.map Vl.num) by have := HV.out; rwa [HL.out] at this)
    have HVS := Lib.hid (own_sv HV1.out)
    have HS1 := Lib.hid (show SV w1 w1.heap.size (.slice (some ⟨g, 0, none⟩) k cap2) ((xs.take k).map Vl.num) by rw [List.map_take]; exact sv_cut HV1.out k (by rw [HL.out]; exact hkn) hgl)
    by_cases hck : cap2 = k
    · subst hck
      have hnk : n = cap2 := by omega
      subst hnk
      have HS2 := Lib.hid (show SV w1 w1.heap.size (.slice (some ⟨g, 0, none⟩) 0 0) ((xs.drop n).map Vl.num) from ⟨_, 0, by rw [List.length_map, List.length_drop, HN.out, Nat.sub_self], .inl (by rw [List.drop_of_length_le (by rw [HN.out]; exact Nat.le_refl _)]; rfl)⟩)
      have HOA := Lib.hid (show Own encAg 27 (w1.alloc (.cells #[.bool true, .int .i64 1, .slice (some ⟨g, 0, none⟩) n n] 27)) w1.heap.size (.slice (some ⟨w1.heap.size, 0, none⟩) 1 1) [agRange ((xs.take n).map Vl.num) (.slice (some ⟨g, 0, none⟩) n n)] from own_lit _ (Nat.le_refl _) rfl)
      have HA2 := Lib.hid (Aft.alloc w1 (.cells #[.bool true, .int .i64 1, .slice (some ⟨g, 0, none⟩) n n] 27))
      go_upto_region 6 with (fail)
      have HS1' := Lib.hid (HS1.out.next HA2.out)
      have HS2' := Lib.hid (HS2.out.next HA2.out)
      have HB2 := Lib.hid ((show Aft w w1 from HB1.out).trans HA2.out)
      have hs12 := HA2.out.size
      generalize hz9 : w1.heap.size = z9 at HOA hs12 ⊢
      have hz9' := hz9
      generalize (w1.alloc (.cells #[.bool true, .int .i64 1, .slice (some ⟨g, 0, none⟩) n n] 27)) = w2 at HOA HA2 HS1' HS2' HB2 hs12 ⊢
      generalize hav : (Value.slice (some (⟨z9, 0, none⟩ : Addr)) 1 1) = av at HOA ⊢
      have HDE := Lib.hid (show Deal w2 z9 av [agRange ((xs.take n).map Vl.num) (.slice (some ⟨g, 0, none⟩) n n)] from ⟨HOA.out, fun x hx => by
        simp only [List.mem_singleton] at hx; subst hx; exact ⟨HS1'.out, .inr (fun b hb => by simp [Value.ownBlock, agRange] at hb; subst hb; intro e; have := (World.ownsRow.lt HOA.out _ e).1; omega)⟩⟩)
      have HNU1 := Lib.hid (Nums.range (xs.take n) (.slice (some ⟨g, 0, none⟩) n n))
      have hwz : w.heap.size ≤ z9 := by rw [← hz9']; exact HB1.out.size
      have H9 := Lib.hid (show Below z9 w1 w2 by rw [← hz9']; exact HA2.out)
      clear HS1 HS2 HV hav
      go_upto_if 35 with (fail)
      go_cut [9] (fun rv wx => ∃ (lv : Value) (gs : List Ag) (wy : World), lv = rv ∧ wy = wx ∧ Hid (Deal wx z9 lv gs) ∧ Hid (Nums gs xs) ∧ Hid (1 ≤ gs.length ∧ gs.length ≤ 40) ∧ Hid (Aft w wx) ∧ Hid (z9 ≤ wx.heap.size))
      case first =>
        cases wide with
        | true =>
          go_wp2_with (first
            | (at_builtin; refine wpList_app_at HEL.out encAg rfl (.tmp 36) (.tmp 41) rfl z9 _ [agRange ((xs.take n).map Vl.num) (.slice (some ⟨g, 0, none⟩) n n)] rfl (HOA.out.alloc _) ⟨_, 0, none⟩ 1 1 [agRange ((xs.drop n).map Vl.num) (.slice (some ⟨g, 0, none⟩) 0 0)] rfl rfl ?_ ?_ ?_ ?_ ?_; exact cells_new _ _ _ rfl; (exact Nat.le_trans (Nat.mul_le_mul_left _ hEB) (by show (1 + 1) * 100 ≤ 140737488355328; decide)); (show 1 + 1 ≤ maxLen; unfold maxLen; decide); (rw [World.size_alloc]; omega); intro v5 w5 h1 h2 h3; have HO5 := Lib.hid h1; have HG5 := Lib.hid h2; have HC5 := Lib.hid h3; clear h1 h2 h3))
          go_meet
          case rel =>
            have hsa := HS2'.out.next (Aft.alloc w2 (.cells #[.bool true, .int .i64 1, .slice (some ⟨g, 0, none⟩) 0 0] 27))
            have hd := (HDE.out.aft (Aft.alloc w2 (.cells #[.bool true, .int .i64 1, .slice (some ⟨g, 0, none⟩) 0 0] 27))).app (a := agRange ((xs.drop n).map Vl.num) (.slice (some ⟨g, 0, none⟩) 0 0)) hsa (.inl (by show (xs.drop _).map Vl.num = []; rw [List.drop_of_length_le (by rw [HN.out]; exact Nat.le_refl _)]; rfl)) HO5.out HG5.out HC5.out
            refine ⟨_, _, _, rfl, rfl, Lib.hid hd, Lib.hid ?_, Lib.hid ⟨by simp, by simp⟩, Lib.hid (Below.trans (show Below w.heap.size w _ from HB2.out.allocR (.cells #[.bool true, .int .i64 1, .slice (some ⟨g, 0, none⟩) 0 0] 27)) (Below.mono (own_grown (HOA.out.alloc _) (by rw [World.size_alloc]; omega) HG5.out) hwz)), Lib.hid ?_⟩
            · have := HNU1.out.app (Nums.range (xs.drop n) (.slice (some ⟨g, 0, none⟩) 0 0)); rwa [List.take_append_drop] at this
            · have := HG5.out.size; rw [World.size_alloc] at this; omega
        | false =>
          go_wp2_with fail
          go_loopw [9, 10] (fun rv iv wr => ∃ (i : Nat) (lv : Value) (gs : List Ag), n ≤ i ∧ i ≤ n ∧ lv = rv ∧ iv = .int .i64 (i : Int) ∧ gs.length = 1 + (i - n) ∧ Hid (Deal wr z9 lv gs) ∧ Hid (Nums gs (xs.take i)) ∧ Hid (Aft w wr) ∧ Hid (Below z9 w1 wr))
            (fun _ iv _ => n - (intOf iv).toNat)
          case atStart => exact ⟨n, _, _, Nat.le_refl _, hkn, rfl, rfl, (by simp), HDE, HNU1, HB2, H9⟩
          case round =>
            obtain ⟨i, lv, gs, hki, hin, rfl, rfl, hgl, HD, HNG, HRA, HR9⟩ := hrel
            have hszr : z9 ≤ wr.heap.size := by have := HR9.out.size; omega
            by_cases hlt : i < n
            · exfalso; omega
            · have hii : ¬ (i : Int) < ((n : Nat) : Int) := by omega
              have HTK := Lib.hid (show xs.take i = xs from List.take_of_length_le (by rw [HN.out]; omega))
              go_wp2_with fail
              go_meet
              case rel => exact ⟨_, gs, _, rfl, rfl, HD, Lib.hid (by have := HNG.out; rwa [HTK.out] at this), Lib.hid ⟨by omega, by omega⟩, HRA, Lib.hid hszr⟩
      case rest =>
        obtain ⟨lv, gs, wy, rfl, rfl, HD, HNG, HLG, HAW0, HZX⟩ := hcut
        have HSA := Lib.hid (own_sa HD.out.1 (fun a ha => (HD.out.2 a ha).1))
        have HAZ := Lib.hid (show AZ gs from ⟨by have := HLG.out.2; omega, (by
          show (valsA gs).length ≤ _
          rw [HNG.out.2, List.length_map, HN.out]; omega), fun a ha => ⟨by
            have h1 : a.vs.length ≤ (valsA gs).length := sublist_len ha
            rw [HNG.out.2, List.length_map, HN.out] at h1; omega, fun x hx => by
            obtain ⟨y, rfl⟩ := HNG.out.1 a ha x hx
            have hy : Vl.num y ∈ valsA gs := List.mem_flatMap.2 ⟨a, ha, hx⟩
            rw [HNG.out.2] at hy
            obtain ⟨z, hz, hzy⟩ := List.mem_map.1 hy
            injection hzy with _ e _
            subst e
            have := HX.out z hz
            exact ok_num z (by omega) (by omega)⟩⟩)
        have hl40 := HLG.out
        have HSUM := Lib.hid (fun (W : World) (hW : Aft wy W) => (HNG.out.sum hl40.1 (by omega) HX.out (by rw [HN.out]; omega)) ▸ call_SUM W _ gs ((HSA.out.below hW (Nat.le_refl _)).mono hW.size) HAZ.out (HT.out.below (HAW0.out.trans hW)) (HE.out.below (HAW0.out.trans hW)))
        have HCNT := Lib.hid (fun (W : World) (hW : Aft wy W) => (HNG.out.count hl40.1 (by omega)) ▸ call_COUNT W _ gs ((HSA.out.below hW (Nat.le_refl _)).mono hW.size) HAZ.out)
        have HMIN := Lib.hid (fun (W : World) (hW : Aft wy W) => (HNG.out.least hl40.1 (by omega)) ▸ call_MIN W _ gs ((HSA.out.below hW (Nat.le_refl _)).mono hW.size) HAZ.out)
        have HMAX := Lib.hid (fun (W : World) (hW : Aft wy W) => (HNG.out.most hl40.1 (by omega)) ▸ call_MAX W _ gs ((HSA.out.below hW (Nat.le_refl _)).mono hW.size) HAZ.out)
        have HAWK := Lib.hid (fun (W : World) (hW : Aft w W) => awake8_any W (HT.out.below hW) (HE.out.below hW))
        rw [HN.out] at HCNT
        clear HD HLG HSA HAZ HNG hl40
        go_upto_region 14 with (fail)
        go_loopw [11, 12, 13, 14] (fun sv nv mv iv wr => ∃ (i : Nat) (s mn mx : Int), i ≤ n ∧ sv = .int .i64 s ∧ nv = .int .i64 mn ∧ mv = .int .i64 mx ∧ iv = .int .i64 (i : Int) ∧ Hid ((xs.take i).foldl (· + ·) 0 = s) ∧ Hid (minO (xs.take i) = mn) ∧ Hid (maxO (xs.take i) = mx) ∧ Hid (Aft wy wr))
          (fun _ _ _ iv _ => n - (intOf iv).toNat)
        case atStart => exact ⟨0, 0, 0, 0, Nat.zero_le _, rfl, rfl, rfl, rfl, Lib.hid rfl, Lib.hid rfl, Lib.hid rfl, Lib.hid (Aft.refl _)⟩
        case round =>
          obtain ⟨i, s, mn, mx, hi, rfl, rfl, rfl, rfl, HS, HMN, HMX, HR⟩ := hrel
          by_cases hlt : i < n
          · have hii : (i : Int) < ((n : Nat) : Int) := by omega
            have hi0 : (0 : Int) ≤ (i : Int) := by omega
            obtain ⟨x, hx⟩ : ∃ x, xs[i]? = some x := ⟨_, List.getElem?_eq_getElem (by rw [HN.out]; exact hlt)⟩
            rcases HAT.out with e | ⟨pb, po, rfl, hpb, hc⟩
            · exfalso; rw [e] at hx; simp at hx
            have k1 := ((HAW0.out.trans HR.out).cell (p := ⟨pb, po + i, none⟩) hpb).trans (hc i x hx)
            have hxb := HX.out x (List.mem_of_getElem? hx)
            have hsb := sum_bd (xs.take i) 0 (fun y hy => HX.out y (List.mem_of_mem_take hy))
            have hli : (xs.take i).length = i := by rw [List.length_take, HN.out]; omega
            rw [HS.out, hli] at hsb
            have HTK := Lib.hid (take_snoc1 hx)
            have HS2 := Lib.hid (show (xs.take (i + 1)).foldl (· + ·) 0 = s + x by rw [HTK.out, sum_snoc, HS.out])
            have ew : wrap64 (s + x) = s + x := by unfold wrap64; omega
            clear hc hx
            by_cases h0 : i = 0
            · subst h0
              have HM2 := Lib.hid (show minO (xs.take (0 + 1)) = x by rw [HTK.out]; rfl)
              have HX2 := Lib.hid (show maxO (xs.take (0 + 1)) = x by rw [HTK.out]; rfl)
              have e00 : (((0 : Nat) : Int) == 0) = true := rfl
              have k1z : wr.cell? ⟨pb, po, none⟩ = some (.int .i32 x) := k1
              go_wp2_with fail
              go_roundw
              case rel => exact ⟨0 + 1, _, _, _, by omega, rfl, rfl, rfl, by go_num, HS2, HM2, HX2, HR⟩
              case measure => simp [intOf]; omega
            · have hi00 : ¬ (i : Int) = 0 := by omega
              have e00 : ((i : Int) == 0) = false := beq_eq_false_iff_ne.2 hi00
              have hne : ¬ xs.take i = [] := fun e => by have := hli; rw [e] at this; simp at this; omega
              have hm2 := minO_snoc _ x hne
              have hx2 := maxO_snoc _ x hne
              rw [← HTK.out, HMN.out] at hm2
              rw [← HTK.out, HMX.out] at hx2
              have hM2 := Lib.hid hm2; have hX2 := Lib.hid hx2
              clear hm2 hx2
              by_cases hlo : x < mn
              · have HM2 := Lib.hid (show minO (xs.take (i + 1)) = x by rw [hM2.out]; omega)
                by_cases hhi : mx < x
                · have hhi2 : x > mx := hhi
                  have HX2 := Lib.hid (show maxO (xs.take (i + 1)) = x by rw [hX2.out]; omega)
                  go_wp2_with fail
                  go_roundw
                  case rel => exact ⟨i + 1, _, _, _, by omega, rfl, rfl, rfl, by go_num, HS2, HM2, HX2, HR⟩
                  case measure => simp [intOf]; omega
                · have hhi2 : ¬ x > mx := hhi
                  have HX2 := Lib.hid (show maxO (xs.take (i + 1)) = mx by rw [hX2.out]; omega)
                  go_wp2_with fail
                  go_roundw
                  case rel => exact ⟨i + 1, _, _, _, by omega, rfl, rfl, rfl, by go_num, HS2, HM2, HX2, HR⟩
                  case measure => simp [intOf]; omega
              · have HM2 := Lib.hid (show minO (xs.take (i + 1)) = mn by rw [hM2.out]; omega)
                by_cases hhi : mx < x
                · have hhi2 : x > mx := hhi
                  have HX2 := Lib.hid (show maxO (xs.take (i + 1)) = x by rw [hX2.out]; omega)
                  go_wp2_with fail
                  go_roundw
                  case rel => exact ⟨i + 1, _, _, _, by omega, rfl, rfl, rfl, by go_num, HS2, HM2, HX2, HR⟩
                  case measure => simp [intOf]; omega
                · have hhi2 : ¬ x > mx := hhi
                  have HX2 := Lib.hid (show maxO (xs.take (i + 1)) = mx by rw [hX2.out]; omega)
                  go_wp2_with fail
                  go_roundw
                  case rel => exact ⟨i + 1, _, _, _, by omega, rfl, rfl, rfl, by go_num, HS2, HM2, HX2, HR⟩
                  case measure => simp [intOf]; omega
          · have hii : ¬ (i : Int) < ((n : Nat) : Int) := by omega
            have HTK := Lib.hid (show xs.take i = xs from List.take_of_length_le (by rw [HN.out]; omega))
            have hs := HS.out; have hmn := HMN.out; have hmx := HMX.out
            rw [HTK.out] at hs hmn hmx
            rw [hs] at HSUM
            rw [hmn] at HMIN
            rw [hmx] at HMAX
            clear HS HMN HMX HTK hs hmn hmx
            have en : ∀ z : Int, (Vl.num z).n = z := fun _ => rfl
            have ek : ((Vl.num s).k == 1) = true := rfl
            have hvn := run_val_nF
            go_wp2_with (first
              | (go_at_call 11; ((with_reducible refine (HSUM.out _ HR.out).mono ?_); rintro e w2 ⟨rfl, hb⟩; have HC2 := Lib.hid (HR.out.trans hb); clear hb))
              | (go_at_call 11; ((with_reducible refine (HCNT.out _ HC2.out).mono ?_); rintro e w3 ⟨rfl, hb⟩; have HC3 := Lib.hid (HC2.out.trans hb); clear hb))
              | (go_at_call 11; ((with_reducible refine (HMIN.out _ ((HC3.out.allocR _).allocR _)).mono ?_); rintro e w4 ⟨rfl, hb⟩; have HC4 := Lib.hid (((HC3.out.allocR _).allocR _).trans hb); clear hb))
              | (go_at_call 11; ((with_reducible refine (HMAX.out _ HC4.out).mono ?_); rintro e w5 ⟨rfl, hb⟩; have HC5 := Lib.hid (HC4.out.trans hb); clear hb))
              | (go_at_call 8; ((with_reducible refine (HAWK.out _ (HAW0.out.trans HC5.out)).mono ?_); rintro e w6 ⟨rfl, hb⟩; have HC6 := Lib.hid ((HAW0.out.trans HC5.out).trans hb); clear hb)))
            go_ret
            exact ⟨by rfl, HC6.out⟩
    · have hck2 : ¬ (cap2 : Int) = (k : Int) := by omega
      have HS2 := Lib.hid (show SV w1 w1.heap.size (.slice (some ⟨g, k * 3, none⟩) (n - k) (cap2 - k)) ((xs.drop k).map Vl.num) by
        have := sv_tail HV1.out k (by rw [HL.out]; exact hkn) hgl (some ⟨g, k * 3, none⟩) (fun _ => rfl)
        rwa [HL.out, ← List.map_drop] at this)
      have HOA := Lib.hid (show Own encAg 27 (w1.alloc (.cells #[.bool true, .int .i64 1, .slice (some ⟨g, 0, none⟩) k cap2] 27)) w1.heap.size (.slice (some ⟨w1.heap.size, 0, none⟩) 1 1) [agRange ((xs.take k).map Vl.num) (.slice (some ⟨g, 0, none⟩) k cap2)] from own_lit _ (Nat.le_refl _) rfl)
      have HA2 := Lib.hid (Aft.alloc w1 (.cells #[.bool true, .int .i64 1, .slice (some ⟨g, 0, none⟩) k cap2] 27))
      go_upto_region 6 with (fail)
      have HS1' := Lib.hid (HS1.out.next HA2.out)
      have HS2' := Lib.hid (HS2.out.next HA2.out)
      have HB2 := Lib.hid ((show Aft w w1 from HB1.out).trans HA2.out)
      have hs12 := HA2.out.size
      generalize hz9 : w1.heap.size = z9 at HOA hs12 ⊢
      have hz9' := hz9
      generalize (w1.alloc (.cells #[.bool true, .int .i64 1, .slice (some ⟨g, 0, none⟩) k cap2] 27)) = w2 at HOA HA2 HS1' HS2' HB2 hs12 ⊢
      generalize hav : (Value.slice (some (⟨z9, 0, none⟩ : Addr)) 1 1) = av at HOA ⊢
      have HDE := Lib.hid (show Deal w2 z9 av [agRange ((xs.take k).map Vl.num) (.slice (some ⟨g, 0, none⟩) k cap2)] from ⟨HOA.out, fun x hx => by
        simp only [List.mem_singleton] at hx; subst hx; exact ⟨HS1'.out, .inr (fun b hb => by simp [Value.ownBlock, agRange] at hb; subst hb; intro e; have := (World.ownsRow.lt HOA.out _ e).1; omega)⟩⟩)
      have HNU1 := Lib.hid (Nums.range (xs.take k) (.slice (some ⟨g, 0, none⟩) k cap2))
      have hwz : w.heap.size ≤ z9 := by rw [← hz9']; exact HB1.out.size
      have H9 := Lib.hid (show Below z9 w1 w2 by rw [← hz9']; exact HA2.out)
      clear HS1 HS2 HV hav
      go_upto_if 35 with (fail)
      go_cut [9] (fun rv wx => ∃ (lv : Value) (gs : List Ag) (wy : World), lv = rv ∧ wy = wx ∧ Hid (Deal wx z9 lv gs) ∧ Hid (Nums gs xs) ∧ Hid (1 ≤ gs.length ∧ gs.length ≤ 40) ∧ Hid (Aft w wx) ∧ Hid (z9 ≤ wx.heap.size))
      case first =>
        cases wide with
        | true =>
          go_wp2_with (first
            | (at_builtin; refine wpList_app_at HEL.out encAg rfl (.tmp 36) (.tmp 41) rfl z9 _ [agRange ((xs.take k).map Vl.num) (.slice (some ⟨g, 0, none⟩) k cap2)] rfl (HOA.out.alloc _) ⟨_, 0, none⟩ 1 1 [agRange ((xs.drop k).map Vl.num) (.slice (some ⟨g, k * 3, none⟩) (n - k) (cap2 - k))] rfl rfl ?_ ?_ ?_ ?_ ?_; exact cells_new _ _ _ rfl; (exact Nat.le_trans (Nat.mul_le_mul_left _ hEB) (by show (1 + 1) * 100 ≤ 140737488355328; decide)); (show 1 + 1 ≤ maxLen; unfold maxLen; decide); (rw [World.size_alloc]; omega); intro v5 w5 h1 h2 h3; have HO5 := Lib.hid h1; have HG5 := Lib.hid h2; have HC5 := Lib.hid h3; clear h1 h2 h3))
          go_meet
          case rel =>
            have hsa := HS2'.out.next (Aft.alloc w2 (.cells #[.bool true, .int .i64 1, .slice (some ⟨g, k * 3, none⟩) (n - k) (cap2 - k)] 27))
            have hd := (HDE.out.aft (Aft.alloc w2 (.cells #[.bool true, .int .i64 1, .slice (some ⟨g, k * 3, none⟩) (n - k) (cap2 - k)] 27))).app (a := agRange ((xs.drop k).map Vl.num) (.slice (some ⟨g, k * 3, none⟩) (n - k) (cap2 - k))) hsa (.inr (fun b hb => by simp [Value.ownBlock, agRange] at hb; subst hb; intro e; have := (World.ownsRow.lt HOA.out _ e).1; omega)) HO5.out HG5.out HC5.out
            refine ⟨_, _, _, rfl, rfl, Lib.hid hd, Lib.hid ?_, Lib.hid ⟨by simp, by simp⟩, Lib.hid (Below.trans (show Below w.heap.size w _ from HB2.out.allocR (.cells #[.bool true, .int .i64 1, .slice (some ⟨g, k * 3, none⟩) (n - k) (cap2 - k)] 27)) (Below.mono (own_grown (HOA.out.alloc _) (by rw [World.size_alloc]; omega) HG5.out) hwz)), Lib.hid ?_⟩
            · have := HNU1.out.app (Nums.range (xs.drop k) (.slice (some ⟨g, k * 3, none⟩) (n - k) (cap2 - k))); rwa [List.take_append_drop] at this
            · have := HG5.out.size; rw [World.size_alloc] at this; omega
        | false =>
          go_wp2_with fail
          go_loopw [9, 10] (fun rv iv wr => ∃ (i : Nat) (lv : Value) (gs : List Ag), k ≤ i ∧ i ≤ n ∧ lv = rv ∧ iv = .int .i64 (i : Int) ∧ gs.length = 1 + (i - k) ∧ Hid (Deal wr z9 lv gs) ∧ Hid (Nums gs (xs.take i)) ∧ Hid (Aft w wr) ∧ Hid (Below z9 w1 wr))
            (fun _ iv _ => n - (intOf iv).toNat)
          case atStart => exact ⟨k, _, _, Nat.le_refl _, hkn, rfl, rfl, (by simp), HDE, HNU1, HB2, H9⟩
          case round =>
            obtain ⟨i, lv, gs, hki, hin, rfl, rfl, hgl, HD, HNG, HRA, HR9⟩ := hrel
            have hszr : z9 ≤ wr.heap.size := by have := HR9.out.size; omega
            by_cases hlt : i < n
            · have hii : (i : Int) < ((n : Nat) : Int) := by omega
              have hi0 : (0 : Int) ≤ (i : Int) := by omega
              obtain ⟨x, hx⟩ : ∃ x, xs[i]? = some x := ⟨_, List.getElem?_eq_getElem (by rw [HN.out]; exact hlt)⟩
              obtain ⟨hgz, e0, e1, e2⟩ := vals_at HVS.out hx
              have hgz9 : g < z9 := by rw [← hz9']; exact hgz
              have v0 := (HR9.out.cell (p := ⟨g, i * 3, none⟩) hgz9).trans e0
              have v1 := (HR9.out.cell (p := ⟨g, i * 3 + 1, none⟩) hgz9).trans e1
              have v2 := (HR9.out.cell (p := ⟨g, i * 3 + 2, none⟩) hgz9).trans e2
              have HTK := Lib.hid (take_snoc1 hx)
              have HON := Lib.hid (show Calls Tryd.prog 10 #[.agg #[.int .i64 1, .int .i64 x, .string ⟨#[]⟩]] wr _ from one_new (Vl.num x) wr)
              have hg40 : gs.length ≤ 40 := by omega
              clear hx e0 e1 e2
              go_wp2_with (first
                | (go_at_call 10; ((with_reducible refine HON.out.mono ?_); rintro e w3 ⟨⟨g3, rfl, hg3, hs3⟩, hb⟩; have HS3 := Lib.hid hs3; have HB3 := Lib.hid (show Aft wr w3 from hb); have hs3z := HB3.out.size; clear hs3 hb))
                | (at_builtin; refine wpList_app_at HEL.out encAg rfl (.tmp 50) (.tmp 56) rfl z9 _ gs rfl ((HD.out.aft HB3.out).1.alloc _) ⟨_, 0, none⟩ 1 1 [agOne (Vl.num x) (.slice (some ⟨g3, 0, none⟩) 1 1)] rfl rfl ?_ ?_ ?_ ?_ ?_; exact cells_new _ _ _ rfl; (exact Nat.le_trans (Nat.mul_le_mul_left _ hEB) (by omega)); (unfold maxLen; omega); (rw [World.size_alloc]; omega); intro v5 w5 h1 h2 h3; have HO5 := Lib.hid h1; have HG5 := Lib.hid h2; have HC5 := Lib.hid h3; clear h1 h2 h3))
              go_roundw
              case rel =>
                have hd3 := (HD.out.aft HB3.out)
                have hd4 := hd3.aft (Aft.alloc w3 (.cells #[.bool false, .int .i64 0, .slice (some ⟨g3, 0, none⟩) 1 1] 27))
                have hs4 := HS3.out.next (Aft.alloc w3 (.cells #[.bool false, .int .i64 0, .slice (some ⟨g3, 0, none⟩) 1 1] 27))
                have hd5 := hd4.app (a := agOne (Vl.num x) (.slice (some ⟨g3, 0, none⟩) 1 1)) hs4 (.inr (fun b hb => by simp [Value.ownBlock, agOne] at hb; subst hb; intro e; have := (World.ownsRow.lt HD.out.1 _ e).2; omega)) HO5.out HG5.out HC5.out
                have hgr := own_grown hd4.1 (by rw [World.size_alloc]; omega) HG5.out
                refine ⟨i + 1, _, _, by omega, by omega, rfl, by go_num, (by rw [List.length_append, hgl]; simp; omega), Lib.hid hd5, Lib.hid (by rw [HTK.out]; exact HNG.out.app (Nums.one x _)), Lib.hid (Below.trans (show Below w.heap.size w _ from (HRA.out.trans HB3.out).allocR _) (Below.mono hgr hwz)), Lib.hid (Below.trans (Below.alloc (Below.trans HR9.out (Below.mono (show Below wr.heap.size wr w3 from HB3.out) hszr)) (by omega) _) hgr)⟩
              case measure => simp [intOf]; omega
            · have hii : ¬ (i : Int) < ((n : Nat) : Int) := by omega
              have HTK := Lib.hid (show xs.take i = xs from List.take_of_length_le (by rw [HN.out]; omega))
              go_wp2_with fail
              go_meet
              case rel => exact ⟨_, gs, _, rfl, rfl, HD, Lib.hid (by have := HNG.out; rwa [HTK.out] at this), Lib.hid ⟨by omega, by omega⟩, HRA, Lib.hid hszr⟩
      case rest =>
        obtain ⟨lv, gs, wy, rfl, rfl, HD, HNG, HLG, HAW0, HZX⟩ := hcut
        have HSA := Lib.hid (own_sa HD.out.1 (fun a ha => (HD.out.2 a ha).1))
        have HAZ := Lib.hid (show AZ gs from ⟨by have := HLG.out.2; omega, (by
          show (valsA gs).length ≤ _
          rw [HNG.out.2, List.length_map, HN.out]; omega), fun a ha => ⟨by
            have h1 : a.vs.length ≤ (valsA gs).length := sublist_len ha
            rw [HNG.out.2, List.length_map, HN.out] at h1; omega, fun x hx => by
            obtain ⟨y, rfl⟩ := HNG.out.1 a ha x hx
            have hy : Vl.num y ∈ valsA gs := List.mem_flatMap.2 ⟨a, ha, hx⟩
            rw [HNG.out.2] at hy
            obtain ⟨z, hz, hzy⟩ := List.mem_map.1 hy
            injection hzy with _ e _
            subst e
            have := HX.out z hz
            exact ok_num z (by omega) (by omega)⟩⟩)
        have hl40 := HLG.out
        have HSUM := Lib.hid (fun (W : World) (hW : Aft wy W) => (HNG.out.sum hl40.1 (by omega) HX.out (by rw [HN.out]; omega)) ▸ call_SUM W _ gs ((HSA.out.below hW (Nat.le_refl _)).mono hW.size) HAZ.out (HT.out.below (HAW0.out.trans hW)) (HE.out.below (HAW0.out.trans hW)))
        have HCNT := Lib.hid (fun (W : World) (hW : Aft wy W) => (HNG.out.count hl40.1 (by omega)) ▸ call_COUNT W _ gs ((HSA.out.below hW (Nat.le_refl _)).mono hW.size) HAZ.out)
        have HMIN := Lib.hid (fun (W : World) (hW : Aft wy W) => (HNG.out.least hl40.1 (by omega)) ▸ call_MIN W _ gs ((HSA.out.below hW (Nat.le_refl _)).mono hW.size) HAZ.out)
        have HMAX := Lib.hid (fun (W : World) (hW : Aft wy W) => (HNG.out.most hl40.1 (by omega)) ▸ call_MAX W _ gs ((HSA.out.below hW (Nat.le_refl _)).mono hW.size) HAZ.out)
        have HAWK := Lib.hid (fun (W : World) (hW : Aft w W) => awake8_any W (HT.out.below hW) (HE.out.below hW))
        rw [HN.out] at HCNT
        clear HD HLG HSA HAZ HNG hl40
        go_upto_region 14 with (fail)
        go_loopw [11, 12, 13, 14] (fun sv nv mv iv wr => ∃ (i : Nat) (s mn mx : Int), i ≤ n ∧ sv = .int .i64 s ∧ nv = .int .i64 mn ∧ mv = .int .i64 mx ∧ iv = .int .i64 (i : Int) ∧ Hid ((xs.take i).foldl (· + ·) 0 = s) ∧ Hid (minO (xs.take i) = mn) ∧ Hid (maxO (xs.take i) = mx) ∧ Hid (Aft wy wr))
          (fun _ _ _ iv _ => n - (intOf iv).toNat)
        case atStart => exact ⟨0, 0, 0, 0, Nat.zero_le _, rfl, rfl, rfl, rfl, Lib.hid rfl, Lib.hid rfl, Lib.hid rfl, Lib.hid (Aft.refl _)⟩
        case round =>
          obtain ⟨i, s, mn, mx, hi, rfl, rfl, rfl, rfl, HS, HMN, HMX, HR⟩ := hrel
          by_cases hlt : i < n
          · have hii : (i : Int) < ((n : Nat) : Int) := by omega
            have hi0 : (0 : Int) ≤ (i : Int) := by omega
            obtain ⟨x, hx⟩ : ∃ x, xs[i]? = some x := ⟨_, List.getElem?_eq_getElem (by rw [HN.out]; exact hlt)⟩
            rcases HAT.out with e | ⟨pb, po, rfl, hpb, hc⟩
            · exfalso; rw [e] at hx; simp at hx
            have k1 := ((HAW0.out.trans HR.out).cell (p := ⟨pb, po + i, none⟩) hpb).trans (hc i x hx)
            have hxb := HX.out x (List.mem_of_getElem? hx)
            have hsb := sum_bd (xs.take i) 0 (fun y hy => HX.out y (List.mem_of_mem_take hy))
            have hli : (xs.take i).length = i := by rw [List.length_take, HN.out]; omega
            rw [HS.out, hli] at hsb
            have HTK := Lib.hid (take_snoc1 hx)
            have HS2 := Lib.hid (show (xs.take (i + 1)).foldl (· + ·) 0 = s + x by rw [HTK.out, sum_snoc, HS.out])
            have ew : wrap64 (s + x) = s + x := by unfold wrap64; omega
            clear hc hx
            by_cases h0 : i = 0
            · subst h0
              have HM2 := Lib.hid (show minO (xs.take (0 + 1)) = x by rw [HTK.out]; rfl)
              have HX2 := Lib.hid (show maxO (xs.take (0 + 1)) = x by rw [HTK.out]; rfl)
              have e00 : (((0 : Nat) : Int) == 0) = true := rfl
              have k1z : wr.cell? ⟨pb, po, none⟩ = some (.int .i32 x) := k1
              go_wp2_with fail
              go_roundw
              case rel => exact ⟨0 + 1, _, _, _, by omega, rfl, rfl, rfl, by go_num, HS2, HM2, HX2, HR⟩
              case measure => simp [intOf]; omega
            · have hi00 : ¬ (i : Int) = 0 := by omega
              have e00 : ((i : Int) == 0) = false := beq_eq_false_iff_ne.2 hi00
              have hne : ¬ xs.take i = [] := fun e => by have := hli; rw [e] at this; simp at this; omega
              have hm2 := minO_snoc _ x hne
              have hx2 := maxO_snoc _ x hne
              rw [← HTK.out, HMN.out] at hm2
              rw [← HTK.out, HMX.out] at hx2
              have hM2 := Lib.hid hm2; have hX2 := Lib.hid hx2
              clear hm2 hx2
              by_cases hlo : x < mn
              · have HM2 := Lib.hid (show minO (xs.take (i + 1)) = x by rw [hM2.out]; omega)
                by_cases hhi : mx < x
                · have hhi2 : x > mx := hhi
                  have HX2 := Lib.hid (show maxO (xs.take (i + 1)) = x by rw [hX2.out]; omega)
                  go_wp2_with fail
                  go_roundw
                  case rel => exact ⟨i + 1, _, _, _, by omega, rfl, rfl, rfl, by go_num, HS2, HM2, HX2, HR⟩
                  case measure => simp [intOf]; omega
                · have hhi2 : ¬ x > mx := hhi
                  have HX2 := Lib.hid (show maxO (xs.take (i + 1)) = mx by rw [hX2.out]; omega)
                  go_wp2_with fail
                  go_roundw
                  case rel => exact ⟨i + 1, _, _, _, by omega, rfl, rfl, rfl, by go_num, HS2, HM2, HX2, HR⟩
                  case measure => simp [intOf]; omega
              · have HM2 := Lib.hid (show minO (xs.take (i + 1)) = mn by rw [hM2.out]; omega)
                by_cases hhi : mx < x
                · have hhi2 : x > mx := hhi
                  have HX2 := Lib.hid (show maxO (xs.take (i + 1)) = x by rw [hX2.out]; omega)
                  go_wp2_with fail
                  go_roundw
                  case rel => exact ⟨i + 1, _, _, _, by omega, rfl, rfl, rfl, by go_num, HS2, HM2, HX2, HR⟩
                  case measure => simp [intOf]; omega
                · have hhi2 : ¬ x > mx := hhi
                  have HX2 := Lib.hid (show maxO (xs.take (i + 1)) = mx by rw [hX2.out]; omega)
                  go_wp2_with fail
                  go_roundw
                  case rel => exact ⟨i + 1, _, _, _, by omega, rfl, rfl, rfl, by go_num, HS2, HM2, HX2, HR⟩
                  case measure => simp [intOf]; omega
          · have hii : ¬ (i : Int) < ((n : Nat) : Int) := by omega
            have HTK := Lib.hid (show xs.take i = xs from List.take_of_length_le (by rw [HN.out]; omega))
            have hs := HS.out; have hmn := HMN.out; have hmx := HMX.out
            rw [HTK.out] at hs hmn hmx
            rw [hs] at HSUM
            rw [hmn] at HMIN
            rw [hmx] at HMAX
            clear HS HMN HMX HTK hs hmn hmx
            have en : ∀ z : Int, (Vl.num z).n = z := fun _ => rfl
            have ek : ((Vl.num s).k == 1) = true := rfl
            have hvn := run_val_nF
            go_wp2_with (first
              | (go_at_call 11; ((with_reducible refine (HSUM.out _ HR.out).mono ?_); rintro e w2 ⟨rfl, hb⟩; have HC2 := Lib.hid (HR.out.trans hb); clear hb))
              | (go_at_call 11; ((with_reducible refine (HCNT.out _ HC2.out).mono ?_); rintro e w3 ⟨rfl, hb⟩; have HC3 := Lib.hid (HC2.out.trans hb); clear hb))
              | (go_at_call 11; ((with_reducible refine (HMIN.out _ ((HC3.out.allocR _).allocR _)).mono ?_); rintro e w4 ⟨rfl, hb⟩; have HC4 := Lib.hid (((HC3.out.allocR _).allocR _).trans hb); clear hb))
              | (go_at_call 11; ((with_reducible refine (HMAX.out _ HC4.out).mono ?_); rintro e w5 ⟨rfl, hb⟩; have HC5 := Lib.hid (HC4.out.trans hb); clear hb))
              | (go_at_call 8; ((with_reducible refine (HAWK.out _ (HAW0.out.trans HC5.out)).mono ?_); rintro e w6 ⟨rfl, hb⟩; have HC6 := Lib.hid ((HAW0.out.trans HC5.out).trans hb); clear hb)))
            go_ret
            exact ⟨by rfl, HC6.out⟩
theorem funSums_any (w : World) (v : Value) (xs : List Int) (c : Int) (wide : Bool) (c0 : 0 ≤ c) (c1 : c ≤ 255) (h : SG (Value.int .i32) w w.heap.size v xs) (hx : ∀ x ∈ xs, -2147483648 ≤ x ∧ x ≤ 2147483647) (ht : Tab w) (he : EtV w) : Calls Tryd.prog 3 #[v, .int .u8 c, .bool wide] w fun e w' => e = .returned (.bool true) ∧ Below w.heap.size w w' := by
  by_cases hn : (30 : Int) < (xs.length : Int)
  · obtain ⟨A, cap, rfl, hat⟩ := h
    clear hat
    obtain ⟨n, hnn⟩ : ∃ n, xs.length = n := ⟨_, rfl⟩
    rw [hnn] at hn ⊢
    have hgt : (n : Int) > 30 := hn
    have HA := Lib.hid (awake8_any w ht he)
    clear ht he
    go_enter Tryd.func3, Tryd.ntmps3
    go_wp2_with (first
      | (go_at_call 8; ((with_reducible refine HA.out.mono ?_); rintro e w1 ⟨rfl, hb⟩; have HB := Lib.hid hb; clear hb)))
    go_ret
    exact ⟨by rfl, HB.out⟩
  · exact sums_head w v xs c wide c0 c1 h hx hn ht he
end Go.Proofs.YtppialmmhoopcaaDoor
