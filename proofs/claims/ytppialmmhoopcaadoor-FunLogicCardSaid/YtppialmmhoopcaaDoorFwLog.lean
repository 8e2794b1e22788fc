/-
  Layer 8, the law: AND, OR.
-/
import Derived.Test.YtppialmmhoopcaaDoorFwLogU
import Derived.Deep.DeepCutAuto
namespace Go.Proofs.YtppialmmhoopcaaDoor
open Go.RowKit

theorem logA_snoc (l : List Bool) (x : Bool) : (l ++ [x]).all id = (l.all id && x) := by rw [List.all_append]; cases x <;> simp
theorem logO_snoc (l : List Bool) (x : Bool) : (l ++ [x]).any id = (l.any id || x) := by rw [List.any_append]; cases x <;> simp
theorem take_snoc1 {α : Type} {l : List α} {i : Nat} {x : α} (h : l[i]? = some x) : l.take (i + 1) = l.take i ++ [x] := by rw [List.take_add_one, h]; rfl
theorem Elem.vlL : ∃ n, n ≤ 100 ∧ Elem Tryd.prog 24 31 3 n := Elem.vlF
set_option maxRecDepth 100000 in
set_option maxHeartbeats 8000000 in
theorem logLoop (w : World) (v : Value) (xs : List Bool) (m : Int) (m0 : 0 ≤ m) (m1 : m ≤ 255) (h : SG Value.bool w w.heap.size v xs) (hn : ¬ (20 : Int) < (xs.length : Int)) (ht : Tab w) (he : EtV w) : Calls Tryd.prog 7 #[v, .int .u8 m] w fun e w' => e = .returned (.bool true) ∧ Below w.heap.size w w' := by
  obtain ⟨A, cap, rfl, hat⟩ := h
  obtain ⟨n, hnn⟩ : ∃ n, xs.length = n := ⟨_, rfl⟩
  rw [hnn] at hn ⊢
  have hn20 : n ≤ 20 := by omega
  have hgt : ¬ (n : Int) > 20 := by omega
  have HAT := Lib.hid hat; have HN := Lib.hid hnn; have HT := Lib.hid ht; have HE := Lib.hid he
  obtain ⟨eb, hEB, EL⟩ := Elem.vlF
  have HEL := Lib.hid EL
  clear hat hnn ht he EL hn
  go_enter Tryd.func7, Tryd.ntmps7
  go_upto_region 6 with (fail)
  go_loopw [5, 6, 7, 8] (fun rv av ov iv wr => ∃ (i : Nat) (lw : Value) (a o : Bool), i ≤ n ∧ lw = rv ∧ av = .bool a ∧ ov = .bool o ∧ iv = .int .i64 (i : Int) ∧ Hid ((xs.take i).all id = a) ∧ Hid ((xs.take i).any id = o) ∧ Hid (Own encVl 31 wr w.heap.size lw (logF m 0 (xs.take i))) ∧ Hid (Below w.heap.size w wr))
    (fun _ _ _ iv _ => n - (intOf iv).toNat)
  case atStart => exact ⟨0, .slice none 0 0, true, false, Nat.zero_le _, rfl, rfl, rfl, rfl, Lib.hid rfl, Lib.hid rfl, Lib.hid (Own.nil _ _ _ _), Lib.hid (Below.refl _ _)⟩
  case round =>
    obtain ⟨i, lw, a, o, hi, rfl, rfl, rfl, rfl, HA, HO, HOW, HR⟩ := hrel
    by_cases hlt : i < n
    · have hii : (i : Int) < (n : Int) := by omega
      have hi0 : (0 : Int) ≤ (i : Int) := by omega
      obtain ⟨x, hx⟩ : ∃ x, xs[i]? = some x := ⟨_, List.getElem?_eq_getElem (by rw [HN.out]; exact hlt)⟩
      rcases HAT.out with e | ⟨pb, po, rfl, hpb, hc⟩
      · exfalso; rw [e] at hx; simp at hx
      have kc := hc i x hx
      have hpr : pb < wr.heap.size := Nat.lt_of_lt_of_le hpb HR.out.size
      have k1 := (HR.out.cell (p := ⟨pb, po + i, none⟩) hpb).trans kc
      have HTK := Lib.hid (take_snoc1 hx)
      have HLT := Lib.hid (show (xs.take i).length = i by rw [List.length_take, HN.out]; omega)
      have hll := logF_len m (xs.take i) 0
      rw [HLT.out] at hll
      have hsr := HR.out.size
      clear hc hx
      obtain ⟨cnd, hcnd⟩ : ∃ cnd, (m % 4 == (i : Int) % 4) = cnd := ⟨_, rfl⟩
      have HCD := Lib.hid hcnd
      clear hcnd
      have HNX := Lib.hid (show logF m 0 (xs.take (i + 1)) = logF m 0 (xs.take i) ++ (Vl.truth x :: if cnd = true then [Vl.none, (Vl.text ⟨#[120]⟩)] else []) by
        rw [HTK.out, logF_snoc, HLT.out, Nat.zero_add, ← HCD.out]
        congr 2
        by_cases hc : m % 4 = (i : Int) % 4
        · rw [if_pos hc, if_pos (beq_iff_eq.2 hc)]
        · rw [if_neg hc, if_neg (by rw [beq_iff_eq]; exact hc)])
      cases x with
      | false =>
        have HB2 := Lib.hid (Aft.alloc wr (.cells #[.int .i64 3, .int .i64 0, .string ⟨#[]⟩] 31))
        have HV2 := Lib.hid (show VlAt (wr.alloc (.cells #[.int .i64 3, .int .i64 0, .string ⟨#[]⟩] 31)) wr.heap.size (Vl.truth false) from VlAt.new wr (Vl.truth false))
        go_upto_region 9 with (fail)
        generalize hz : wr.heap.size = z at HV2 ⊢
        generalize (wr.alloc (.cells #[.int .i64 3, .int .i64 0, .string ⟨#[]⟩] 31)) = w2 at HB2 HV2 ⊢
        have k2 : w2.cell? ⟨pb, po + i, none⟩ = some (.bool false) := (Below.cell HB2.out (p := ⟨pb, po + i, none⟩) hpr).trans k1
        obtain ⟨v0, v1, v2⟩ := HV2.out.cells
        obtain ⟨m0', m1', m2'⟩ := HV2.out.melts
        have e30 : (Vl.truth false).k = 3 := rfl
        have e31 : (Vl.truth false).n = 0 := rfl
        have e32 : (Vl.truth false).s = ⟨#[]⟩ := rfl
        rw [e30] at v0
        rw [e31] at v1
        rw [e32] at v2
        clear k1 e30 e31 e32
        go_upto_region 11 with (fail)
        have HB3 := HB2; have HV3 := HV2
        obtain ⟨w3, hw3⟩ : ∃ w3, w2 = w3 := ⟨_, rfl⟩
        rw [hw3] at HB3 HV3 ⊢
        have HOW3 := Lib.hid (HOW.out.below HB3.out (Nat.le_refl _))
        have HR3 := Lib.hid (HR.out.trans ((show Below wr.heap.size wr w3 from HB3.out).mono hsr))
        have hs3 := HR3.out.size
        obtain ⟨x0, x1, x2⟩ := HV3.out.cells
        clear v0 v1 v2 m0' m1' m2' k2
        cases cnd with
        | true =>
          have hcd := HCD.out
          have hce := beq_iff_eq.1 HCD.out
          have HRA := Lib.hid (show (xs.take (i + 1)).all id = (a && false) by rw [HTK.out, logA_snoc, HA.out])
          have HRO := Lib.hid (show (xs.take (i + 1)).any id = (o || false) by rw [HTK.out, logO_snoc, HO.out])
          cases a <;> cases o <;> (go_wp2_with (first
            | (at_builtin; refine wpList_app HEL.out encVl rfl (.tmp 29) (.tmp 31) rfl w.heap.size _ (logF m 0 (xs.take i)) rfl (HOW3.out.alloc _) ⟨_, 0, none⟩ 1 1 [Vl.truth false] rfl rfl ?_ ?_ ?_ ?_ ?_; exact cells_new _ _ _ rfl; (exact Nat.le_trans (Nat.mul_le_mul_left _ hEB) (by omega)); (unfold maxLen; omega); (rw [World.size_alloc]; omega); intro v5 w5 h1 h2; have HO5 := Lib.hid h1; have HR5 := Lib.hid ((HR3.out.alloc hs3 _).trans h2); have hs5 := HR5.out.size; have k5 := (HR5.out.cell (p := ⟨pb, po + i, none⟩) hpb).trans kc; clear h1 h2)
            | (at_builtin; refine wpList_app HEL.out encVl rfl (.tmp 39) (.tmp 42) rfl w.heap.size _ (logF m 0 (xs.take i) ++ [Vl.truth false]) rfl (HO5.out.alloc _) ⟨_, 0, none⟩ 2 2 [Vl.none, (Vl.text ⟨#[120]⟩)] rfl rfl ?_ ?_ ?_ ?_ ?_; exact cells_new _ _ _ rfl; (exact Nat.le_trans (Nat.mul_le_mul_left _ hEB) (by rw [List.length_append, List.length_singleton]; omega)); (rw [List.length_append, List.length_singleton]; unfold maxLen; omega); (rw [World.size_alloc]; omega); intro v6 w6 h1 h2; have HO6 := Lib.hid h1; have HR6 := Lib.hid ((HR5.out.alloc hs5 _).trans h2); have k6 := (HR6.out.cell (p := ⟨pb, po + i, none⟩) hpb).trans kc; clear h1 h2)); go_roundw; (case rel => exact ⟨i + 1, _, _, _, by omega, rfl, rfl, rfl, by go_num, Lib.hid HRA.out, Lib.hid HRO.out, Lib.hid (by rw [HNX.out, if_pos rfl]; have h := HO6.out; rw [List.append_assoc] at h; exact h), HR6⟩); (case measure => simp [intOf]; omega))
        | false =>
          have hcd := HCD.out
          have hce : ¬ m % 4 = (i : Int) % 4 := beq_eq_false_iff_ne.1 HCD.out
          have HRA := Lib.hid (show (xs.take (i + 1)).all id = (a && false) by rw [HTK.out, logA_snoc, HA.out])
          have HRO := Lib.hid (show (xs.take (i + 1)).any id = (o || false) by rw [HTK.out, logO_snoc, HO.out])
          cases a <;> cases o <;> (go_wp2_with (first
            | (at_builtin; refine wpList_app HEL.out encVl rfl (.tmp 29) (.tmp 31) rfl w.heap.size _ (logF m 0 (xs.take i)) rfl (HOW3.out.alloc _) ⟨_, 0, none⟩ 1 1 [Vl.truth false] rfl rfl ?_ ?_ ?_ ?_ ?_; exact cells_new _ _ _ rfl; (exact Nat.le_trans (Nat.mul_le_mul_left _ hEB) (by omega)); (unfold maxLen; omega); (rw [World.size_alloc]; omega); intro v5 w5 h1 h2; have HO5 := Lib.hid h1; have HR5 := Lib.hid ((HR3.out.alloc hs3 _).trans h2); have hs5 := HR5.out.size; have k5 := (HR5.out.cell (p := ⟨pb, po + i, none⟩) hpb).trans kc; clear h1 h2)
            | (at_builtin; refine wpList_app HEL.out encVl rfl (.tmp 39) (.tmp 42) rfl w.heap.size _ (logF m 0 (xs.take i) ++ [Vl.truth false]) rfl (HO5.out.alloc _) ⟨_, 0, none⟩ 2 2 [Vl.none, (Vl.text ⟨#[120]⟩)] rfl rfl ?_ ?_ ?_ ?_ ?_; exact cells_new _ _ _ rfl; (exact Nat.le_trans (Nat.mul_le_mul_left _ hEB) (by rw [List.length_append, List.length_singleton]; omega)); (rw [List.length_append, List.length_singleton]; unfold maxLen; omega); (rw [World.size_alloc]; omega); intro v6 w6 h1 h2; have HO6 := Lib.hid h1; have HR6 := Lib.hid ((HR5.out.alloc hs5 _).trans h2); have k6 := (HR6.out.cell (p := ⟨pb, po + i, none⟩) hpb).trans kc; clear h1 h2)); go_roundw; (case rel => exact ⟨i + 1, _, _, _, by omega, rfl, rfl, rfl, by go_num, Lib.hid HRA.out, Lib.hid HRO.out, Lib.hid (by rw [HNX.out, if_neg (by decide)]; exact HO5.out), HR5⟩); (case measure => simp [intOf]; omega))
      | true =>
        have HB2 := Lib.hid (Aft.alloc wr (.cells #[.int .i64 3, .int .i64 0, .string ⟨#[]⟩] 31))
        have HV2 := Lib.hid (show VlAt (wr.alloc (.cells #[.int .i64 3, .int .i64 0, .string ⟨#[]⟩] 31)) wr.heap.size (Vl.truth false) from VlAt.new wr (Vl.truth false))
        go_upto_region 9 with (fail)
        generalize hz : wr.heap.size = z at HV2 ⊢
        generalize (wr.alloc (.cells #[.int .i64 3, .int .i64 0, .string ⟨#[]⟩] 31)) = w2 at HB2 HV2 ⊢
        have k2 : w2.cell? ⟨pb, po + i, none⟩ = some (.bool true) := (Below.cell HB2.out (p := ⟨pb, po + i, none⟩) hpr).trans k1
        obtain ⟨v0, v1, v2⟩ := HV2.out.cells
        obtain ⟨m0', m1', m2'⟩ := HV2.out.melts
        have e30 : (Vl.truth false).k = 3 := rfl
        have e31 : (Vl.truth false).n = 0 := rfl
        have e32 : (Vl.truth false).s = ⟨#[]⟩ := rfl
        rw [e30] at v0
        rw [e31] at v1
        rw [e32] at v2
        clear k1 e30 e31 e32
        go_upto_region 11 with (fail)
        have HB3 := Lib.hid (show Aft wr (w2.setCell ⟨z, 1, none⟩ (.int .i64 1)) from Below.setCell HB2.out (by rw [hz]; exact Nat.le_refl _) _)
        have HV3 := Lib.hid (show VlAt (w2.setCell ⟨z, 1, none⟩ (.int .i64 1)) z (Vl.truth true) by
          unfold VlAt; rw [heap_setCell_same w2 z 1 _ _ _ HV2.out]; rfl)
        generalize w2.setCell ⟨z, 1, none⟩ (.int .i64 1) = w3 at HB3 HV3 ⊢
        have HOW3 := Lib.hid (HOW.out.below HB3.out (Nat.le_refl _))
        have HR3 := Lib.hid (HR.out.trans ((show Below wr.heap.size wr w3 from HB3.out).mono hsr))
        have hs3 := HR3.out.size
        obtain ⟨x0, x1, x2⟩ := HV3.out.cells
        clear v0 v1 v2 m0' m1' m2' k2
        cases cnd with
        | true =>
          have hcd := HCD.out
          have hce := beq_iff_eq.1 HCD.out
          have HRA := Lib.hid (show (xs.take (i + 1)).all id = (a && true) by rw [HTK.out, logA_snoc, HA.out])
          have HRO := Lib.hid (show (xs.take (i + 1)).any id = (o || true) by rw [HTK.out, logO_snoc, HO.out])
          cases a <;> cases o <;> (go_wp2_with (first
            | (at_builtin; refine wpList_app HEL.out encVl rfl (.tmp 29) (.tmp 31) rfl w.heap.size _ (logF m 0 (xs.take i)) rfl (HOW3.out.alloc _) ⟨_, 0, none⟩ 1 1 [Vl.truth true] rfl rfl ?_ ?_ ?_ ?_ ?_; exact cells_new _ _ _ rfl; (exact Nat.le_trans (Nat.mul_le_mul_left _ hEB) (by omega)); (unfold maxLen; omega); (rw [World.size_alloc]; omega); intro v5 w5 h1 h2; have HO5 := Lib.hid h1; have HR5 := Lib.hid ((HR3.out.alloc hs3 _).trans h2); have hs5 := HR5.out.size; have k5 := (HR5.out.cell (p := ⟨pb, po + i, none⟩) hpb).trans kc; clear h1 h2)
            | (at_builtin; refine wpList_app HEL.out encVl rfl (.tmp 39) (.tmp 42) rfl w.heap.size _ (logF m 0 (xs.take i) ++ [Vl.truth true]) rfl (HO5.out.alloc _) ⟨_, 0, none⟩ 2 2 [Vl.none, (Vl.text ⟨#[120]⟩)] rfl rfl ?_ ?_ ?_ ?_ ?_; exact cells_new _ _ _ rfl; (exact Nat.le_trans (Nat.mul_le_mul_left _ hEB) (by rw [List.length_append, List.length_singleton]; omega)); (rw [List.length_append, List.length_singleton]; unfold maxLen; omega); (rw [World.size_alloc]; omega); intro v6 w6 h1 h2; have HO6 := Lib.hid h1; have HR6 := Lib.hid ((HR5.out.alloc hs5 _).trans h2); have k6 := (HR6.out.cell (p := ⟨pb, po + i, none⟩) hpb).trans kc; clear h1 h2)); go_roundw; (case rel => exact ⟨i + 1, _, _, _, by omega, rfl, rfl, rfl, by go_num, Lib.hid HRA.out, Lib.hid HRO.out, Lib.hid (by rw [HNX.out, if_pos rfl]; have h := HO6.out; rw [List.append_assoc] at h; exact h), HR6⟩); (case measure => simp [intOf]; omega))
        | false =>
          have hcd := HCD.out
          have hce : ¬ m % 4 = (i : Int) % 4 := beq_eq_false_iff_ne.1 HCD.out
          have HRA := Lib.hid (show (xs.take (i + 1)).all id = (a && true) by rw [HTK.out, logA_snoc, HA.out])
          have HRO := Lib.hid (show (xs.take (i + 1)).any id = (o || true) by rw [HTK.out, logO_snoc, HO.out])
          cases a <;> cases o <;> (go_wp2_with (first
            | (at_builtin; refine wpList_app HEL.out encVl rfl (.tmp 29) (.tmp 31) rfl w.heap.size _ (logF m 0 (xs.take i)) rfl (HOW3.out.alloc _) ⟨_, 0, none⟩ 1 1 [Vl.truth true] rfl rfl ?_ ?_ ?_ ?_ ?_; exact cells_new _ _ _ rfl; (exact Nat.le_trans (Nat.mul_le_mul_left _ hEB) (by omega)); (unfold maxLen; omega); (rw [World.size_alloc]; omega); intro v5 w5 h1 h2; have HO5 := Lib.hid h1; have HR5 := Lib.hid ((HR3.out.alloc hs3 _).trans h2); have hs5 := HR5.out.size; have k5 := (HR5.out.cell (p := ⟨pb, po + i, none⟩) hpb).trans kc; clear h1 h2)
            | (at_builtin; refine wpList_app HEL.out encVl rfl (.tmp 39) (.tmp 42) rfl w.heap.size _ (logF m 0 (xs.take i) ++ [Vl.truth true]) rfl (HO5.out.alloc _) ⟨_, 0, none⟩ 2 2 [Vl.none, (Vl.text ⟨#[120]⟩)] rfl rfl ?_ ?_ ?_ ?_ ?_; exact cells_new _ _ _ rfl; (exact Nat.le_trans (Nat.mul_le_mul_left _ hEB) (by rw [List.length_append, List.length_singleton]; omega)); (rw [List.length_append, List.length_singleton]; unfold maxLen; omega); (rw [World.size_alloc]; omega); intro v6 w6 h1 h2; have HO6 := Lib.hid h1; have HR6 := Lib.hid ((HR5.out.alloc hs5 _).trans h2); have k6 := (HR6.out.cell (p := ⟨pb, po + i, none⟩) hpb).trans kc; clear h1 h2)); go_roundw; (case rel => exact ⟨i + 1, _, _, _, by omega, rfl, rfl, rfl, by go_num, Lib.hid HRA.out, Lib.hid HRO.out, Lib.hid (by rw [HNX.out, if_neg (by decide)]; exact HO5.out), HR5⟩); (case measure => simp [intOf]; omega))
    · have hii : ¬ (i : Int) < (n : Int) := by omega
      have HTK := Lib.hid (show xs.take i = xs from List.take_of_length_le (by rw [HN.out]; omega))
      rw [HTK.out] at HA HO HOW
      have HSV := Lib.hid (own_sv HOW.out)
      have hll := logF_len m xs 0
      rw [HN.out] at hll
      have HAZ := Lib.hid (fun (u : Value) => az_range (logF m 0 xs) u (by omega) (logF_ok m xs 0))
      obtain ⟨Av, cv, rfl, _⟩ := id HSV.out
      obtain ⟨ln, hln⟩ : ∃ ln, (logF m 0 xs).length = ln := ⟨_, rfl⟩
      rw [hln] at HSV ⊢
      have HRV := HR
      have hsr := HR.out.size
      have HSA := Lib.hid (fun (t : TypeId) (z : Nat) (hz : wr.heap.size = z) => sa_range wr (logF m 0 xs) (.slice Av ln cv) z t hz HSV.out)
      have HCA := Lib.hid (fun (t : TypeId) (z : Nat) (hz : wr.heap.size = z) => log_and m xs (.slice Av ln cv) ▸ call_AND _ _ _ (HSA.out t z hz) (HAZ.out _))
      have HCO := Lib.hid (fun (t : TypeId) (z : Nat) (hz : wr.heap.size = z) (W : World) (hW : Aft (wr.alloc (.cells #[.bool true, .int .i64 1, .slice Av ln cv] t)) W) => log_or m xs (.slice Av ln cv) ▸ call_OR W _ _ (((HSA.out t z hz).below hW (Nat.le_refl _)).mono hW.size) (HAZ.out _))
      have HAW := Lib.hid (fun (W : World) (hW : Aft w W) => awake8_any W (HT.out.below hW) (HE.out.below hW))
      clear hln HAZ HSA HOW HEL hEB
      cases n with
      | zero =>
        have hx : xs = [] := List.eq_nil_of_length_eq_zero HN.out
        have e0 : ((0 : Nat) : Int) = 0 := rfl
        rw [if_pos hx] at HCA HCO
        go_wp2_with (first
          | (go_at_call 11; ((with_reducible refine (HCA.out _ _ rfl).mono ?_); rintro e w2 ⟨rfl, hb⟩; have HB2 := Lib.hid (show Aft _ w2 from hb); clear hb))
          | (go_at_call 11; ((with_reducible refine (HCO.out _ _ rfl _ HB2.out).mono ?_); rintro e w3 ⟨rfl, hb⟩; have HB3 := Lib.hid ((show Aft w wr from HR.out).trans ((Aft.alloc wr _).trans (HB2.out.trans hb))); clear hb))
          | (go_at_call 8; ((with_reducible refine (HAW.out _ ((HB3.out.allocR _).allocR _)).mono ?_); rintro e w5 ⟨rfl, hb⟩; have HB5 := Lib.hid (((HB3.out.allocR _).allocR _).trans hb); clear hb)))
        go_ret
        exact ⟨by rfl, HB5.out⟩
      | succ k =>
        have hx : ¬ xs = [] := fun e => by have := HN.out; rw [e] at this; simp at this
        have e0 : (((k + 1 : Nat) : Int) == 0) = false := by rw [beq_eq_false_iff_ne]; omega
        have e1 : ¬ ((k + 1 : Nat) : Int) = 0 := by omega
        rw [if_neg hx] at HCA HCO
        rw [HA.out] at HCA
        rw [HO.out] at HCO
        cases a <;> cases o <;> (go_wp2_with (first
          | (go_at_call 11; ((with_reducible refine (HCA.out _ _ rfl).mono ?_); rintro e w2 ⟨rfl, hb⟩; have HB2 := Lib.hid (show Aft _ w2 from hb); clear hb))
          | (go_at_call 11; ((with_reducible refine (HCO.out _ _ rfl _ HB2.out).mono ?_); rintro e w3 ⟨rfl, hb⟩; have HB3 := Lib.hid ((show Aft w wr from HR.out).trans ((Aft.alloc wr _).trans (HB2.out.trans hb))); clear hb))
          | (go_at_call 8; ((with_reducible refine (HAW.out _ ((HB3.out.allocR _).allocR _)).mono ?_); rintro e w5 ⟨rfl, hb⟩; have HB5 := Lib.hid (((HB3.out.allocR _).allocR _).trans hb); clear hb))); go_ret; exact ⟨by rfl, HB5.out⟩)
theorem funLogic_any (w : World) (v : Value) (xs : List Bool) (m : Int) (m0 : 0 ≤ m) (m1 : m ≤ 255) (h : SG Value.bool w w.heap.size v xs) (ht : Tab w) (he : EtV w) : Calls Tryd.prog 7 #[v, .int .u8 m] w fun e w' => e = .returned (.bool true) ∧ Below w.heap.size w w' := by
  by_cases hn : (20 : Int) < (xs.length : Int)
  · obtain ⟨A, cap, rfl, hat⟩ := h
    clear hat
    obtain ⟨n, hnn⟩ : ∃ n, xs.length = n := ⟨_, rfl⟩
    rw [hnn] at hn ⊢
    have hgt : (n : Int) > 20 := hn
    have HA := Lib.hid (awake8_any w ht he)
    clear ht he
    go_enter Tryd.func7, Tryd.ntmps7
    go_wp2_with (first
      | (go_at_call 8; ((with_reducible refine HA.out.mono ?_); rintro e w1 ⟨rfl, hb⟩; have HB := Lib.hid hb; clear hb)))
    go_ret
    exact ⟨by rfl, HB.out⟩
  · exact logLoop w v xs m m0 m1 h hn ht he
end Go.Proofs.YtppialmmhoopcaaDoor
