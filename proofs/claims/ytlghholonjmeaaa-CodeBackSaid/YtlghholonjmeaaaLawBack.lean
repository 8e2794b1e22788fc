/-
  The law 'what was written is told again'.
-/
import Derived.Test.YtlghholonjmeaaaCodeH
import Derived.Test.YtlghholonjmeaaaHeld
namespace Go.Proofs.Ytlghholonjmeaaa
open Go.RowKit

theorem str_sbs (ss : List ByteArray) : (sbs ss).map strOfNums = ss := by
  unfold sbs
  rw [List.map_map]
  conv => rhs; rw [← List.map_id ss]
  exact List.map_congr_left fun s _ => str_sb s
theorem S8.takeTo {w : World} {B : Nat} {A : Option Addr} {len cap : Nat} {xs : List Int} (h : S8 w B A len cap xs) (k : Nat) (hk : k ≤ len) : S8 w B A k cap (xs.take k) :=
  ⟨by rw [List.length_take, h.hlen]; omega, Nat.le_trans hk h.le, h.max, h.bytes.take _, by
    rcases h.at_ with h1 | ⟨pb, po, h1, h2, h3⟩
    · exact .inl (by omega)
    · refine .inr ⟨pb, po, h1, h2, fun j hj => ?_⟩
      rw [h3 j (by omega)]
      congr 2
      rw [List.getD_eq_getElem?_getD, List.getD_eq_getElem?_getD, List.getElem?_take_of_lt hj]⟩
/-- 's[:len(s)-1]' of a slice of bytes that has one. -/
theorem run_less8 (A : Option Addr) (m c : Nat) (h1 : 0 < m) (h2 : m ≤ c) (w : World) : (Instr.slice 23 (.slice A m c) none (some (.int .i64 ((m : Int) - 1))) none).run Try.prog w = .ok (.slice A (m - 1) c) w := by
  have e1 : (m : Int) - 1 ≤ (c : Int) := by omega
  have e2 : (0 : Int) ≤ (m : Int) - 1 := by omega
  have e4 : ((m : Int) - 1).toNat = m - 1 := by omega
  have e5 : ¬ c = 0 := by omega
  have e6 : A.map (fun x => x.add 0) = A := by cases A with | none => rfl | some a => simp [Addr.add]
  have e3 : (Try.prog.info? 5).map (·.size) = some 1 := by kernel_rfl
  cases hq : Try.prog.info? 5 with
  | none => rw [hq] at e3; cases e3
  | some i =>
    simp only [Instr.slice, Instr.sliceBounds, Instr.sliceBound, asIntOf, Sem.run_bind, Sem.run_pure, run_underlying Try.underlying23, Result.andThen_ok]
    rw [if_pos ⟨e2, e1⟩]
    simp [sizeOf, typeInfo, hq, e4, e5, e6]

/-- Get where the number is known, where there is none; GetList likewise. -/
theorem get_is (A : Option Addr) (len cap k n p : Nat) (xs : List Int) (w : World) (hS : S8 w w.heap.size A len cap xs) (_hk : k ≤ 9223372036854775807) (h : getL xs k = some (n, p)) :
    Calls Try.prog 8 #[.slice A len cap, .int .i64 (k : Int)] w fun e w' => e = .returned (.tuple #[.int .i64 (n : Int), .int .i64 (p : Int), .bool true]) ∧ Below w.heap.size w w' := by
  refine (get_any A len cap k xs w hS _hk).mono ?_
  rintro e w' ⟨v, q, ok, rfl, hb, ⟨h1, _⟩ | ⟨h1, rfl⟩⟩
  · rw [h] at h1; cases h1
  · rw [h] at h1; cases h1; exact ⟨rfl, hb⟩
theorem get_not (A : Option Addr) (len cap k : Nat) (xs : List Int) (w : World) (hS : S8 w w.heap.size A len cap xs) (_hk : k ≤ 9223372036854775807) (h : getL xs k = none) :
    Calls Try.prog 8 #[.slice A len cap, .int .i64 (k : Int)] w fun e w' => e = .returned (.tuple #[.int .i64 0, .int .i64 0, .bool false]) ∧ Below w.heap.size w w' := by
  refine (get_any A len cap k xs w hS _hk).mono ?_
  rintro e w' ⟨v, q, ok, rfl, hb, ⟨h1, rfl, rfl, rfl⟩ | ⟨h1, rfl⟩⟩
  · exact ⟨rfl, hb⟩
  · rw [h] at h1; cases h1
theorem getList_is (A : Option Addr) (len cap k p : Nat) (xs : List Int) (l : List (List Int)) (ss : List ByteArray) (w : World) (hS : S8 w w.heap.size A len cap xs) (_hk : k ≤ 9223372036854775807) (_hl : len ≤ 1000000000) (h : getListL xs k = some (l, p)) (hss : l.map strOfNums = ss) :
    Calls Try.prog 12 #[.slice A len cap, .int .i64 (k : Int)] w fun e w' => ∃ A' c, e = .returned (.tuple #[.slice A' ss.length c, .int .i64 (p : Int), .bool true]) ∧ Below w.heap.size w w' ∧ ST w' w'.heap.size A' ss.length c ss := by
  refine (getList_any A len cap k xs w hS _hk _hl).mono ?_
  rintro e w' ⟨v, q, ok, rfl, hb, ⟨h1, _⟩ | ⟨m, h1, rfl, h2⟩⟩
  · rw [h] at h1; cases h1
  · rw [h] at h1; cases h1
    rw [hss] at h2
    obtain ⟨A', c, rfl, hst⟩ := h2.st
    exact ⟨A', c, rfl, hb, hst⟩
theorem getList_not (A : Option Addr) (len cap k : Nat) (xs : List Int) (w : World) (hS : S8 w w.heap.size A len cap xs) (_hk : k ≤ 9223372036854775807) (_hl : len ≤ 1000000000) (h : getListL xs k = none) :
    Calls Try.prog 12 #[.slice A len cap, .int .i64 (k : Int)] w fun e w' => e = .returned (.tuple #[.slice none 0 0, .int .i64 0, .bool false]) ∧ Below w.heap.size w w' := by
  refine (getList_any A len cap k xs w hS _hk _hl).mono ?_
  rintro e w' ⟨v, q, ok, rfl, hb, ⟨h1, rfl, rfl, rfl⟩ | ⟨m, h1, rfl, h2⟩⟩
  · exact ⟨rfl, hb⟩
  · rw [h] at h1; cases h1

theorem get_not0 (A : Option Addr) (len cap : Nat) (xs : List Int) (w : World) (hS : S8 w w.heap.size A len cap xs) (h : getL xs 0 = none) :
    Calls Try.prog 8 #[.slice A len cap, .int .i64 0] w fun e w' => e = .returned (.tuple #[.int .i64 0, .int .i64 0, .bool false]) ∧ Below w.heap.size w w' := get_not A len cap 0 xs w hS (by omega) h
theorem getList_not0 (A : Option Addr) (len cap : Nat) (xs : List Int) (w : World) (hS : S8 w w.heap.size A len cap xs) (_hl : len ≤ 1000000000) (h : getListL xs 0 = none) :
    Calls Try.prog 12 #[.slice A len cap, .int .i64 0] w fun e w' => e = .returned (.tuple #[.slice none 0 0, .int .i64 0, .bool false]) ∧ Below w.heap.size w w' := getList_not A len cap 0 xs w hS (by omega) _hl h

set_option maxRecDepth 100000 in
set_option maxHeartbeats 1000000 in
theorem codeBack_any (k0 : Nat) (A1 : Option Addr) (l1 c1 : Nat) (ss : List ByteArray) (A2 : Option Addr) (l2 c2 : Nat) (xs : List Int) (A3 : Option Addr) (l3 c3 : Nat) (ys : List Int) (w : World)
    (_hk : k0 ≤ 18446744073709551615) (hT : ST w w.heap.size A1 l1 c1 ss) (hX : S8 w w.heap.size A2 l2 c2 xs) (hY : S8 w w.heap.size A3 l3 c3 ys) :
    Calls Try.prog 4 #[.int .u64 (k0 : Int), .slice A1 l1 c1, .slice A2 l2 c2, .slice A3 l3 c3] w fun e w' => e = .returned (.bool true) ∧ Below w.heap.size w w' := by
  have HT := Lib.hid hT; clear hT
  have HX := Lib.hid hX; clear hX
  have HY := Lib.hid hY; clear hY
  go_enter Try.func4, Try.ntmps4
  go_wp2_with fail
  refine (heavy_any A1 l1 c1 ss w HT.out).mono ?_
  rintro e w1 ⟨rfl, b, rfl, hb⟩
  have HB := Lib.hid hb; clear hb
  have hfin : ∀ W, Below w.heap.size w W → Calls Try.prog 7 #[] W fun e w' => e = .returned (.bool true) ∧ Below w.heap.size w w' := fun W hW => (awake_any W).mono fun e w' ⟨h1, h2⟩ => ⟨h1, hW.trans (h2.mono hW.size)⟩
  have HF := Lib.hid hfin; clear hfin
  by_cases hbig : b = true ∨ 100 < l2 ∨ 100 < l3
  · cases b
    · by_cases h2 : 100 < l2
      · have i2 : (100 : Int) < (l2 : Int) := by omega
        clear hbig
        go_wp2_with fail
        refine (HF.out _ (Below.refl _ _)).mono ?_
        rintro e w1 ⟨rfl, h1⟩
        have H1 := Lib.hid h1; clear h1
        go_wp2_with fail
        go_ret
        exact ⟨rfl, H1.out⟩
      · have i2 : ¬ (100 : Int) < (l2 : Int) := by omega
        have h3 : 100 < l3 := by rcases hbig with h | h | h; cases h; exact absurd h h2; exact h
        have i3 : (100 : Int) < (l3 : Int) := by omega
        clear hbig
        go_wp2_with fail
        refine (HF.out _ (Below.refl _ _)).mono ?_
        rintro e w1 ⟨rfl, h1⟩
        have H1 := Lib.hid h1; clear h1
        go_wp2_with fail
        go_ret
        exact ⟨rfl, H1.out⟩
    · clear hbig
      go_wp2_with fail
      refine (HF.out _ (Below.refl _ _)).mono ?_
      rintro e w1 ⟨rfl, h1⟩
      have H1 := Lib.hid h1; clear h1
      go_wp2_with fail
      go_ret
      exact ⟨rfl, H1.out⟩
  · obtain rfl : b = false := by cases b; rfl; exact absurd (.inl rfl) hbig
    have hl2 : l2 ≤ 100 := by omega
    have hl3 : l3 ≤ 100 := by omega
    clear hbig
    have hsm := HB.out rfl
    clear HB
    obtain ⟨hl1, hss⟩ := hsm
    have HSS := Lib.hid hss; clear hss
    have i2 : ¬ (100 : Int) < (l2 : Int) := by omega
    have i3 : ¬ (100 : Int) < (l3 : Int) := by omega
    obtain ⟨k, hk⟩ : ∃ k, k = k0 / 2 := ⟨_, rfl⟩
    have hk2 : (k0 : Int) / 2 = (k : Int) := by omega
    have hk63 : k ≤ 9223372036854775807 := by omega
    clear hk
    go_wp2_with fail
    clear i2 i3 hk2
    -- p
    refine (put_any k w (by omega)).mono ?_
    rintro e w1 ⟨v1, rfl, h1, h2⟩
    have hp8 := h1.s8 (putF_bd 9 k)
    have hpl : 0 < (putL k).length := length_putF_pos 8 k
    have hpl9 := length_putL k
    obtain ⟨P, cp, rfl, hP, _⟩ := hp8
    have HP := Lib.hid hP; clear hP
    have HPO := Lib.hid h1; clear h1
    have HW1 := Lib.hid h2; clear h2
    obtain ⟨lp, hlp⟩ : ∃ lp, lp = (putL k).length := ⟨_, rfl⟩
    rw [← hlp] at HP HPO hpl hpl9
    rw [← hlp]
    have HLP := Lib.hid hlp; clear hlp
    go_wp2_with fail
    -- q
    have hq9 : (putListL (sbs ss)).length ≤ 20000 := by
      have h1 := length_flat ss 300 HSS.out
      have h2 := length_putL (sbs ss).length
      have h3 : ss.length * (300 + 9) ≤ 50 * 309 := Nat.mul_le_mul_right _ (by have := HT.out.hlen; omega)
      unfold putListL; rw [List.length_append]; omega
    have hq0 : 0 < (putListL (sbs ss)).length := by unfold putListL putL; have h0 : 0 < (putF 9 (sbs ss).length).length := length_putF_pos 8 (sbs ss).length; rw [List.length_append]; omega
    refine (putList_any A1 l1 c1 ss w1 ((HT.out.below HW1.out (Nat.le_refl _)).mono HW1.out.size) (by omega) (fun s hs => by have := HSS.out s hs; omega)).mono ?_
    rintro e w2 ⟨v2, rfl, h1, h2⟩
    have hbq : Bytes (putListL (sbs ss)) := putListL_bd _ (fun s hs => by unfold sbs at hs; rw [List.mem_map] at hs; obtain ⟨a, _, rfl⟩ := hs; exact sb_bd a)
    obtain ⟨Q, cq, rfl, hQ, _⟩ := h1.s8 hbq
    have HQ := Lib.hid hQ; clear hQ
    have HQO := Lib.hid h1; clear h1
    have HPO2 := Lib.hid (HPO.out.below h2 (Nat.le_refl _))
    have HP2 := Lib.hid ((HP.out.below h2 (Nat.le_refl _)).mono h2.size)
    have HW2 := Lib.hid (Below.of _ _ _ HW1.out h2); clear h2 HPO HP
    obtain ⟨lq, hlq⟩ : ∃ lq, lq = (putListL (sbs ss)).length := ⟨_, rfl⟩
    rw [← hlq] at HQ HQO hq0 hq9
    rw [← hlq]
    have HLQ := Lib.hid hlq; clear hlq
    have HBQ := Lib.hid hbq; clear hbq
    -- b
    have HBB1 : Hid (Bytes ([] ++ xs ++ putL k ++ ys)) := Lib.hid (((Bytes.nil.append HX.out.bytes).append (putF_bd 9 k)).append HY.out.bytes)
    have HBB2 : Hid (Bytes ([] ++ xs ++ putListL (sbs ss) ++ ys)) := Lib.hid (((Bytes.nil.append HX.out.bytes).append HBQ.out).append HY.out.bytes)
    have HE := Lib.hid (Own.made (encInt .u8) 5 w2 w2.heap.size w2.heap.size 0 #[] rfl (Nat.le_refl _) (by unfold maxLen; omega) rfl)
    have HWE : Hid (Below w2.heap.size w2 (w2.alloc (.cells #[] 5))) := Lib.hid ((Below.refl _ _).alloc (Nat.le_refl _) _)
    have HWE' := Lib.hid (Below.of _ _ _ HW2.out HWE.out)
    go_wp2_with (first
      | (at_builtin; refine wpList_app_src Elem.u8 (encInt .u8) rfl (.tmp 46) (.tmp 47) rfl w2.heap.size _ [] rfl HE.out _ l2 xs rfl HX.out.hlen (HX.out.below HWE'.out (Nat.le_refl _)).src ?_ ?_ ?_ ?_; (simp; omega); (unfold maxLen; simp; omega); exact HWE.out.size; intro va wa h1 h2; have HA := Lib.hid h1; clear h1; have HWA := Lib.hid (HWE.out.trans h2); clear h2)
      | (at_builtin; refine wpList_app_src Elem.u8 (encInt .u8) rfl (.tmp 48) (.tmp 49) rfl w2.heap.size _ ([] ++ xs) rfl HA.out _ _ (putL k) rfl rfl (src_own8 (HPO2.out.below HWA.out (Nat.le_refl _))) ?_ ?_ ?_ ?_; (have := HX.out.hlen; have := HLP.out; simp; omega); (have := HX.out.hlen; have := HLP.out; unfold maxLen; simp; omega); exact HWA.out.size; intro vb wb h1 h2; have HBB := Lib.hid h1; clear h1; have HWB := Lib.hid (HWA.out.trans h2); clear h2)
      | (at_builtin; refine wpList_app_src Elem.u8 (encInt .u8) rfl (.tmp 50) (.tmp 51) rfl w2.heap.size _ ([] ++ xs ++ putL k) rfl HBB.out _ l3 ys rfl HY.out.hlen (HY.out.below (Below.of _ _ _ HW2.out HWB.out) (Nat.le_refl _)).src ?_ ?_ ?_ ?_; (have := HX.out.hlen; have := HLP.out; simp; omega); (have := HX.out.hlen; have := HLP.out; unfold maxLen; simp; omega); exact HWB.out.size; intro vc wc h1 h2; have HWC := Lib.hid (HWB.out.trans h2); clear h2; obtain ⟨Ab, cb, hv, hb8, _⟩ := h1.s8 HBB1.out; subst hv; have HB8 := Lib.hid hb8; clear hb8 h1; have HWC' := Lib.hid (Below.of _ _ _ HW2.out HWC.out); have HE2 := Lib.hid (Own.made (encInt .u8) 5 wc wc.heap.size wc.heap.size 0 #[] rfl (Nat.le_refl _) (by unfold maxLen; omega) rfl); have HWE2 : Hid (Below wc.heap.size wc (wc.alloc (.cells #[] 5))) := Lib.hid ((Below.refl _ _).alloc (Nat.le_refl _) _); have HQC := Lib.hid (HQO.out.below HWC.out (Nat.le_refl _)); obtain ⟨lb, hlb⟩ : ∃ lb, lb = ([] ++ xs ++ putL k ++ ys).length := ⟨_, rfl⟩; rw [← hlb] at HB8; rw [← hlb]; have HLB := Lib.hid hlb; clear hlb)
      | (at_builtin; refine wpList_app_src Elem.u8 (encInt .u8) rfl (.tmp 53) (.tmp 54) rfl wc.heap.size _ [] rfl HE2.out _ l2 xs rfl HX.out.hlen (HX.out.below (Below.of _ _ _ HWC'.out HWE2.out) (Nat.le_refl _)).src ?_ ?_ ?_ ?_; (simp; omega); (unfold maxLen; simp; omega); exact HWE2.out.size; intro vd wd h1 h2; have HD := Lib.hid h1; clear h1; have HWD := Lib.hid (HWE2.out.trans h2); clear h2)
      | (at_builtin; refine wpList_app_src Elem.u8 (encInt .u8) rfl (.tmp 55) (.tmp 56) rfl wc.heap.size _ ([] ++ xs) rfl HD.out _ _ (putListL (sbs ss)) rfl rfl (src_own8 (HQC.out.below HWD.out (Nat.le_refl _))) ?_ ?_ ?_ ?_; (have := HX.out.hlen; have := HLQ.out; simp; omega); (have := HX.out.hlen; have := HLQ.out; unfold maxLen; simp; omega); exact HWD.out.size; intro ve we h1 h2; have HEE := Lib.hid h1; clear h1; have HWW := Lib.hid (HWD.out.trans h2); clear h2)
      | (at_builtin; refine wpList_app_src Elem.u8 (encInt .u8) rfl (.tmp 57) (.tmp 58) rfl wc.heap.size _ ([] ++ xs ++ putListL (sbs ss)) rfl HEE.out _ l3 ys rfl HY.out.hlen (HY.out.below (Below.of _ _ _ HWC'.out HWW.out) (Nat.le_refl _)).src ?_ ?_ ?_ ?_; (have := HX.out.hlen; have := HLQ.out; simp; omega); (have := HX.out.hlen; have := HLQ.out; unfold maxLen; simp; omega); exact HWW.out.size; intro vf wf h1 h2; have HWF := Lib.hid (HWW.out.trans h2); clear h2; obtain ⟨Ac, cc, hv, hc8, _⟩ := h1.s8 HBB2.out; subst hv; have HC8 := Lib.hid hc8; clear hc8 h1; obtain ⟨lc, hlc⟩ : ∃ lc, lc = ([] ++ xs ++ putListL (sbs ss) ++ ys).length := ⟨_, rfl⟩; rw [← hlc] at HC8; rw [← hlc]; have HLC := Lib.hid hlc; clear hlc))
    -- Get, GetList of the two
    have HWF' := Lib.hid (Below.of _ _ _ HWC'.out HWF.out)
    have hlb : lb ≤ 300 := by have := HLB.out; have := HX.out.hlen; have := HY.out.hlen; have := HLP.out; simp at *; omega
    have hlc : lc ≤ 30000 := by have := HLC.out; have := HX.out.hlen; have := HY.out.hlen; have := HLQ.out; simp at *; omega
    have hg1 : getL ([] ++ xs ++ putL k ++ ys) l2 = some (k, l2 + lp) := by
      have := getL_put xs ys k (by omega)
      rw [HX.out.hlen, ← HLP.out] at this
      rw [List.nil_append, List.append_assoc]; exact this
    have hg2 : getListL ([] ++ xs ++ putListL (sbs ss) ++ ys) l2 = some (sbs ss, l2 + lq) := by
      have := getListL_put xs ys (sbs ss) (by rw [length_sbs, HT.out.hlen]; omega) (fun s hs => by unfold sbs at hs; rw [List.mem_map] at hs; obtain ⟨a, ha, rfl⟩ := hs; rw [length_sb]; have := HSS.out a ha; omega)
      rw [HX.out.hlen, ← HLQ.out] at this
      rw [List.nil_append, List.append_assoc]; exact this
    have hg3 : getL ((putL k).take (lp - 1)) 0 = none := by rw [HLP.out]; exact getL_cut k (by omega) _ rfl
    have hg4 : getListL ((putListL (sbs ss)).take (lq - 1)) 0 = none := by
      rw [HLQ.out]
      exact getListL_cut (sbs ss) (by rw [length_sbs, HT.out.hlen]; omega) (fun s hs => by unfold sbs at hs; rw [List.mem_map] at hs; obtain ⟨a, ha, rfl⟩ := hs; rw [length_sb]; have := HSS.out a ha; omega) (fun s hs => by unfold sbs at hs; rw [List.mem_map] at hs; obtain ⟨a, _, rfl⟩ := hs; exact sb_bd a) _ rfl
    have HG1 := Lib.hid hg1; clear hg1
    have HG2 := Lib.hid hg2; clear hg2
    have HG3 := Lib.hid hg3; clear hg3
    have HG4 := Lib.hid hg4; clear hg4
    have hll := HT.out.hlen
    subst hll
    refine (get_is Ab lb cb l2 k (l2 + lp) _ wf ((HB8.out.below HWF.out (Nat.le_refl _)).mono HWF.out.size) (by omega) HG1.out).mono ?_
    rintro e wg ⟨rfl, h1⟩
    have HWG := Lib.hid h1; clear h1
    have HWG' := Lib.hid (Below.of _ _ _ HWF'.out HWG.out)
    go_wp2_with fail
    refine (getList_is Ac lc cc l2 (l2 + lq) _ (sbs ss) ss wg ((HC8.out.below HWG.out (Nat.le_refl _)).mono HWG.out.size) (by omega) (by omega) HG2.out (str_sbs ss)).mono ?_
    rintro e wh ⟨Am, cm, rfl, h1, h2⟩
    have HWH := Lib.hid h1; clear h1
    have HM := Lib.hid h2; clear h2
    have HWH' := Lib.hid (Below.of _ _ _ HWG'.out HWH.out)
    have hpe : ((lp : Int) == 0) = false := beq_eq_false_iff_ne.2 (by omega)
    have hqe : ((lq : Int) == 0) = false := beq_eq_false_iff_ne.2 (by omega)
    have hsp := run_less8 P lp cp hpl HP2.out.le
    have hsq := run_less8 Q lq cq hq0 HQ.out.le
    go_wp2_with fail
    have hwh2 : Below w2.heap.size w2 wh := HWC.out.trans ((HWF.out.trans ((HWG.out.trans (HWH.out.mono HWG.out.size)).mono HWF.out.size)).mono HWC.out.size)
    have HWH2 := Lib.hid hwh2; clear hwh2
    refine (get_not0 P (lp - 1) cp _ wh (((HP2.out.below HWH2.out (Nat.le_refl _)).mono HWH2.out.size).takeTo (lp - 1) (by omega)) HG3.out).mono ?_
    rintro e wi ⟨rfl, h1⟩
    have HWI := Lib.hid h1; clear h1
    have HWI' := Lib.hid (Below.of _ _ _ HWH'.out HWI.out)
    have HWI2 := Lib.hid (Below.of _ _ _ HWH2.out HWI.out)
    go_wp2_with fail
    refine (getList_not0 Q (lq - 1) cq _ wi (((HQ.out.below HWI2.out (Nat.le_refl _)).mono HWI2.out.size).takeTo (lq - 1) (by omega)) (by omega) HG4.out).mono ?_
    rintro e wj ⟨rfl, h1⟩
    have HWJ' := Lib.hid (Below.of _ _ _ HWI'.out h1)
    have hstj : ST wj wj.heap.size Am ss.length cm ss := (HM.out.below (Below.of _ _ _ HWI.out h1) (Nat.le_refl _)).mono (Below.of _ _ _ HWI.out h1).size
    have HMJ := Lib.hid hstj; clear hstj h1
    have hk1 : ((k : Int) == (k : Int)) = true := beq_self_eq_true _
    have hn1 : (((l2 + lp : Nat) : Int) == (l2 : Int) + (lp : Int)) = true := beq_iff_eq.2 (by omega)
    have hn2 : (((l2 + lq : Nat) : Int) == (l2 : Int) + (lq : Int)) = true := beq_iff_eq.2 (by omega)
    clear hsp hsq hpe hqe
    go_wp2_with fail
    refine (texts_same Am A1 ss.length cm c1 ss wj HMJ.out ((HT.out.below HWJ'.out (Nat.le_refl _)).mono HWJ'.out.size)).mono ?_
    rintro e wk ⟨rfl, nq, rfl⟩
    go_wp2_with fail
    refine (HF.out _ (below_drewN HWJ'.out nq)).mono ?_
    rintro e wl ⟨rfl, h1⟩
    have HWL := Lib.hid h1; clear h1
    go_wp2_with fail
    go_ret
    exact ⟨rfl, HWL.out⟩
end Go.Proofs.Ytlghholonjmeaaa
