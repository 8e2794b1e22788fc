/-
  Layer 4, the program: texts.
-/
import Derived.Test.YtdapnipodnhpkaaDoorLexE
import Derived.Test.YtdapnipodnhpkaaDoorOwnS
namespace Go.Proofs.YtdapnipodnhpkaaDoor
open Go.RowKit

/-- A text's bytes so far, and what is still to be read. -/
def QuoSt (s : ByteArray) (k p : Nat) (xs : List Int) : Prop := quoF (restL s (k + 1)) = (quoF (restL s p)).map fun q => (xs ++ q.1, p - (k + 1) + q.2)
theorem restL_cons (s : ByteArray) (p : Nat) (h : p < s.size) : restL s p = ((s[p].toNat : Nat) : Int) :: restL s (p + 1) := by
  unfold restL
  rw [List.drop_eq_getElem_cons (by rw [length_sb]; exact h)]
  congr 1
  have := sb_at s p h
  rw [List.getElem?_eq_getElem (by rw [length_sb]; exact h)] at this
  exact Option.some.inj this
theorem restL_nil (s : ByteArray) (p : Nat) (h : s.size ≤ p) : restL s p = [] := by
  apply List.eq_nil_of_length_eq_zero; rw [length_restL]; omega
theorem quo_end {s : ByteArray} {k p : Nat} {xs : List Int} (h : QuoSt s k p xs) (hp : s.size ≤ p) : quoT (restL s (k + 1)) = none := by
  unfold QuoSt at h; unfold quoT; rw [h, restL_nil s p hp]; rfl
theorem quo_low {s : ByteArray} {k p : Nat} {xs : List Int} (h : QuoSt s k p xs) (hp : p < s.size) (hc : ((s[p].toNat : Nat) : Int) < 32) : quoT (restL s (k + 1)) = none := by
  unfold QuoSt at h; unfold quoT; rw [h, restL_cons s p hp, quoF_cons, if_pos hc]; rfl
theorem quo_next {s : ByteArray} {k p : Nat} {xs : List Int} {a : Int} (h : QuoSt s k p xs) (hk : k + 1 ≤ p) (hp : p < s.size) (ha : ((s[p].toNat : Nat) : Int) = a) (h1 : ¬ a < 32) (h2 : ¬ a = 34) : QuoSt s k (p + 1) (xs ++ [a]) := by
  unfold QuoSt at h ⊢
  rw [h, restL_cons s p hp, quoF_cons, ha, if_neg h1, if_pos h2]
  cases quoF (restL s (p + 1)) with
  | none => rfl
  | some q =>
    simp only [Option.map_some, Option.some.injEq, Prod.mk.injEq, List.append_assoc, List.cons_append, List.nil_append, true_and]; omega
theorem quo_two {s : ByteArray} {k p : Nat} {xs : List Int} (h : QuoSt s k p xs) (hk : k + 1 ≤ p) (hp : p < s.size) (ha : ((s[p].toNat : Nat) : Int) = 34) (hp2 : p + 1 < s.size) (ha2 : ((s[p + 1].toNat : Nat) : Int) = 34) : QuoSt s k (p + 1 + 1) (xs ++ [34]) := by
  unfold QuoSt at h ⊢
  rw [h, restL_cons s p hp, restL_cons s (p + 1) hp2, quoF_cons, ha, ha2, if_neg (by omega), if_neg (by omega)]
  simp only [if_true]
  cases quoF (restL s (p + 1 + 1)) with
  | none => rfl
  | some q =>
    simp only [Option.map_some, Option.some.injEq, Prod.mk.injEq, List.append_assoc, List.cons_append, List.nil_append, true_and]; omega
theorem quo_last {s : ByteArray} {k p : Nat} {xs : List Int} (h : QuoSt s k p xs) (hk : k + 1 ≤ p) (hp : p < s.size) (ha : ((s[p].toNat : Nat) : Int) = 34) (h2 : ∀ h : p + 1 < s.size, ¬ ((s[p + 1].toNat : Nat) : Int) = 34) :
    quoT (restL s (k + 1)) = some ({ Tk.zero with kind := 2, text := strOfNums xs }, p + 1 - k) := by
  unfold QuoSt at h
  have hq : quoF (restL s p) = some ([], 1) := by
    rw [restL_cons s p hp, quoF_cons, ha, if_neg (by omega), if_neg (by omega)]
    by_cases hp2 : p + 1 < s.size
    · rw [restL_cons s (p + 1) hp2]
      simp only [if_neg (h2 hp2)]
    · rw [restL_nil s (p + 1) (by omega)]
  unfold quoT
  rw [h, hq]
  simp only [Option.map_some, List.append_nil, Option.some.injEq, Prod.mk.injEq, true_and]; omega

theorem grownBy.below1 {a w w' : World} {r : Option Nat} (h : a.grownBy w r) (k : Below (a.heap.size + 1) w w') : a.grownBy w' r :=
  ⟨k.os.trans h.os, k.tape.trans h.tape, k.output.trans h.output, Nat.le_trans h.size k.size, fun j hj hr => (k.block j (by omega)).trans (h.block j hj hr)⟩
theorem res_quoted : Tryd.f30.results = #[.cell 2 34, .tmp 3] := by kernel_rfl
set_option maxRecDepth 100000 in
set_option maxHeartbeats 4000000 in
theorem quoted_any (b : Nat) (s : ByteArray) (k : Nat) (w : World) (h : LxAt w b s k) (_hs : s.size ≤ 1000000) (_hk : k < s.size) :
    Calls Tryd.prog 30 #[.pointer (some ⟨b, 0, none⟩)] w (TokOut (quoT (restL s (k + 1))) b s k w) := by
  have hlt := h.lt
  have hw0 : w.heap.size ≠ b := by omega
  have hbB : b < w.heap.size + 1 := by omega
  obtain ⟨c0, c1⟩ := h.tok.facts
  have f1 := h.tok.frozen 1
  have hHAL : w.grownBy ((w.setCell ⟨b, 1, none⟩ (.int .i64 ((k : Int) + 1))).alloc (.cells zTok 34)) (some b) := grownBy.below' (grownBy.setCell' (grownBy.refl' _ _) _ _) ((Below.refl _ _).alloc (Nat.le_refl _) _)
  have HAL := Lib.hid hHAL; clear hHAL
  have hTK := TkAt.zero (w.setCell ⟨b, 1, none⟩ (.int .i64 ((k : Int) + 1)))
  rw [show (w.setCell ⟨b, 1, none⟩ (.int .i64 ((k : Int) + 1))).heap.size = w.heap.size by simp] at hTK
  have HTK := Lib.hid hTK; clear hTK
  have HLX := Lib.hid (h.setNext.tok); clear h
  go_enter Tryd.func30, Tryd.ntmps30
  go_wp2_with fail
  clear c0 c1 f1
  go_loopw [4] (fun v wr => ∃ (p : Nat) (xs : List Int), k + 1 ≤ p ∧ p ≤ s.size ∧ xs.length ≤ p ∧ Hid (Bytes xs) ∧ Hid (QuoSt s k p xs) ∧ Hid (LxAt wr b s p) ∧ Hid (Own8 wr (w.heap.size + 1) v xs) ∧ Hid (TkAt wr w.heap.size Tk.zero) ∧ Hid (w.grownBy wr (some b)))
    (fun _ wr => lxm b s.size wr)
  case atStart =>
    refine ⟨k + 1, [], by omega, by omega, by simp, Lib.hid Bytes.nil, Lib.hid ?_, HLX, Lib.hid (Own.nil _ _ _ _), HTK, HAL⟩
    unfold QuoSt
    cases quoF (restL s (k + 1)) with
    | none => rfl
    | some q => simp
  case round =>
    obtain ⟨p, xs, hkp, hps, hxl, HBY, HQ, HR, HO, HT, HG⟩ := hrel
    clear HAL HTK HLX
    have hmeas := HR.out.lxm s.size
    have HME := Lib.hid hmeas; clear hmeas
    obtain ⟨c0, c1⟩ := HR.out.facts
    have f1 := HR.out.frozen 1
    by_cases hlt : p < s.size
    · have hlt2 : (p : Int) < (s.size : Int) := by omega
      obtain ⟨a, ha⟩ : ∃ a : Int, (s[p].toNat : Int) = a := ⟨_, rfl⟩
      have ha1 : 0 ≤ a ∧ a ≤ 255 := by have := s[p].toNat_lt; omega
      by_cases hlow : a < 32
      · have HN := Lib.hid (quo_low HQ.out hlt (by rw [ha]; exact hlow))
        go_wp2_with fail
        go_quiet (fail)
        have HR1 := Lib.hid (HR.out.drewN nq); have HO1 := Lib.hid (HO.out.drewN nq); have HT1 := Lib.hid (HT.out.drewN nq); have HG1 := Lib.hid (grownBy.drewN' HG.out nq)
        generalize wr.drewN nq = w1 at HR1 HO1 HT1 HG1 ⊢
        clear c0 c1 f1 HR HO HT HG
        obtain ⟨c0, c1⟩ := HR1.out.facts
        have f1 := HR1.out.frozen 1
        go_wp2_with fail
        go_quiet (fail)
        have HR2 := Lib.hid (HR1.out.drewN nq); have HO2 := Lib.hid (HO1.out.drewN nq); have HT2 := Lib.hid (HT1.out.drewN nq); have HG2 := Lib.hid (grownBy.drewN' HG1.out nq)
        generalize w1.drewN nq = w2 at HR2 HO2 HT2 HG2 ⊢
        clear c0 c1 f1 HR1 HO1 HT1 HG1
        obtain ⟨c0, c1⟩ := HR2.out.facts
        have f1 := HR2.out.frozen 1
        obtain ⟨x0, x1, x2, x3, x4, x5, x6, x7, x8⟩ := HT2.out.cells
        obtain ⟨g0, g1, g2, g3, g4, g5, g6, g7, g8⟩ := HT2.out.melts
        go_wp2_with fail
        exact bodyPost_ret (out_tok (HT2.out.put9 Tk.zero) _ _ false 2 3 res_quoted rfl rfl) rfl ⟨grownBy.set9 HG2.out (Nat.le_refl _) _ _ _ _ _ _ _ _ _, .inr ⟨HN.out, Tk.zero, rfl⟩⟩
      · by_cases h34 : a = 34
        · have hb34 : (a == 34) = true := beq_iff_eq.2 h34
          obtain ⟨q, hq⟩ : ∃ q : Nat, p + 1 = q := ⟨_, rfl⟩
          go_wp2_with fail
          go_quiet (fail)
          have HR1 := Lib.hid (HR.out.drewN nq); have HO1 := Lib.hid (HO.out.drewN nq); have HT1 := Lib.hid (HT.out.drewN nq); have HG1 := Lib.hid (grownBy.drewN' HG.out nq)
          generalize wr.drewN nq = w1 at HR1 HO1 HT1 HG1 ⊢
          clear c0 c1 f1 HR HO HT HG
          obtain ⟨c0, c1⟩ := HR1.out.facts
          have f1 := HR1.out.frozen 1
          go_wp2_with fail
          go_quiet (fail)
          have HR2 := Lib.hid (HR1.out.drewN nq); have HO2 := Lib.hid (HO1.out.drewN nq); have HT2 := Lib.hid (HT1.out.drewN nq); have HG2 := Lib.hid (grownBy.drewN' HG1.out nq)
          generalize w1.drewN nq = w2 at HR2 HO2 HT2 HG2 ⊢
          clear c0 c1 f1 HR1 HO1 HT1 HG1
          obtain ⟨c0, c1⟩ := HR2.out.facts
          have f1 := HR2.out.frozen 1
          go_upto_region 10 with (fail)
          have HR3 := Lib.hid (HR2.out.setNext); have HO3 := Lib.hid (Own.other HO2.out (grownBy.setCell' (grownBy.refl' _ _) _ _) hbB : Own8 (w2.setCell ⟨b, 1, none⟩ (.int .i64 ((p : Int) + 1))) _ _ _); have HT3 := Lib.hid (HT2.out.grown (grownBy.setCell' (grownBy.refl' _ _) 1 (.int .i64 ((p : Int) + 1))) hw0); have HG3 := Lib.hid (grownBy.setCell' HG2.out 1 (.int .i64 ((p : Int) + 1)))
          generalize w2.setCell ⟨b, 1, none⟩ (.int .i64 ((p : Int) + 1)) = w3 at HR3 HO3 HT3 HG3 ⊢
          clear c0 c1 f1 HR2 HO2 HT2 HG2
          obtain ⟨c0, c1⟩ := HR3.out.facts
          have f1 := HR3.out.frozen 1
          have HR3' := Lib.hid (show LxAt w3 b s q by rw [← hq]; exact HR3.out)
          clear c0 c1 HR3
          have HR3 := HR3'; clear HR3'
          obtain ⟨c0, c1⟩ := HR3.out.facts
          have HQP := Lib.hid hq
          by_cases hlt3 : q < s.size
          · have hlt4 : ((q : Int) == (s.size : Int)) = false := beq_eq_false_iff_ne.2 (by omega)
            have hlt5 : (q : Int) < (s.size : Int) := by omega
            obtain ⟨a2, ha2⟩ : ∃ a2 : Int, (s[q].toNat : Int) = a2 := ⟨_, rfl⟩
            have ha21 : 0 ≤ a2 ∧ a2 ≤ 255 := by have := s[q].toNat_lt; omega
            by_cases h342 : a2 = 34
            · have hb342 : (a2 == 34) = true := beq_iff_eq.2 h342
              have HQ2 := Lib.hid (show QuoSt s k (q + 1) (xs ++ [34]) by subst hq; exact quo_two HQ.out hkp hlt (by rw [ha, h34]) hlt3 (by rw [ha2, h342]))
              clear HQ hq
              go_quiet (fail)
              have HR4 := Lib.hid (HR3.out.drewN nq); have HO4 := Lib.hid (HO3.out.drewN nq); have HT4 := Lib.hid (HT3.out.drewN nq); have HG4 := Lib.hid (grownBy.drewN' HG3.out nq)
              generalize w3.drewN nq = w4 at HR4 HO4 HT4 HG4 ⊢
              clear c0 c1 f1 HR3 HO3 HT3 HG3
              obtain ⟨c0, c1⟩ := HR4.out.facts
              have f1 := HR4.out.frozen 1
              go_wp2_with (at_builtin; refine wpList_app Elem.u8 (encInt .u8) rfl (.tmp 76) (.tmp 78) rfl (w.heap.size + 1) _ _ rfl (HO4.out.alloc _) ⟨_, 0, none⟩ 1 1 [34] rfl rfl ?_ ?_ ?_ ?_ ?_; exact cells_new _ _ _ rfl; omega; (unfold maxLen; omega); (have := HT4.out.lt; simp <;> omega); intro v' wz h1 h2; have HOz := Lib.hid h1; have HBz := Lib.hid (((Below.refl (w.heap.size + 1) _).alloc (by have := HT4.out.lt; omega) _).trans h2); clear h1 h2; have HRz := Lib.hid (HR4.out.below HBz.out hbB); have HTz := Lib.hid (HT4.out.below HBz.out (Nat.lt_succ_self _)); have HGz := Lib.hid (grownBy.below1 HG4.out HBz.out); clear HR4 HO4 HT4 HG4 c0 c1 f1; obtain ⟨c0, c1⟩ := HRz.out.facts; have f1 := HRz.out.frozen 1)
              go_roundw
              case rel =>
                refine ⟨q + 1, xs ++ [34], by have := HQP.out; omega, by omega, by have := HQP.out; simp; omega, Lib.hid (HBY.out.append (by intro x hx; simp at hx; omega)), HQ2, Lib.hid HRz.out.setNext, Lib.hid (Own.other HOz.out (grownBy.setCell' (grownBy.refl' _ _) _ _) hbB), Lib.hid (HTz.out.grown (grownBy.setCell' (grownBy.refl' _ _) _ _) hw0), Lib.hid (grownBy.setCell' HGz.out _ _)⟩
              case measure =>
                have h1 := HRz.out.setNext.lxm s.size
                have h2 := HQP.out
                rw [HME.out]
                exact Nat.lt_of_le_of_lt (Nat.le_of_eq h1) (by omega)
            · have hb342 : (a2 == 34) = false := beq_eq_false_iff_ne.2 h342
              have HN := Lib.hid (show quoT (restL s (k + 1)) = some ({ Tk.zero with kind := 2, text := strOfNums xs }, q - k) by subst hq; exact quo_last HQ.out hkp hlt (by rw [ha, h34]) (fun h => by rw [ha2]; exact h342))
              clear HQ hq
              go_quiet (fail)
              have HR4 := Lib.hid (HR3.out.drewN nq); have HO4 := Lib.hid (HO3.out.drewN nq); have HT4 := Lib.hid (HT3.out.drewN nq); have HG4 := Lib.hid (grownBy.drewN' HG3.out nq)
              generalize w3.drewN nq = w4 at HR4 HO4 HT4 HG4 ⊢
              clear c0 c1 f1 HR3 HO3 HT3 HG3
              obtain ⟨c0, c1⟩ := HR4.out.facts
              have f1 := HR4.out.frozen 1
              have hconv := run_str8 HO4.out
              obtain ⟨x0, x1, x2, x3, x4, x5, x6, x7, x8⟩ := HT4.out.cells
              obtain ⟨g0, g1, g2, g3, g4, g5, g6, g7, g8⟩ := HT4.out.melts
              go_wp2_with fail
              exact bodyPost_ret (out_tok (HT4.out.put9 { Tk.zero with kind := 2, text := strOfNums xs }) _ _ true 2 3 res_quoted rfl rfl) rfl ⟨grownBy.set9 HG4.out (Nat.le_refl _) _ _ _ _ _ _ _ _ _, .inl ⟨_, _, HN.out, rfl, by rw [show k + (q - k) = q from by have := HQP.out; omega]; exact HR4.out.set9 hw0 _ _ _ _ _ _ _ _ _⟩⟩
          · have hlt4 : ((q : Int) == (s.size : Int)) = true := beq_iff_eq.2 (by omega)
            have HN := Lib.hid (show quoT (restL s (k + 1)) = some ({ Tk.zero with kind := 2, text := strOfNums xs }, q - k) by subst hq; exact quo_last HQ.out hkp hlt (by rw [ha, h34]) (fun h => absurd h hlt3))
            clear HQ hq
            go_quiet (fail)
            have HR4 := Lib.hid (HR3.out.drewN nq); have HO4 := Lib.hid (HO3.out.drewN nq); have HT4 := Lib.hid (HT3.out.drewN nq); have HG4 := Lib.hid (grownBy.drewN' HG3.out nq)
            generalize w3.drewN nq = w4 at HR4 HO4 HT4 HG4 ⊢
            clear c0 c1 f1 HR3 HO3 HT3 HG3
            obtain ⟨c0, c1⟩ := HR4.out.facts
            have f1 := HR4.out.frozen 1
            have hconv := run_str8 HO4.out
            obtain ⟨x0, x1, x2, x3, x4, x5, x6, x7, x8⟩ := HT4.out.cells
            obtain ⟨g0, g1, g2, g3, g4, g5, g6, g7, g8⟩ := HT4.out.melts
            go_wp2_with fail
            exact bodyPost_ret (out_tok (HT4.out.put9 { Tk.zero with kind := 2, text := strOfNums xs }) _ _ true 2 3 res_quoted rfl rfl) rfl ⟨grownBy.set9 HG4.out (Nat.le_refl _) _ _ _ _ _ _ _ _ _, .inl ⟨_, _, HN.out, rfl, by rw [show k + (q - k) = q from by have := HQP.out; omega]; exact HR4.out.set9 hw0 _ _ _ _ _ _ _ _ _⟩⟩
        · have hb34 : (a == 34) = false := beq_eq_false_iff_ne.2 h34
          have HQ2 := Lib.hid (quo_next HQ.out hkp hlt ha hlow h34)
          clear HQ
          go_wp2_with fail
          go_quiet (fail)
          have HR1 := Lib.hid (HR.out.drewN nq); have HO1 := Lib.hid (HO.out.drewN nq); have HT1 := Lib.hid (HT.out.drewN nq); have HG1 := Lib.hid (grownBy.drewN' HG.out nq)
          generalize wr.drewN nq = w1 at HR1 HO1 HT1 HG1 ⊢
          clear c0 c1 f1 HR HO HT HG
          obtain ⟨c0, c1⟩ := HR1.out.facts
          have f1 := HR1.out.frozen 1
          go_wp2_with fail
          go_quiet (fail)
          have HR2 := Lib.hid (HR1.out.drewN nq); have HO2 := Lib.hid (HO1.out.drewN nq); have HT2 := Lib.hid (HT1.out.drewN nq); have HG2 := Lib.hid (grownBy.drewN' HG1.out nq)
          generalize w1.drewN nq = w2 at HR2 HO2 HT2 HG2 ⊢
          clear c0 c1 f1 HR1 HO1 HT1 HG1
          obtain ⟨c0, c1⟩ := HR2.out.facts
          have f1 := HR2.out.frozen 1
          go_wp2_with (at_builtin; refine wpList_app Elem.u8 (encInt .u8) rfl (.tmp 76) (.tmp 78) rfl (w.heap.size + 1) _ _ rfl (HO2.out.alloc _) ⟨_, 0, none⟩ 1 1 [a] rfl rfl ?_ ?_ ?_ ?_ ?_; exact cells_new _ _ _ rfl; omega; (unfold maxLen; omega); (have := HT2.out.lt; simp <;> omega); intro v' wz h1 h2; have HOz := Lib.hid h1; have HBz := Lib.hid (((Below.refl (w.heap.size + 1) _).alloc (by have := HT2.out.lt; omega) _).trans h2); clear h1 h2; have HRz := Lib.hid (HR2.out.below HBz.out hbB); have HTz := Lib.hid (HT2.out.below HBz.out (Nat.lt_succ_self _)); have HGz := Lib.hid (grownBy.below1 HG2.out HBz.out); clear HR2 HO2 HT2 HG2 c0 c1 f1; obtain ⟨c0, c1⟩ := HRz.out.facts; have f1 := HRz.out.frozen 1)
          go_roundw
          case rel =>
            refine ⟨p + 1, xs ++ [a], by omega, by omega, by simp; omega, Lib.hid (HBY.out.append (by intro x hx; simp at hx; omega)), HQ2, Lib.hid HRz.out.setNext, Lib.hid (Own.other HOz.out (grownBy.setCell' (grownBy.refl' _ _) _ _) hbB), Lib.hid (HTz.out.grown (grownBy.setCell' (grownBy.refl' _ _) _ _) hw0), Lib.hid (grownBy.setCell' HGz.out _ _)⟩
          case measure =>
            have h1 := HRz.out.setNext.lxm s.size
            rw [HME.out]
            exact Nat.lt_of_le_of_lt (Nat.le_of_eq h1) (by omega)
    · have hlt2 : ¬ (p : Int) < (s.size : Int) := by omega
      have HN := Lib.hid (quo_end HQ.out (by omega))
      go_wp2_with fail
      go_quiet (fail)
      have HR1 := Lib.hid (HR.out.drewN nq); have HO1 := Lib.hid (HO.out.drewN nq); have HT1 := Lib.hid (HT.out.drewN nq); have HG1 := Lib.hid (grownBy.drewN' HG.out nq)
      generalize wr.drewN nq = w1 at HR1 HO1 HT1 HG1 ⊢
      clear c0 c1 f1 HR HO HT HG
      obtain ⟨c0, c1⟩ := HR1.out.facts
      have f1 := HR1.out.frozen 1
      obtain ⟨x0, x1, x2, x3, x4, x5, x6, x7, x8⟩ := HT1.out.cells
      obtain ⟨g0, g1, g2, g3, g4, g5, g6, g7, g8⟩ := HT1.out.melts
      go_wp2_with fail
      exact bodyPost_ret (out_tok (HT1.out.put9 Tk.zero) _ _ false 2 3 res_quoted rfl rfl) rfl ⟨grownBy.set9 HG1.out (Nat.le_refl _) _ _ _ _ _ _ _ _ _, .inr ⟨HN.out, Tk.zero, rfl⟩⟩
end Go.Proofs.YtdapnipodnhpkaaDoor
