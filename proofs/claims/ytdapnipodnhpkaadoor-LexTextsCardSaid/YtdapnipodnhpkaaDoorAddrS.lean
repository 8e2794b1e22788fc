/-
  Layer 3, the program: the reader's loops: a column's letters, a row's digits.
-/
import Derived.Test.YtdapnipodnhpkaaDoorAddrR
namespace Go.Proofs.YtdapnipodnhpkaaDoor
open Go.RowKit

theorem quiet_call {f : FuncId} {args : Array Value} {w : World} {n : Nat} {v : Value} (h : Calls Tryd.prog f args (w.drewN n) fun e w' => e = .returned v ∧ w.drewN n = w') : Calls Tryd.prog f args (w.drewN n) fun e w'' => e = .returned v ∧ ∃ m, w'' = w.drewN m :=
  Calls.quiet_of_same (h.mono fun _ _ ⟨a, b⟩ => ⟨a, b.symm⟩)
theorem RdAt.setNext {w : World} {b m p : Nat} {d : Rd} (h : RdAt w b { d with k := d.k + m }) (hp : d.k + m = p) (n : Nat) : RdAt ((w.drewN n).setCell ⟨b, 1, none⟩ (.int .i64 ((p : Int) + 1))) b { d with k := d.k + (m + 1) } := by
  subst hp; exact (h.drewN n).setK (d.k + m + 1)
theorem take_next (d : Rd) (m : Nat) (h : d.k + m < d.s.size) : d.rest.take (m + 1) = d.rest.take m ++ [((d.s[d.k + m].toNat : Nat) : Int)] := by
  unfold Rd.rest; rw [List.take_add_one, List.getElem?_drop, sb_at d.s _ h]; rfl
theorem length_rest (d : Rd) : d.rest.length = d.s.size - d.k := by unfold Rd.rest; rw [List.length_drop, length_sb]
theorem span_stop (p : Int → Bool) (l : List Int) (m : Nat) (h : ∀ x ∈ l.take m, p x = true) (h2 : ∀ x, l[m]? = some x → p x = false) : l.takeWhile p = l.take m := by
  have e := take_part p (l.take m) (l.drop m) h (fun x hx => h2 x (by rw [List.head?_drop] at hx; exact hx))
  rw [List.take_append_drop] at e; exact e
theorem span_over (p : Int → Bool) (l : List Int) (m : Nat) (h : ∀ x ∈ l.take m, p x = true) : l.takeWhile p = l.take m ++ (l.drop m).takeWhile p := by
  have e := take_more p (l.take m) (l.drop m) h
  rw [List.take_append_drop] at e; exact e
theorem all_snoc {p : Int → Bool} {l : List Int} {x : Int} (h : ∀ y ∈ l, p y = true) (hx : p x = true) : ∀ y ∈ l ++ [x], p y = true := by
  intro y hy; rw [List.mem_append] at hy
  rcases hy with hy | hy
  · exact h y hy
  · simp at hy; rw [hy]; exact hx

/-- What a column's letters say, an A as 1. -/
def colV (l : List Int) : Int := l.foldl (fun n x => 26 * n + (x - 64)) 0
theorem colV_snoc (l : List Int) (x : Int) : colV (l ++ [x]) = 26 * colV l + (x - 64) := by unfold colV; rw [List.foldl_append]; rfl
theorem col_small (l : List Int) (h : ∀ x ∈ l, isCap x = true) (hl : l.length ≤ 2) : colV l ≤ 702 ∧ (l = [] ∧ colV l = 0 ∧ isCol l = false ∨ 0 < colV l ∧ isCol l = true ∧ readColL l = colV l - 1) := by
  match l, hl, h with
  | [], _, _ => exact ⟨by decide, .inl ⟨rfl, rfl, rfl⟩⟩
  | [a], _, h =>
    have ha := h a (by simp)
    have := cap_bd ha
    have hv : colV [a] = a - 64 := by unfold colV; simp
    have hi : isCol [a] = true := by unfold isCol; simp [ha]
    refine ⟨by omega, .inr ⟨by omega, hi, ?_⟩⟩
    unfold readColL; rw [if_pos hi, hv]; simp; omega
  | [a, b], _, h =>
    have ha := h a (by simp)
    have hb := h b (by simp)
    have g1 := cap_bd ha
    have g2 := cap_bd hb
    have hv : colV [a, b] = 26 * (a - 64) + (b - 64) := by unfold colV; simp
    have hi : isCol [a, b] = true := by unfold isCol; simp [ha, hb]
    refine ⟨by omega, .inr ⟨by omega, hi, ?_⟩⟩
    unfold readColL; rw [if_pos hi, hv]; simp; omega
theorem isCol_long {l : List Int} (h : 2 < l.length) : isCol l = false := by unfold isCol; rw [decide_eq_false (by omega), Bool.false_and]
theorem rd_k (d : Rd) : ({ d with k := d.k + 0 } : Rd) = d := rfl

/-- The end of the letters. -/
theorem col_end (d : Rd) (m : Nat) (v : Int) (b : Nat) (w wr : World) (hv : colV (d.rest.take m) = v) (hall : ∀ x ∈ d.rest.take m, isCap x = true) (hm : m ≤ 2) (hk : d.k + m ≤ d.s.size) (hstop : ∀ x, d.rest[m]? = some x → isCap x = false) (e : Ending) (he : e = .returned (.bool (decide (0 < v))))
    (hr : RdAt wr b { { d with k := d.k + m } with c := v - 1 }) (hg : w.grownBy wr (some b)) : Part d.col b w e wr := by
  subst he
  have hsp := span_stop isCap d.rest m hall hstop
  have hlen : (d.rest.take m).length = m := by rw [List.length_take, length_rest]; omega
  refine ⟨hg, ?_⟩
  unfold Rd.col
  rw [hsp]
  rcases (col_small (d.rest.take m) hall (by omega)).2 with ⟨h1, h2, h3⟩ | ⟨h1, h2, h3⟩
  · rw [h3, if_neg (by simp)]
    exact .inr ⟨rfl, by rw [decide_eq_false (by omega)]⟩
  · rw [if_pos h2]
    refine .inl ⟨_, rfl, by rw [decide_eq_true (by omega)], ?_⟩
    rw [h3, hv, hlen]; exact hr

set_option maxRecDepth 100000 in
set_option maxHeartbeats 800000 in
theorem colPart_any (b : Nat) (d : Rd) (w : World) (h : RdAt w b d) (_hs : d.s.size ≤ 1000000) (_hk : d.k ≤ d.s.size) :
    Calls Tryd.prog 51 #[.pointer (some ⟨b, 0, none⟩)] w (Part d.col b w) := by
  have HR := Lib.hid h; clear h
  go_enter Tryd.func51, Tryd.ntmps51
  go_wp2_with fail
  go_loopw [3] (fun n wr => ∃ (m : Nat) (v : Int), n = .int .i64 v ∧ 0 ≤ v ∧ v ≤ 702 ∧ d.k + m ≤ d.s.size ∧ Hid (colV (d.rest.take m) = v ∧ (∀ x ∈ d.rest.take m, isCap x = true) ∧ m ≤ 2) ∧ Hid (RdAt wr b { d with k := d.k + m }) ∧ Hid (w.grownBy wr (some b)))
    (fun n _ => 800 - (intOf n).toNat)
  case atStart => exact ⟨0, 0, rfl, by omega, by omega, by omega, Lib.hid ⟨rfl, by simp, by omega⟩, Lib.hid HR.out, Lib.hid (grownBy.refl' _ _)⟩
  case round =>
    obtain ⟨m, v, rfl, hv0, hv1, hkm, HM, HRD, HG⟩ := hrel
    obtain ⟨c0, c1, c2, c3, c4, c5, c6⟩ := HRD.out.facts
    have f1 := HRD.out.frozen 1
    have f3 := HRD.out.frozen 3
    clear c2 c4 c5 c6
    simp only at c0 c1 c3
    obtain ⟨p, hp⟩ : ∃ p : Nat, d.k + m = p := ⟨_, rfl⟩
    rw [hp] at c1
    by_cases hlt : p < d.s.size
    · have hlt2 : (p : Int) < (d.s.size : Int) := by omega
      obtain ⟨a, ha⟩ : ∃ a : Int, (d.s[p].toNat : Int) = a := ⟨_, rfl⟩
      have ha1 : 0 ≤ a ∧ a ≤ 255 := by have := d.s[p].toNat_lt; omega
      have hnx : d.rest.take (m + 1) = d.rest.take m ++ [a] := by subst hp; rw [take_next d m hlt, ha]
      have hat : d.rest[m]? = some a := by subst hp; unfold Rd.rest; rw [List.getElem?_drop, sb_at d.s _ hlt, ha]
      have HNX := Lib.hid hnx; clear hnx
      have HAT := Lib.hid hat; clear hat
      have HP := Lib.hid hp; clear hp
      by_cases hc : isCap a = true
      · have hcb := cap_bd hc
        have hvn : colV (d.rest.take (m + 1)) = 26 * v + (a - 64) := by rw [HNX.out, colV_snoc, HM.out.1]
        have hall := all_snoc HM.out.2.1 hc
        rw [← HNX.out] at hall
        have HVN := Lib.hid hvn; clear hvn
        have HALL := Lib.hid hall; clear hall
        by_cases hbig : 702 < v * 26 + (a - 65) + 1
        · have hno : d.col = none := by
            have h2 : ¬ m + 1 ≤ 2 := by
              intro h2
              have := (col_small _ HALL.out (by rw [List.length_take]; omega)).1
              rw [HVN.out] at this; omega
            have h3 : isCol (d.rest.takeWhile isCap) = false := by
              apply isCol_long
              rw [span_over isCap d.rest (m + 1) HALL.out, List.length_append, List.length_take, length_rest]
              have := HP.out; omega
            unfold Rd.col; rw [h3]; rfl
          have HNO := Lib.hid hno; clear hno
          go_wp2_with fail
          go_quiet ((go_at_call 64; exact quiet_call (isCapital_any _ (by omega) (by omega) _)))
          go_wp2_with fail
          go_quiet (fail)
          go_wp2_with fail
          go_ret
          exact ⟨grownBy.drewN' HG.out _, .inr ⟨HNO.out, rfl⟩⟩
        · go_wp2_with fail
          go_quiet ((go_at_call 64; exact quiet_call (isCapital_any _ (by omega) (by omega) _)))
          go_wp2_with fail
          go_quiet (fail)
          go_wp2_with fail
          go_roundw
          case rel =>
            have hm2 : m + 1 ≤ 2 := by
              have h3 := HM.out.2.2
              by_cases h : m = 2
              · exfalso
                have hl : (d.rest.take m).length = 2 := by rw [List.length_take, length_rest]; have := HP.out; omega
                match hq : d.rest.take m, hl with
                | [x, y], _ =>
                  have h1 := HM.out.2.1
                  have h4 := HM.out.1
                  rw [hq] at h1 h4
                  have g1 := cap_bd (h1 x (by simp))
                  have g2 := cap_bd (h1 y (by simp))
                  have hv : colV [x, y] = 26 * (x - 64) + (y - 64) := by unfold colV; simp
                  omega
              · omega
            refine ⟨m + 1, v * 26 + (a - 65) + 1, rfl, by omega, by omega, by have := HP.out; omega, Lib.hid ⟨by rw [HVN.out]; omega, HALL.out, hm2⟩, Lib.hid ?_, Lib.hid (grownBy.setCell' (grownBy.drewN' HG.out _) _ _)⟩
            exact RdAt.setNext HRD.out HP.out _
          case measure => simp [intOf]; omega
      · have hc' : isCap a = false := by simpa using hc
        clear hc
        have hend := fun (e : Ending) (wz : World) => col_end d m v b w wz HM.out.1 HM.out.2.1 HM.out.2.2 hkm (fun x hx => by rw [HAT.out] at hx; injection hx with hx; rw [← hx]; exact hc') e
        have HEND := Lib.hid hend; clear hend
        go_wp2_with fail
        go_quiet ((go_at_call 64; exact quiet_call (isCapital_any _ (by omega) (by omega) _)))
        go_wp2_with fail
        go_ret
        exact HEND.out _ _ rfl ((HRD.out.drewN _).setC _) (grownBy.setCell' (grownBy.drewN' HG.out _) _ _)
    · have hlt2 : ¬ (p : Int) < (d.s.size : Int) := by omega
      have hend := fun (e : Ending) (wz : World) => col_end d m v b w wz HM.out.1 HM.out.2.1 HM.out.2.2 hkm (fun x hx => by have h1 := (List.getElem?_eq_some_iff.1 hx).1; rw [length_rest] at h1; omega) e
      have HEND := Lib.hid hend; clear hend
      clear hp
      go_wp2_with fail
      go_quiet (fail)
      go_wp2_with fail
      go_ret
      exact HEND.out _ _ rfl ((HRD.out.drewN _).setC _) (grownBy.setCell' (grownBy.drewN' HG.out _) _ _)

/-- The end of the digits. -/
theorem row_end (d : Rd) (m : Nat) (v : Int) (b : Nat) (w wr : World) (hv : valL (d.rest.take m) = v) (hall : ∀ x ∈ d.rest.take m, isNum x = true) (hz : m = 0 ∧ v = 0 ∨ 1 ≤ v ∧ d.rest.take m ≠ [] ∧ (d.rest.take m).head? ≠ some 48) (hv9 : v ≤ 999) (hk : d.k + m ≤ d.s.size) (hstop : ∀ x, d.rest[m]? = some x → isNum x = false) (e : Ending) (he : e = .returned (.bool (decide (0 < v))))
    (hr : RdAt wr b { { d with k := d.k + m } with r := v - 1 }) (hg : w.grownBy wr (some b)) : Part d.row b w e wr := by
  subst he
  have hsp := span_stop isNum d.rest m hall hstop
  have hlen : (d.rest.take m).length = m := by rw [List.length_take, length_rest]; omega
  refine ⟨hg, ?_⟩
  unfold Rd.row
  rw [hsp]
  rcases hz with ⟨h1, h2⟩ | ⟨h1, h2, h3⟩
  · have : isRow (d.rest.take m) = false := by rw [h1]; rfl
    rw [this, if_neg (by simp)]
    exact .inr ⟨rfl, by rw [decide_eq_false (by omega)]⟩
  · have : isRow (d.rest.take m) = true := by unfold isRow; rw [decide_eq_true_iff]; exact ⟨h2, h3, by omega⟩
    rw [if_pos this]
    refine .inl ⟨_, rfl, by rw [decide_eq_true (by omega)], ?_⟩
    rw [hv, hlen]; exact hr
theorem head_snoc {l : List Int} {x : Int} (h : l ≠ []) : (l ++ [x]).head? = l.head? := by cases l with | nil => exact absurd rfl h | cons a l => rfl

set_option maxRecDepth 100000 in
set_option maxHeartbeats 800000 in
theorem rowPart_any (b : Nat) (d : Rd) (w : World) (h : RdAt w b d) (_hs : d.s.size ≤ 1000000) (_hk : d.k ≤ d.s.size) :
    Calls Tryd.prog 53 #[.pointer (some ⟨b, 0, none⟩)] w (Part d.row b w) := by
  have HR := Lib.hid h; clear h
  go_enter Tryd.func53, Tryd.ntmps53
  go_wp2_with fail
  go_loopw [3] (fun n wr => ∃ (m : Nat) (v : Int), n = .int .i64 v ∧ 0 ≤ v ∧ v ≤ 999 ∧ d.k + m ≤ d.s.size ∧ Hid (valL (d.rest.take m) = v ∧ (∀ x ∈ d.rest.take m, isNum x = true) ∧ (m = 0 ∧ v = 0 ∨ 1 ≤ v ∧ d.rest.take m ≠ [] ∧ (d.rest.take m).head? ≠ some 48)) ∧ Hid (RdAt wr b { d with k := d.k + m }) ∧ Hid (w.grownBy wr (some b)))
    (fun n _ => 1200 - (intOf n).toNat)
  case atStart => exact ⟨0, 0, rfl, by omega, by omega, by omega, Lib.hid ⟨rfl, by simp, .inl ⟨rfl, rfl⟩⟩, Lib.hid HR.out, Lib.hid (grownBy.refl' _ _)⟩
  case round =>
    obtain ⟨m, v, rfl, hv0, hv1, hkm, HM, HRD, HG⟩ := hrel
    obtain ⟨c0, c1, c2, c3, c4, c5, c6⟩ := HRD.out.facts
    have f1 := HRD.out.frozen 1
    have f4 := HRD.out.frozen 4
    clear c2 c3 c5 c6
    simp only at c0 c1 c4
    obtain ⟨p, hp⟩ : ∃ p : Nat, d.k + m = p := ⟨_, rfl⟩
    rw [hp] at c1
    by_cases hlt : p < d.s.size
    · have hlt2 : (p : Int) < (d.s.size : Int) := by omega
      obtain ⟨a, ha⟩ : ∃ a : Int, (d.s[p].toNat : Int) = a := ⟨_, rfl⟩
      have ha1 : 0 ≤ a ∧ a ≤ 255 := by have := d.s[p].toNat_lt; omega
      have hnx : d.rest.take (m + 1) = d.rest.take m ++ [a] := by subst hp; rw [take_next d m hlt, ha]
      have hat : d.rest[m]? = some a := by subst hp; unfold Rd.rest; rw [List.getElem?_drop, sb_at d.s _ hlt, ha]
      have HNX := Lib.hid hnx; clear hnx
      have HAT := Lib.hid hat; clear hat
      have HP := Lib.hid hp; clear hp
      by_cases hc : isNum a = true
      · have hcb := num_bd hc
        have hvn : valL (d.rest.take (m + 1)) = 10 * v + (a - 48) := by rw [HNX.out, valL_snoc, HM.out.1]
        have hall := all_snoc HM.out.2.1 hc
        rw [← HNX.out] at hall
        have HVN := Lib.hid hvn; clear hvn
        have HALL := Lib.hid hall; clear hall
        by_cases hbad : v * 10 + (a - 48) = 0 ∨ 999 < v * 10 + (a - 48)
        · have hno : d.row = none := by
            have h3 : isRow (d.rest.takeWhile isNum) = false := by
              rw [span_over isNum d.rest (m + 1) HALL.out]
              unfold isRow; rw [decide_eq_false_iff_not]
              rintro ⟨_, h2, h3⟩
              rcases hbad with h | h
              · rcases HM.out.2.2 with ⟨hm0, _⟩ | ⟨hm1, _⟩
                · apply h2; rw [HNX.out, hm0]; simp; omega
                · omega
              · have := valL_ge ((d.rest.drop (m + 1)).takeWhile isNum) (d.rest.take (m + 1)) (take_all isNum _) (by rw [HVN.out]; omega)
                rw [HVN.out] at this; omega
            unfold Rd.row; rw [h3]; rfl
          have HNO := Lib.hid hno; clear hno
          by_cases hz : v * 10 + (a - 48) = 0
          · have hzb : (v * 10 + (a - 48) == 0) = true := beq_iff_eq.2 hz
            clear hbad hz
            go_wp2_with fail
            go_quiet ((go_at_call 65; exact quiet_call (isDigit_any _ (by omega) (by omega) _)))
            go_wp2_with fail
            go_quiet (fail)
            go_wp2_with fail
            go_ret
            exact ⟨grownBy.drewN' HG.out _, .inr ⟨HNO.out, rfl⟩⟩
          · have hzb : (v * 10 + (a - 48) == 0) = false := beq_eq_false_iff_ne.2 hz
            have h9 : 999 < v * 10 + (a - 48) := by omega
            clear hbad hz
            go_wp2_with fail
            go_quiet ((go_at_call 65; exact quiet_call (isDigit_any _ (by omega) (by omega) _)))
            go_wp2_with fail
            go_quiet (fail)
            go_wp2_with fail
            go_ret
            exact ⟨grownBy.drewN' HG.out _, .inr ⟨HNO.out, rfl⟩⟩
        · have hz : ¬ v * 10 + (a - 48) = 0 := by omega
          have hzb : (v * 10 + (a - 48) == 0) = false := beq_eq_false_iff_ne.2 hz
          have h9 : ¬ 999 < v * 10 + (a - 48) := by omega
          have h9' : v * 10 + (a - 48) ≤ 999 := by omega
          have h1' : 1 ≤ v * 10 + (a - 48) := by omega
          clear hbad hz
          go_wp2_with fail
          go_quiet ((go_at_call 65; exact quiet_call (isDigit_any _ (by omega) (by omega) _)))
          go_wp2_with fail
          go_quiet (fail)
          go_wp2_with fail
          go_roundw
          case rel =>
            refine ⟨m + 1, v * 10 + (a - 48), rfl, by omega, by omega, by have := HP.out; omega, Lib.hid ⟨by rw [HVN.out]; omega, HALL.out, .inr ⟨by omega, ?_, ?_⟩⟩, Lib.hid ?_, Lib.hid (grownBy.setCell' (grownBy.drewN' HG.out _) _ _)⟩
            · rw [HNX.out]; simp
            · rw [HNX.out]
              rcases HM.out.2.2 with ⟨hm0, hm1⟩ | ⟨_, h2, h3⟩
              · rw [hm0]; simp; omega
              · rw [head_snoc h2]; exact h3
            · exact RdAt.setNext HRD.out HP.out _
          case measure => simp [intOf]; omega
      · have hc' : isNum a = false := by simpa using hc
        clear hc
        have hend := fun (e : Ending) (wz : World) => row_end d m v b w wz HM.out.1 HM.out.2.1 HM.out.2.2 hv1 hkm (fun x hx => by rw [HAT.out] at hx; injection hx with hx; rw [← hx]; exact hc') e
        have HEND := Lib.hid hend; clear hend
        go_wp2_with fail
        go_quiet ((go_at_call 65; exact quiet_call (isDigit_any _ (by omega) (by omega) _)))
        go_wp2_with fail
        go_ret
        exact HEND.out _ _ rfl ((HRD.out.drewN _).setR _) (grownBy.setCell' (grownBy.drewN' HG.out _) _ _)
    · have hlt2 : ¬ (p : Int) < (d.s.size : Int) := by omega
      have hend := fun (e : Ending) (wz : World) => row_end d m v b w wz HM.out.1 HM.out.2.1 HM.out.2.2 hv1 hkm (fun x hx => by have h1 := (List.getElem?_eq_some_iff.1 hx).1; rw [length_rest] at h1; omega) e
      have HEND := Lib.hid hend; clear hend
      clear hp
      go_wp2_with fail
      go_quiet (fail)
      go_wp2_with fail
      go_ret
      exact HEND.out _ _ rfl ((HRD.out.drewN _).setR _) (grownBy.setCell' (grownBy.drewN' HG.out _) _ _)
end Go.Proofs.YtdapnipodnhpkaaDoor
