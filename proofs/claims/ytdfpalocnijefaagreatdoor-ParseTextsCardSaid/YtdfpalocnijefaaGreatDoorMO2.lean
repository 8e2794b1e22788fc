/-
  Texts of layers, put together.
-/
import Derived.Test.YtdfpalocnijefaaGreatDoorMO1
import Derived.Shelf.Small.Strs
import Derived.Shelf.Strconv.Atoi
import Derived.Shelf.Strconv.Itoa0
import Derived.Shelf.Strconv.Itoa1
import Derived.Shelf.LaysM
import Derived.Shelf.Strconv.Itoa2
import Derived.Shelf.Strconv.Itoa3
import Derived.Shelf.Strconv.AtoiErrFast
import Derived.Shelf.Strconv.ParseIntEmpty
import Derived.Shelf.Strconv.AtoiFail
import Derived.Shelf.Strconv.Clone
import Derived.Shelf.Strconv.SyntaxError
import Derived.Shelf.LaysC
import Derived.Shelf.Strconv.ToError
import Derived.Shelf.Strconv.Lower
import Derived.Shelf.Strconv.ParseUint10
import Derived.Shelf.Strconv.ParseUint10Empty
import Derived.Shelf.Strconv.ParseUint10Any
import Derived.Shelf.Strconv.ParseInt10
import Derived.Shelf.Strconv.AtoiLong
import Derived.Shelf.Strconv.AtoiInnerAll
import Derived.Shelf.Strconv.RangeError
import Derived.Shelf.Strconv.ToErrorRange
import Derived.Shelf.Strconv.AtoiAll
import Derived.Shelf.Strconv.ErrVarAll
import Derived.Shelf.Strings.Search1
import Derived.Shelf.Strings.Search2
import Derived.Shelf.Strings.Prefix
import Derived.Shelf.Unicode.DecodeSlow
import Derived.Test.YtdfpalocnijefaaGreatDoorProg
import Derived.Laws.ResultCell
import Derived.Deep.AppendSrc
/-
  Layer 3, the program: the reader's loops: a column's letters, a row's digits.
-/
namespace Go.Proofs.YtdfpalocnijefaaGreatDoor
open Go.RowKit

theorem quiet_call {f : FuncId} {args : Array Value} {w : World} {n : Nat} {v : Value} (h : Calls Tryz.prog f args (w.drewN n) fun e w' => e = .returned v ∧ w.drewN n = w') : Calls Tryz.prog f args (w.drewN n) fun e w'' => e = .returned v ∧ ∃ m, w'' = w.drewN m :=
  Calls.quiet_of_same (h.mono fun _ _ ⟨a, b⟩ => ⟨a, b.symm⟩)
theorem RdAt.setNext {w : World} {b m p : Nat} {d : Rd} (h : RdAt w b { d with k := d.k + m }) (hp : d.k + m = p) (n : Nat) : RdAt ((w.drewN n).setCell ⟨b, 1, none⟩ (.int .i64 ((p : Int) + 1))) b { d with k := d.k + (m + 1) } := by
  subst hp; exact (h.drewN n).setK (d.k + m + 1)
theorem take_next (d : Rd) (m : Nat) (h : d.k + m < d.s.size) : d.rest.take (m + 1) = d.rest.take m ++ [((d.s[d.k + m].toNat : Nat) : Int)] := by
  unfold Rd.rest; rw [List.take_add_one, List.getElem?_drop, sb_at d.s _ h]; rfl
theorem length_rest (d : Rd) : d.rest.length = d.s.size - d.k := by unfold Rd.rest; rw [List.length_drop, length_sb]
theorem span_stop (p : Int → Bool) (l : List Int) (m : Nat) (h : ∀ x ∈ l.take m, p x = true) (h2 : ∀ x, l[m]? = some x → p x = false) : l.takeWhile p = l.take m := by
  have e := take_part p (l.take m) (l.drop m) h (fun x hx => h2 x (by rw [List.head?_drop] at hx; exact hx))
  rw [List.take_append_drop] at e; exact e
theorem span_over (p : Int → Bool) (l : List Int) (m : Nat) (h : ∀ x ∈ l.take m, p x = true) : l.takeWhile p = l.take m ++ (l.drop m).takeWhile p := by
  have e := take_more p (l.take m) (l.drop m) h
  rw [List.take_append_drop] at e; exact e
theorem all_snoc {p : Int → Bool} {l : List Int} {x : Int} (h : ∀ y ∈ l, p y = true) (hx : p x = true) : ∀ y ∈ l ++ [x], p y = true := by
  intro y hy; rw [List.mem_append] at hy
  rcases hy with hy | hy
  · exact h y hy
  · simp at hy; rw [hy]; exact hx

/-- What a column's letters say, an A as 1. -/
def colV (l : List Int) : Int := l.foldl (fun n x => 26 * n + (x - 64)) 0
theorem colV_snoc (l : List Int) (x : Int) : colV (l ++ [x]) = 26 * colV l + (x - 64) := by unfold colV; rw [List.foldl_append]; rfl
theorem col_small (l : List Int) (h : ∀ x ∈ l, isCap x = true) (hl : l.length ≤ 2) : colV l ≤ 702 ∧ (l = [] ∧ colV l = 0 ∧ isCol l = false ∨ 0 < colV l ∧ isCol l = true ∧ readColL l = colV l - 1) := by
  match l, hl, h with
  | [], _, _ => exact ⟨by decide, .inl ⟨rfl, rfl, rfl⟩⟩
  | [a], _, h =>
    have ha := h a (by simp)
    have := cap_bd ha
    have hv : colV [a] = a - 64 := by unfold colV; simp
    have hi : isCol [a] = true := by unfold isCol; simp [ha]
    refine ⟨by omega, .inr ⟨by omega, hi, ?_⟩⟩
    unfold readColL; rw [if_pos hi, hv]; simp; omega
  | [a, b], _, h =>
    have ha := h a (by simp)
    have hb := h b (by simp)
    have g1 := cap_bd ha
    have g2 := cap_bd hb
    have hv : colV [a, b] = 26 * (a - 64) + (b - 64) := by unfold colV; simp
    have hi : isCol [a, b] = true := by unfold isCol; simp [ha, hb]
    refine ⟨by omega, .inr ⟨by omega, hi, ?_⟩⟩
    unfold readColL; rw [if_pos hi, hv]; simp; omega
theorem isCol_long {l : List Int} (h : 2 < l.length) : isCol l = false := by unfold isCol; rw [decide_eq_false (by omega), Bool.false_and]
theorem rd_k (d : Rd) : ({ d with k := d.k + 0 } : Rd) = d := rfl

/-- The end of the letters. -/
theorem col_end (d : Rd) (m : Nat) (v : Int) (b : Nat) (w wr : World) (hv : colV (d.rest.take m) = v) (hall : ∀ x ∈ d.rest.take m, isCap x = true) (hm : m ≤ 2) (hk : d.k + m ≤ d.s.size) (hstop : ∀ x, d.rest[m]? = some x → isCap x = false) (e : Ending) (he : e = .returned (.bool (decide (0 < v))))
    (hr : RdAt wr b { { d with k := d.k + m } with c := v - 1 }) (hg : w.grownBy wr (some b)) : Part d.col b w e wr := by
  subst he
  have hsp := span_stop isCap d.rest m hall hstop
  have hlen : (d.rest.take m).length = m := by rw [List.length_take, length_rest]; omega
  refine ⟨hg, ?_⟩
  unfold Rd.col
  rw [hsp]
  rcases (col_small (d.rest.take m) hall (by omega)).2 with ⟨h1, h2, h3⟩ | ⟨h1, h2, h3⟩
  · rw [h3, if_neg (by simp)]
    exact .inr ⟨rfl, by rw [decide_eq_false (by omega)]⟩
  · rw [if_pos h2]
    refine .inl ⟨_, rfl, by rw [decide_eq_true (by omega)], ?_⟩
    rw [h3, hv, hlen]; exact hr

set_option maxRecDepth 100000 in
set_option maxHeartbeats 800000 in
theorem colPart_any (b : Nat) (d : Rd) (w : World) (h : RdAt w b d) (_hs : d.s.size ≤ 1000000) (_hk : d.k ≤ d.s.size) :
    Calls Tryz.prog 148 #[.pointer (some ⟨b, 0, none⟩)] w (Part d.col b w) := by
  have HR := Lib.hid h; clear h
  go_enter Tryz.func148, Tryz.ntmps148
  go_wp2_with fail
  go_loopw [3] (fun n wr => ∃ (m : Nat) (v : Int), n = .int .i64 v ∧ 0 ≤ v ∧ v ≤ 702 ∧ d.k + m ≤ d.s.size ∧ Hid (colV (d.rest.take m) = v ∧ (∀ x ∈ d.rest.take m, isCap x = true) ∧ m ≤ 2) ∧ Hid (RdAt wr b { d with k := d.k + m }) ∧ Hid (w.grownBy wr (some b)))
    (fun n _ => 800 - (intOf n).toNat)
  case atStart => exact ⟨0, 0, rfl, by omega, by omega, by omega, Lib.hid ⟨rfl, by simp, by omega⟩, Lib.hid HR.out, Lib.hid (grownBy.refl' _ _)⟩
  case round =>
    obtain ⟨m, v, rfl, hv0, hv1, hkm, HM, HRD, HG⟩ := hrel
    obtain ⟨c0, c1, c2, c3, c4, c5, c6⟩ := HRD.out.facts
    have f1 := HRD.out.frozen 1
    have f3 := HRD.out.frozen 3
    clear c2 c4 c5 c6
    simp only at c0 c1 c3
    obtain ⟨p, hp⟩ : ∃ p : Nat, d.k + m = p := ⟨_, rfl⟩
    rw [hp] at c1
    by_cases hlt : p < d.s.size
    · have hlt2 : (p : Int) < (d.s.size : Int) := by omega
      obtain ⟨a, ha⟩ : ∃ a : Int, (d.s[p].toNat : Int) = a := ⟨_, rfl⟩
      have ha1 : 0 ≤ a ∧ a ≤ 255 := by have := d.s[p].toNat_lt; omega
      have hnx : d.rest.take (m + 1) = d.rest.take m ++ [a] := by subst hp; rw [take_next d m hlt, ha]
      have hat : d.rest[m]? = some a := by subst hp; unfold Rd.rest; rw [List.getElem?_drop, sb_at d.s _ hlt, ha]
      have HNX := Lib.hid hnx; clear hnx
      have HAT := Lib.hid hat; clear hat
      have HP := Lib.hid hp; clear hp
      by_cases hc : isCap a = true
      · have hcb := cap_bd hc
        have hvn : colV (d.rest.take (m + 1)) = 26 * v + (a - 64) := by rw [HNX.out, colV_snoc, HM.out.1]
        have hall := all_snoc HM.out.2.1 hc
        rw [← HNX.out] at hall
        have HVN := Lib.hid hvn; clear hvn
        have HALL := Lib.hid hall; clear hall
        by_cases hbig : 702 < v * 26 + (a - 65) + 1
        · have hno : d.col = none := by
            have h2 : ¬ m + 1 ≤ 2 := by
              intro h2
              have := (col_small _ HALL.out (by rw [List.length_take]; omega)).1
              rw [HVN.out] at this; omega
            have h3 : isCol (d.rest.takeWhile isCap) = false := by
              apply isCol_long
              rw [span_over isCap d.rest (m + 1) HALL.out, List.length_append, List.length_take, length_rest]
              have := HP.out; omega
            unfold Rd.col; rw [h3]; rfl
          have HNO := Lib.hid hno; clear hno
          go_wp2_with fail
          go_quiet ((go_at_call 152; exact quiet_call (isCapital_any _ (by omega) (by omega) _)))
          go_wp2_with fail
          go_quiet (fail)
          go_wp2_with fail
          go_ret
          exact ⟨grownBy.drewN' HG.out _, .inr ⟨HNO.out, rfl⟩⟩
        · go_wp2_with fail
          go_quiet ((go_at_call 152; exact quiet_call (isCapital_any _ (by omega) (by omega) _)))
          go_wp2_with fail
          go_quiet (fail)
          go_wp2_with fail
          go_roundw
          case rel =>
            have hm2 : m + 1 ≤ 2 := by
              have h3 := HM.out.2.2
              by_cases h : m = 2
              · exfalso
                have hl : (d.rest.take m).length = 2 := by rw [List.length_take, length_rest]; have := HP.out; omega
                match hq : d.rest.take m, hl with
                | [x, y], _ =>
                  have h1 := HM.out.2.1
                  have h4 := HM.out.1
                  rw [hq] at h1 h4
                  have g1 := cap_bd (h1 x (by simp))
                  have g2 := cap_bd (h1 y (by simp))
                  have hv : colV [x, y] = 26 * (x - 64) + (y - 64) := by unfold colV; simp
                  omega
              · omega
            refine ⟨m + 1, v * 26 + (a - 65) + 1, rfl, by omega, by omega, by have := HP.out; omega, Lib.hid ⟨by rw [HVN.out]; omega, HALL.out, hm2⟩, Lib.hid ?_, Lib.hid (grownBy.setCell' (grownBy.drewN' HG.out _) _ _)⟩
            exact RdAt.setNext HRD.out HP.out _
          case measure => simp [intOf]; omega
      · have hc' : isCap a = false := by simpa using hc
        clear hc
        have hend := fun (e : Ending) (wz : World) => col_end d m v b w wz HM.out.1 HM.out.2.1 HM.out.2.2 hkm (fun x hx => by rw [HAT.out] at hx; injection hx with hx; rw [← hx]; exact hc') e
        have HEND := Lib.hid hend; clear hend
        go_wp2_with fail
        go_quiet ((go_at_call 152; exact quiet_call (isCapital_any _ (by omega) (by omega) _)))
        go_wp2_with fail
        go_ret
        exact HEND.out _ _ rfl ((HRD.out.drewN _).setC _) (grownBy.setCell' (grownBy.drewN' HG.out _) _ _)
    · have hlt2 : ¬ (p : Int) < (d.s.size : Int) := by omega
      have hend := fun (e : Ending) (wz : World) => col_end d m v b w wz HM.out.1 HM.out.2.1 HM.out.2.2 hkm (fun x hx => by have h1 := (List.getElem?_eq_some_iff.1 hx).1; rw [length_rest] at h1; omega) e
      have HEND := Lib.hid hend; clear hend
      clear hp
      go_wp2_with fail
      go_quiet (fail)
      go_wp2_with fail
      go_ret
      exact HEND.out _ _ rfl ((HRD.out.drewN _).setC _) (grownBy.setCell' (grownBy.drewN' HG.out _) _ _)

/-- The end of the digits. -/
theorem row_end (d : Rd) (m : Nat) (v : Int) (b : Nat) (w wr : World) (hv : valL (d.rest.take m) = v) (hall : ∀ x ∈ d.rest.take m, isNum x = true) (hz : m = 0 ∧ v = 0 ∨ 1 ≤ v ∧ d.rest.take m ≠ [] ∧ (d.rest.take m).head? ≠ some 48) (hv9 : v ≤ 999) (hk : d.k + m ≤ d.s.size) (hstop : ∀ x, d.rest[m]? = some x → isNum x = false) (e : Ending) (he : e = .returned (.bool (decide (0 < v))))
    (hr : RdAt wr b { { d with k := d.k + m } with r := v - 1 }) (hg : w.grownBy wr (some b)) : Part d.row b w e wr := by
  subst he
  have hsp := span_stop isNum d.rest m hall hstop
  have hlen : (d.rest.take m).length = m := by rw [List.length_take, length_rest]; omega
  refine ⟨hg, ?_⟩
  unfold Rd.row
  rw [hsp]
  rcases hz with ⟨h1, h2⟩ | ⟨h1, h2, h3⟩
  · have : isRow (d.rest.take m) = false := by rw [h1]; rfl
    rw [this, if_neg (by simp)]
    exact .inr ⟨rfl, by rw [decide_eq_false (by omega)]⟩
  · have : isRow (d.rest.take m) = true := by unfold isRow; rw [decide_eq_true_iff]; exact ⟨h2, h3, by omega⟩
    rw [if_pos this]
    refine .inl ⟨_, rfl, by rw [decide_eq_true (by omega)], ?_⟩
    rw [hv, hlen]; exact hr
theorem head_snoc {l : List Int} {x : Int} (h : l ≠ []) : (l ++ [x]).head? = l.head? := by cases l with | nil => exact absurd rfl h | cons a l => rfl

set_option maxRecDepth 100000 in
set_option maxHeartbeats 800000 in
theorem rowPart_any (b : Nat) (d : Rd) (w : World) (h : RdAt w b d) (_hs : d.s.size ≤ 1000000) (_hk : d.k ≤ d.s.size) :
    Calls Tryz.prog 150 #[.pointer (some ⟨b, 0, none⟩)] w (Part d.row b w) := by
  have HR := Lib.hid h; clear h
  go_enter Tryz.func150, Tryz.ntmps150
  go_wp2_with fail
  go_loopw [3] (fun n wr => ∃ (m : Nat) (v : Int), n = .int .i64 v ∧ 0 ≤ v ∧ v ≤ 999 ∧ d.k + m ≤ d.s.size ∧ Hid (valL (d.rest.take m) = v ∧ (∀ x ∈ d.rest.take m, isNum x = true) ∧ (m = 0 ∧ v = 0 ∨ 1 ≤ v ∧ d.rest.take m ≠ [] ∧ (d.rest.take m).head? ≠ some 48)) ∧ Hid (RdAt wr b { d with k := d.k + m }) ∧ Hid (w.grownBy wr (some b)))
    (fun n _ => 1200 - (intOf n).toNat)
  case atStart => exact ⟨0, 0, rfl, by omega, by omega, by omega, Lib.hid ⟨rfl, by simp, .inl ⟨rfl, rfl⟩⟩, Lib.hid HR.out, Lib.hid (grownBy.refl' _ _)⟩
  case round =>
    obtain ⟨m, v, rfl, hv0, hv1, hkm, HM, HRD, HG⟩ := hrel
    obtain ⟨c0, c1, c2, c3, c4, c5, c6⟩ := HRD.out.facts
    have f1 := HRD.out.frozen 1
    have f4 := HRD.out.frozen 4
    clear c2 c3 c5 c6
    simp only at c0 c1 c4
    obtain ⟨p, hp⟩ : ∃ p : Nat, d.k + m = p := ⟨_, rfl⟩
    rw [hp] at c1
    by_cases hlt : p < d.s.size
    · have hlt2 : (p : Int) < (d.s.size : Int) := by omega
      obtain ⟨a, ha⟩ : ∃ a : Int, (d.s[p].toNat : Int) = a := ⟨_, rfl⟩
      have ha1 : 0 ≤ a ∧ a ≤ 255 := by have := d.s[p].toNat_lt; omega
      have hnx : d.rest.take (m + 1) = d.rest.take m ++ [a] := by subst hp; rw [take_next d m hlt, ha]
      have hat : d.rest[m]? = some a := by subst hp; unfold Rd.rest; rw [List.getElem?_drop, sb_at d.s _ hlt, ha]
      have HNX := Lib.hid hnx; clear hnx
      have HAT := Lib.hid hat; clear hat
      have HP := Lib.hid hp; clear hp
      by_cases hc : isNum a = true
      · have hcb := num_bd hc
        have hvn : valL (d.rest.take (m + 1)) = 10 * v + (a - 48) := by rw [HNX.out, valL_snoc, HM.out.1]
        have hall := all_snoc HM.out.2.1 hc
        rw [← HNX.out] at hall
        have HVN := Lib.hid hvn; clear hvn
        have HALL := Lib.hid hall; clear hall
        by_cases hbad : v * 10 + (a - 48) = 0 ∨ 999 < v * 10 + (a - 48)
        · have hno : d.row = none := by
            have h3 : isRow (d.rest.takeWhile isNum) = false := by
              rw [span_over isNum d.rest (m + 1) HALL.out]
              unfold isRow; rw [decide_eq_false_iff_not]
              rintro ⟨_, h2, h3⟩
              rcases hbad with h | h
              · rcases HM.out.2.2 with ⟨hm0, _⟩ | ⟨hm1, _⟩
                · apply h2; rw [HNX.out, hm0]; simp; omega
                · omega
              · have := valL_ge ((d.rest.drop (m + 1)).takeWhile isNum) (d.rest.take (m + 1)) (take_all isNum _) (by rw [HVN.out]; omega)
                rw [HVN.out] at this; omega
            unfold Rd.row; rw [h3]; rfl
          have HNO := Lib.hid hno; clear hno
          by_cases hz : v * 10 + (a - 48) = 0
          · have hzb : (v * 10 + (a - 48) == 0) = true := beq_iff_eq.2 hz
            clear hbad hz
            go_wp2_with fail
            go_quiet ((go_at_call 137; exact quiet_call (isDigit_any _ (by omega) (by omega) _)))
            go_wp2_with fail
            go_quiet (fail)
            go_wp2_with fail
            go_ret
            exact ⟨grownBy.drewN' HG.out _, .inr ⟨HNO.out, rfl⟩⟩
          · have hzb : (v * 10 + (a - 48) == 0) = false := beq_eq_false_iff_ne.2 hz
            have h9 : 999 < v * 10 + (a - 48) := by omega
            clear hbad hz
            go_wp2_with fail
            go_quiet ((go_at_call 137; exact quiet_call (isDigit_any _ (by omega) (by omega) _)))
            go_wp2_with fail
            go_quiet (fail)
            go_wp2_with fail
            go_ret
            exact ⟨grownBy.drewN' HG.out _, .inr ⟨HNO.out, rfl⟩⟩
        · have hz : ¬ v * 10 + (a - 48) = 0 := by omega
          have hzb : (v * 10 + (a - 48) == 0) = false := beq_eq_false_iff_ne.2 hz
          have h9 : ¬ 999 < v * 10 + (a - 48) := by omega
          have h9' : v * 10 + (a - 48) ≤ 999 := by omega
          have h1' : 1 ≤ v * 10 + (a - 48) := by omega
          clear hbad hz
          go_wp2_with fail
          go_quiet ((go_at_call 137; exact quiet_call (isDigit_any _ (by omega) (by omega) _)))
          go_wp2_with fail
          go_quiet (fail)
          go_wp2_with fail
          go_roundw
          case rel =>
            refine ⟨m + 1, v * 10 + (a - 48), rfl, by omega, by omega, by have := HP.out; omega, Lib.hid ⟨by rw [HVN.out]; omega, HALL.out, .inr ⟨by omega, ?_, ?_⟩⟩, Lib.hid ?_, Lib.hid (grownBy.setCell' (grownBy.drewN' HG.out _) _ _)⟩
            · rw [HNX.out]; simp
            · rw [HNX.out]
              rcases HM.out.2.2 with ⟨hm0, hm1⟩ | ⟨_, h2, h3⟩
              · rw [hm0]; simp; omega
              · rw [head_snoc h2]; exact h3
            · exact RdAt.setNext HRD.out HP.out _
          case measure => simp [intOf]; omega
      · have hc' : isNum a = false := by simpa using hc
        clear hc
        have hend := fun (e : Ending) (wz : World) => row_end d m v b w wz HM.out.1 HM.out.2.1 HM.out.2.2 hv1 hkm (fun x hx => by rw [HAT.out] at hx; injection hx with hx; rw [← hx]; exact hc') e
        have HEND := Lib.hid hend; clear hend
        go_wp2_with fail
        go_quiet ((go_at_call 137; exact quiet_call (isDigit_any _ (by omega) (by omega) _)))
        go_wp2_with fail
        go_ret
        exact HEND.out _ _ rfl ((HRD.out.drewN _).setR _) (grownBy.setCell' (grownBy.drewN' HG.out _) _ _)
    · have hlt2 : ¬ (p : Int) < (d.s.size : Int) := by omega
      have hend := fun (e : Ending) (wz : World) => row_end d m v b w wz HM.out.1 HM.out.2.1 HM.out.2.2 hv1 hkm (fun x hx => by have h1 := (List.getElem?_eq_some_iff.1 hx).1; rw [length_rest] at h1; omega) e
      have HEND := Lib.hid hend; clear hend
      clear hp
      go_wp2_with fail
      go_quiet (fail)
      go_wp2_with fail
      go_ret
      exact HEND.out _ _ rfl ((HRD.out.drewN _).setR _) (grownBy.setCell' (grownBy.drewN' HG.out _) _ _)
end Go.Proofs.YtdfpalocnijefaaGreatDoor

/-
  Layer 4, the program: bytes; a reader's block; a token's block.
-/
namespace Go.Proofs.YtdfpalocnijefaaGreatDoor
open Go.RowKit

def isBl (c : Int) : Bool := decide (c = 32)
/-- What begins a word. -/
def isBeg (c : Int) : Bool := isLet c || decide (c = 36)

set_option maxHeartbeats 400000 in
theorem lexBlank_any (c : Int) (_h0 : 0 ≤ c) (_h1 : c ≤ 255) (w : World) :
    Calls Tryz.prog 71 #[.int .u8 c] w fun e w' => e = .returned (.bool (isBl c)) ∧ w = w' := by
  go_enter Tryz.func71, Tryz.ntmps71
  go_wp2
  all_goals go_ret
  all_goals exact ⟨ret_bool (by unfold isBl; first | rfl | (symm; rw [decide_eq_true_iff]; omega) | (symm; rw [decide_eq_false_iff_not]; omega) | (rw [decide_eq_decide]; omega)), rfl⟩

set_option maxHeartbeats 400000 in
theorem lexDigit_any (c : Int) (_h0 : 0 ≤ c) (_h1 : c ≤ 255) (w : World) :
    Calls Tryz.prog 110 #[.int .u8 c] w fun e w' => e = .returned (.bool (isNum c)) ∧ w = w' := by
  go_enter Tryz.func110, Tryz.ntmps110
  go_wp2
  all_goals go_ret
  all_goals exact ⟨ret_bool (by unfold isNum; first | rfl | (symm; rw [decide_eq_true_iff]; omega) | (symm; rw [decide_eq_false_iff_not]; omega) | (rw [decide_eq_decide]; omega)), rfl⟩

set_option maxHeartbeats 400000 in
theorem lexCapital_any (c : Int) (_h0 : 0 ≤ c) (_h1 : c ≤ 255) (w : World) :
    Calls Tryz.prog 132 #[.int .u8 c] w fun e w' => e = .returned (.bool (isCap c)) ∧ w = w' := by
  go_enter Tryz.func132, Tryz.ntmps132
  go_wp2
  all_goals go_ret
  all_goals exact ⟨ret_bool (by unfold isCap; first | rfl | (symm; rw [decide_eq_true_iff]; omega) | (symm; rw [decide_eq_false_iff_not]; omega) | (rw [decide_eq_decide]; omega)), rfl⟩

theorem isBeg_cap {c : Int} (h : isCap c = true) : isBeg c = true := by unfold isBeg; rw [isLet_cap h]; rfl
theorem isBeg_nocap {c : Int} (h : isCap c = false) : isBeg c = decide (97 ≤ c ∧ c ≤ 122 ∨ c = 36) := by unfold isBeg; rw [isLet_nocap h]; simp
theorem isWord_beg {c : Int} : isWord c = (isBeg c || (isNum c || decide (c = 33))) := by
  unfold isWord isBeg; rw [show decide (c = 36 ∨ c = 33) = (decide (c = 36) || decide (c = 33)) from by simp]
  cases isLet c <;> cases isNum c <;> cases decide (c = 36) <;> simp

set_option maxHeartbeats 400000 in
theorem beginsWord_any (c : Int) (_h0 : 0 ≤ c) (_h1 : c ≤ 255) (w : World) :
    Calls Tryz.prog 114 #[.int .u8 c] w fun e w' => e = .returned (.bool (isBeg c)) ∧ w = w' := by
  by_cases hc : isCap c = true
  · have HL := Lib.hid (isBeg_cap hc)
    go_enter Tryz.func114, Tryz.ntmps114
    go_wp2_with (go_at_call 132; ((with_reducible refine (lexCapital_any _ ?_ ?_ _).mono ?_); (first | omega | skip); (first | omega | skip); rintro e w' ⟨rfl, rfl⟩))
    all_goals go_ret
    all_goals exact ⟨ret_bool (by rw [HL.out]), rfl⟩
  · have hc' : isCap c = false := by simpa using hc
    have HL := Lib.hid (isBeg_nocap hc'); clear hc
    go_enter Tryz.func114, Tryz.ntmps114
    go_wp2_with (go_at_call 132; ((with_reducible refine (lexCapital_any _ ?_ ?_ _).mono ?_); (first | omega | skip); (first | omega | skip); rintro e w' ⟨rfl, rfl⟩))
    all_goals go_ret
    all_goals exact ⟨ret_bool (by rw [HL.out]; first | rfl | (symm; rw [decide_eq_true_iff]; omega) | (symm; rw [decide_eq_false_iff_not]; omega) | (rw [Bool.eq_iff_iff]; simp only [Bool.or_eq_true, decide_eq_true_iff, beq_iff_eq]; omega)), rfl⟩

set_option maxHeartbeats 400000 in
theorem isOfWord_any (c : Int) (_h0 : 0 ≤ c) (_h1 : c ≤ 255) (w : World) :
    Calls Tryz.prog 133 #[.int .u8 c] w fun e w' => e = .returned (.bool (isWord c)) ∧ w = w' := by
  have HW := Lib.hid (isWord_beg (c := c))
  cases hb : isBeg c
  · cases hn : isNum c
    · rw [hb, hn] at HW
      go_enter Tryz.func133, Tryz.ntmps133
      go_wp2_with (first
        | (go_at_call 114; ((with_reducible refine (beginsWord_any _ ?_ ?_ _).mono ?_); (first | omega | skip); (first | omega | skip); rintro e w' ⟨rfl, rfl⟩; rw [hb]))
        | (go_at_call 110; ((with_reducible refine (lexDigit_any _ ?_ ?_ _).mono ?_); (first | omega | skip); (first | omega | skip); rintro e w' ⟨rfl, rfl⟩; rw [hn])))
      all_goals go_ret
      all_goals exact ⟨ret_bool (by rw [HW.out]; first | rfl | (rw [Bool.eq_iff_iff]; simp only [Bool.or_eq_true, Bool.and_eq_true, Bool.false_or, decide_eq_true_iff, beq_iff_eq])), rfl⟩
    · rw [hb, hn] at HW
      go_enter Tryz.func133, Tryz.ntmps133
      go_wp2_with (first
        | (go_at_call 114; ((with_reducible refine (beginsWord_any _ ?_ ?_ _).mono ?_); (first | omega | skip); (first | omega | skip); rintro e w' ⟨rfl, rfl⟩; rw [hb]))
        | (go_at_call 110; ((with_reducible refine (lexDigit_any _ ?_ ?_ _).mono ?_); (first | omega | skip); (first | omega | skip); rintro e w' ⟨rfl, rfl⟩; rw [hn])))
      all_goals go_ret
      all_goals exact ⟨ret_bool (by rw [HW.out]; rfl), rfl⟩
  · rw [hb] at HW
    go_enter Tryz.func133, Tryz.ntmps133
    go_wp2_with (first
      | (go_at_call 114; ((with_reducible refine (beginsWord_any _ ?_ ?_ _).mono ?_); (first | omega | skip); (first | omega | skip); rintro e w' ⟨rfl, rfl⟩; rw [hb])))
    all_goals go_ret
    all_goals exact ⟨ret_bool (by rw [HW.out]; rfl), rfl⟩

/-- A block that holds a reader of formulas. -/
def LxAt (w : World) (b : Nat) (s : ByteArray) (k : Nat) : Prop := w.heap[b]? = some (.cells #[.string s, .int .i64 (k : Int)] 84)
theorem LxAt.lt {w : World} {b : Nat} {s : ByteArray} {k : Nat} (h : LxAt w b s k) : b < w.heap.size := (Array.getElem?_eq_some_iff.1 h).1
theorem LxAt.drewN {w : World} {b : Nat} {s : ByteArray} {k : Nat} (h : LxAt w b s k) (n : Nat) : LxAt (w.drewN n) b s k := h
theorem LxAt.below {w w' : World} {B b : Nat} {s : ByteArray} {k : Nat} (h : LxAt w b s k) (hb : Below B w w') (hB : b < B) : LxAt w' b s k := by unfold LxAt; rw [hb.block b hB]; exact h
theorem LxAt.facts {w : World} {b : Nat} {s : ByteArray} {k : Nat} (h : LxAt w b s k) : w.cell? ⟨b, 0, none⟩ = some (.string s) ∧ w.cell? ⟨b, 1, none⟩ = some (.int .i64 (k : Int)) :=
  ⟨by rw [cell_of_row w b 0 _ _ _ h]; rfl, by rw [cell_of_row w b 1 _ _ _ h]; rfl⟩
theorem LxAt.frozen {w : World} {b : Nat} {s : ByteArray} {k : Nat} (h : LxAt w b s k) (j : Nat) : w.frozen? ⟨b, j, none⟩ = false := frozen_of_row w b j _ _ h
theorem LxAt.setK {w : World} {b : Nat} {s : ByteArray} {k : Nat} (h : LxAt w b s k) (m : Nat) : LxAt (w.setCell ⟨b, 1, none⟩ (.int .i64 (m : Int))) b s m := by unfold LxAt; rw [heap_setCell_same w b 1 _ _ _ h]; rfl
theorem LxAt.setNext {w : World} {b : Nat} {s : ByteArray} {k : Nat} (h : LxAt w b s k) : LxAt (w.setCell ⟨b, 1, none⟩ (.int .i64 ((k : Int) + 1))) b s (k + 1) := h.setK (k + 1)
theorem LxAt.new (w : World) (s : ByteArray) : LxAt (w.alloc (.cells #[.string s, .int .i64 0] 84)) w.heap.size s 0 := (Go.MapKept.heap_alloc w _).1

/-- A token as a value. -/
def tokA (t : Tk) : Array Value := #[.int .i64 t.kind, .string t.text, .int .i64 t.num, .string t.sh, .int .i64 t.c, .int .i64 t.r, .bool t.ac, .bool t.ar, .int .i64 t.pos]
def TkAt (w : World) (b : Nat) (t : Tk) : Prop := w.heap[b]? = some (.cells (tokA t) 54)
theorem TkAt.lt {w : World} {b : Nat} {t : Tk} (h : TkAt w b t) : b < w.heap.size := (Array.getElem?_eq_some_iff.1 h).1
theorem TkAt.below {w w' : World} {B b : Nat} {t : Tk} (h : TkAt w b t) (hb : Below B w w') (hB : b < B) : TkAt w' b t := by unfold TkAt; rw [hb.block b hB]; exact h
theorem TkAt.drewN {w : World} {b : Nat} {t : Tk} (h : TkAt w b t) (n : Nat) : TkAt (w.drewN n) b t := h
theorem TkAt.frozen {w : World} {b : Nat} {t : Tk} (h : TkAt w b t) (j : Nat) : w.frozen? ⟨b, j, none⟩ = false := frozen_of_row w b j _ _ h
theorem TkAt.grown {w w' : World} {b c : Nat} {t : Tk} (h : TkAt w b t) (hg : w.grownBy w' (some c)) (hne : b ≠ c) : TkAt w' b t := by
  unfold TkAt; rw [hg.block b h.lt (by intro e; exact hne (Option.some.inj e))]; exact h
theorem TkAt.new (w : World) (t : Tk) : TkAt (w.alloc (.cells (tokA t) 54)) w.heap.size t := (Go.MapKept.heap_alloc w _).1
theorem tok_size : (Tryz.prog.info? 54).map (·.size) = some 9 := by kernel_rfl
theorem tok_one (t : Tk) : ∀ v ∈ (tokA t).toList, v.oneCell' = true := by
  intro v hv
  simp only [tokA, List.mem_cons, List.not_mem_nil, or_false] at hv
  rcases hv with rfl | rfl | rfl | rfl | rfl | rfl | rfl | rfl | rfl <;> rfl
end Go.Proofs.YtdfpalocnijefaaGreatDoor

/-
  The library's contracts that this layer calls, at this seat's program.
-/
namespace Go.Proofs
open Go.Shelf
def Tryz.lays137_ren : Go.Shelf.Ren := ⟨fun | 137 => 164 | 217 => 178 | 266 => 190 | n => n, fun | 9 => 9 | 5 => 5 | 3 => 3 | n => n, fun | n => n⟩
theorem Tryz.lays137 : Go.Proofs.Lays.n137 Tryz.prog Tryz.lays137_ren := {
  mixed := by kernel_rfl
  f137 := Tryz.func164.trans (congrArg some (by kernel_rfl))
  f217 := Tryz.func178.trans (congrArg some (by kernel_rfl))
  f266 := Tryz.func190.trans (congrArg some (by kernel_rfl))
  t3 := Tryz.underlying3
  a3 := Tryz.isAgg3
  z3 := Tryz.sizeOf3
  v3 := Tryz.zeroValue3
  t5 := Tryz.underlying5
  a5 := Tryz.isAgg5
  z5 := Tryz.sizeOf5
  v5 := Tryz.zeroValue5
  t9 := Tryz.underlying9
  a9 := Tryz.isAgg9
  z9 := Tryz.sizeOf9
  v9 := Tryz.zeroValue9 }
open Go.RowKit in
theorem Tryz.strings_IndexByte (s : ByteArray) (c : Int) (w : World) :
    Calls Tryz.prog 164 #[.string s, .int .u8 c] w fun e w' => e = .returned (.int .i64 (Lib.indexByte s.data.toList c.toNat.toUInt8)) ∧ w' = w := Any.strings_IndexByte Tryz.lays137 s c w
def Tryz.laysM171_ren : Go.Shelf.Ren := ⟨fun | 171 => 126 | 243 => 138 | 246 => 153 | 283 => 166 | 284 => 167 | 285 => 168 | 286 => 169 | 129 => 180 | 317 => 179 | 318 => 181 | 319 => 182 | 320 => 183 | 337 => 191 | 338 => 192 | n => n, fun | 3 => 3 | 9 => 9 | 2 => 2 | 4 => 4 | 171 => 163 | 0 => 0 | 53 => 66 | 37 => 39 | 5 => 5 | 173 => 166 | 212 => 175 | 51 => 176 | 20 => 20 | 213 => 177 | 46 => 170 | 232 => 191 | 233 => 192 | n => n, fun | 17 => 5 | 18 => 9 | 19 => 10 | n => n⟩
theorem Tryz.laysM171 : Go.Proofs.LaysM.n171 Tryz.prog Tryz.laysM171_ren := {
  mixed := by kernel_rfl
  f129 := Tryz.func180.trans (congrArg some (by kernel_rfl))
  f171 := Tryz.func126.trans (congrArg some (by kernel_rfl))
  f243 := Tryz.func138.trans (congrArg some (by kernel_rfl))
  f246 := Tryz.func153.trans (congrArg some (by kernel_rfl))
  f283 := Tryz.func166.trans (congrArg some (by kernel_rfl))
  f284 := Tryz.func167.trans (congrArg some (by kernel_rfl))
  f285 := Tryz.func168.trans (congrArg some (by kernel_rfl))
  f286 := Tryz.func169.trans (congrArg some (by kernel_rfl))
  f317 := Tryz.func179.trans (congrArg some (by kernel_rfl))
  f318 := Tryz.func181.trans (congrArg some (by kernel_rfl))
  f319 := Tryz.func182.trans (congrArg some (by kernel_rfl))
  f320 := Tryz.func183.trans (congrArg some (by kernel_rfl))
  f337 := Tryz.func191.trans (congrArg some (by kernel_rfl))
  f338 := Tryz.func192.trans (congrArg some (by kernel_rfl))
  t0 := Tryz.underlying0
  a0 := Tryz.isAgg0
  z0 := Tryz.sizeOf0
  v0 := Tryz.zeroValue0
  t2 := Tryz.underlying2
  a2 := Tryz.isAgg2
  z2 := Tryz.sizeOf2
  v2 := Tryz.zeroValue2
  t3 := Tryz.underlying3
  a3 := Tryz.isAgg3
  z3 := Tryz.sizeOf3
  v3 := Tryz.zeroValue3
  t4 := Tryz.underlying4
  a4 := Tryz.isAgg4
  z4 := Tryz.sizeOf4
  v4 := Tryz.zeroValue4
  t5 := Tryz.underlying5
  a5 := Tryz.isAgg5
  z5 := Tryz.sizeOf5
  v5 := Tryz.zeroValue5
  t9 := Tryz.underlying9
  a9 := Tryz.isAgg9
  z9 := Tryz.sizeOf9
  v9 := Tryz.zeroValue9
  t20 := Tryz.underlying20
  a20 := Tryz.isAgg20
  z20 := Tryz.sizeOf20
  v20 := Tryz.zeroValue20
  t37 := Tryz.underlying39
  a37 := Tryz.isAgg39
  z37 := Tryz.sizeOf39
  v37 := Tryz.zeroValue39
  t46 := Tryz.underlying170
  a46 := Tryz.isAgg170
  z46 := Tryz.sizeOf170
  v46 := Tryz.zeroValue170
  t51 := Tryz.underlying176
  a51 := Tryz.isAgg176
  z51 := Tryz.sizeOf176
  v51 := Tryz.zeroValue176
  t53 := Tryz.underlying66
  a53 := Tryz.isAgg66
  z53 := Tryz.sizeOf66
  v53 := Tryz.zeroValue66
  t171 := Tryz.underlying163
  a171 := Tryz.isAgg163
  z171 := Tryz.sizeOf163
  v171 := Tryz.zeroValue163
  t173 := Tryz.underlying166
  a173 := Tryz.isAgg166
  z173 := Tryz.sizeOf166
  v173 := Tryz.zeroValue166
  t212 := Tryz.underlying175
  a212 := Tryz.isAgg175
  z212 := Tryz.sizeOf175
  v212 := Tryz.zeroValue175
  t213 := Tryz.underlying177
  a213 := Tryz.isAgg177
  z213 := Tryz.sizeOf177
  t232 := Tryz.underlying191
  a232 := Tryz.isAgg191
  z232 := Tryz.sizeOf191
  v232 := Tryz.zeroValue191
  t233 := Tryz.underlying192
  a233 := Tryz.isAgg192
  z233 := Tryz.sizeOf192
  v233 := Tryz.zeroValue192
  g17 := by kernel_rfl
  g18 := by kernel_rfl
  g19 := by kernel_rfl
  i0 := by kernel_rfl
  i2 := by kernel_rfl
  i3 := by kernel_rfl
  i4 := by kernel_rfl
  i5 := by kernel_rfl
  i9 := by kernel_rfl
  i20 := by kernel_rfl
  i37 := by kernel_rfl
  i46 := by kernel_rfl
  i51 := by kernel_rfl
  i53 := by kernel_rfl
  i171 := by kernel_rfl
  i173 := by kernel_rfl
  i212 := by kernel_rfl
  i232 := by kernel_rfl
  i233 := by kernel_rfl
  m17 := by kernel_rfl
  m18 := by kernel_rfl
  m19 := by kernel_rfl }
open Go.RowKit Go.Sort Go.Lib in
theorem Tryz.strconv_Itoa (n : Int) (h0 : -9223372036854775808 ≤ n) (h1 : n ≤ 9223372036854775807) (w : World) (htab : Lib.TabIs Tryz.prog w "internal/strconv.uint64pow10" .u64 Lib.pow10Tab) :
    Calls Tryz.prog 126 #[.int .i64 n] w fun e w' => e = .returned (.string ⟨(Lib.itoa n).toArray⟩) ∧ ∃ k os, w' = grow (w.drewN k) os := Any.strconv_Itoa Tryz.laysM171 n h0 h1 w htab
def Tryz.laysC172_ren : Go.Shelf.Ren := ⟨fun | 172 => 130 | 244 => 142 | 245 => 143 | 247 => 158 | 279 => 159 | 280 => 160 | 281 => 161 | 282 => 162 | 287 => 175 | 316 => 176 | 171 => 126 | 205 => 177 | 321 => 188 | 322 => 189 | 243 => 138 | 246 => 153 | 283 => 166 | 284 => 167 | 285 => 168 | 286 => 169 | 129 => 180 | 317 => 179 | 318 => 181 | 319 => 182 | 320 => 183 | 337 => 191 | 338 => 192 | n => n, fun | 9 => 9 | 3 => 3 | 75 => 105 | 76 => 106 | 4 => 4 | 5 => 5 | 167 => 155 | 37 => 39 | 0 => 0 | 85 => 156 | 2 => 2 | 168 => 158 | 53 => 66 | 175 => 168 | 46 => 170 | 210 => 172 | 127 => 111 | 145 => 187 | 143 => 185 | 21 => 21 | 171 => 163 | 173 => 166 | 212 => 175 | 51 => 176 | 20 => 20 | 213 => 177 | 232 => 191 | 233 => 192 | 80 => 80 | n => n, fun | 15 => 3 | 16 => 4 | 17 => 5 | 18 => 9 | 19 => 10 | n => n⟩
theorem Tryz.laysC172 : Go.Proofs.LaysC.n172 Tryz.prog Tryz.laysC172_ren := {
  mixed := by kernel_rfl
  f129 := Tryz.func180.trans (congrArg some (by kernel_rfl))
  f171 := Tryz.func126.trans (congrArg some (by kernel_rfl))
  f172 := Tryz.func130.trans (congrArg some (by kernel_rfl))
  f205 := Tryz.func177.trans (congrArg some (by kernel_rfl))
  f243 := Tryz.func138.trans (congrArg some (by kernel_rfl))
  f244 := Tryz.func142.trans (congrArg some (by kernel_rfl))
  f245 := Tryz.func143.trans (congrArg some (by kernel_rfl))
  f246 := Tryz.func153.trans (congrArg some (by kernel_rfl))
  f247 := Tryz.func158.trans (congrArg some (by kernel_rfl))
  f279 := Tryz.func159.trans (congrArg some (by kernel_rfl))
  f280 := Tryz.func160.trans (congrArg some (by kernel_rfl))
  f281 := Tryz.func161.trans (congrArg some (by kernel_rfl))
  f282 := Tryz.func162.trans (congrArg some (by kernel_rfl))
  f283 := Tryz.func166.trans (congrArg some (by kernel_rfl))
  f284 := Tryz.func167.trans (congrArg some (by kernel_rfl))
  f285 := Tryz.func168.trans (congrArg some (by kernel_rfl))
  f286 := Tryz.func169.trans (congrArg some (by kernel_rfl))
  f287 := Tryz.func175.trans (congrArg some (by kernel_rfl))
  f316 := Tryz.func176.trans (congrArg some (by kernel_rfl))
  f317 := Tryz.func179.trans (congrArg some (by kernel_rfl))
  f318 := Tryz.func181.trans (congrArg some (by kernel_rfl))
  f319 := Tryz.func182.trans (congrArg some (by kernel_rfl))
  f320 := Tryz.func183.trans (congrArg some (by kernel_rfl))
  f321 := Tryz.func188.trans (congrArg some (by kernel_rfl))
  f322 := Tryz.func189.trans (congrArg some (by kernel_rfl))
  f337 := Tryz.func191.trans (congrArg some (by kernel_rfl))
  f338 := Tryz.func192.trans (congrArg some (by kernel_rfl))
  t0 := Tryz.underlying0
  a0 := Tryz.isAgg0
  z0 := Tryz.sizeOf0
  v0 := Tryz.zeroValue0
  t2 := Tryz.underlying2
  a2 := Tryz.isAgg2
  z2 := Tryz.sizeOf2
  v2 := Tryz.zeroValue2
  t3 := Tryz.underlying3
  a3 := Tryz.isAgg3
  z3 := Tryz.sizeOf3
  v3 := Tryz.zeroValue3
  t4 := Tryz.underlying4
  a4 := Tryz.isAgg4
  z4 := Tryz.sizeOf4
  v4 := Tryz.zeroValue4
  t5 := Tryz.underlying5
  a5 := Tryz.isAgg5
  z5 := Tryz.sizeOf5
  v5 := Tryz.zeroValue5
  t9 := Tryz.underlying9
  a9 := Tryz.isAgg9
  z9 := Tryz.sizeOf9
  v9 := Tryz.zeroValue9
  t20 := Tryz.underlying20
  a20 := Tryz.isAgg20
  z20 := Tryz.sizeOf20
  v20 := Tryz.zeroValue20
  t21 := Tryz.underlying21
  a21 := Tryz.isAgg21
  z21 := Tryz.sizeOf21
  v21 := Tryz.zeroValue21
  t37 := Tryz.underlying39
  a37 := Tryz.isAgg39
  z37 := Tryz.sizeOf39
  v37 := Tryz.zeroValue39
  t46 := Tryz.underlying170
  a46 := Tryz.isAgg170
  z46 := Tryz.sizeOf170
  v46 := Tryz.zeroValue170
  t51 := Tryz.underlying176
  a51 := Tryz.isAgg176
  z51 := Tryz.sizeOf176
  v51 := Tryz.zeroValue176
  t53 := Tryz.underlying66
  a53 := Tryz.isAgg66
  z53 := Tryz.sizeOf66
  v53 := Tryz.zeroValue66
  t75 := Tryz.underlying105
  a75 := Tryz.isAgg105
  z75 := Tryz.sizeOf105
  v75 := Tryz.zeroValue105
  t76 := Tryz.underlying106
  a76 := Tryz.isAgg106
  z76 := Tryz.sizeOf106
  v76 := Tryz.zeroValue106
  t85 := Tryz.underlying156
  a85 := Tryz.isAgg156
  z85 := Tryz.sizeOf156
  v85 := Tryz.zeroValue156
  t127 := Tryz.underlying111
  a127 := Tryz.isAgg111
  z127 := Tryz.sizeOf111
  v127 := Tryz.zeroValue111
  t143 := Tryz.underlying185
  a143 := Tryz.isAgg185
  z143 := Tryz.sizeOf185
  v143 := Tryz.zeroValue185
  t145 := Tryz.underlying187
  a145 := Tryz.isAgg187
  z145 := Tryz.sizeOf187
  v145 := Tryz.zeroValue187
  t167 := Tryz.underlying155
  a167 := Tryz.isAgg155
  z167 := Tryz.sizeOf155
  v167 := Tryz.zeroValue155
  t168 := Tryz.underlying158
  a168 := Tryz.isAgg158
  z168 := Tryz.sizeOf158
  v168 := Tryz.zeroValue158
  t171 := Tryz.underlying163
  a171 := Tryz.isAgg163
  z171 := Tryz.sizeOf163
  v171 := Tryz.zeroValue163
  t173 := Tryz.underlying166
  a173 := Tryz.isAgg166
  z173 := Tryz.sizeOf166
  v173 := Tryz.zeroValue166
  t175 := Tryz.underlying168
  a175 := Tryz.isAgg168
  z175 := Tryz.sizeOf168
  v175 := Tryz.zeroValue168
  t210 := Tryz.underlying172
  a210 := Tryz.isAgg172
  z210 := Tryz.sizeOf172
  v210 := Tryz.zeroValue172
  t212 := Tryz.underlying175
  a212 := Tryz.isAgg175
  z212 := Tryz.sizeOf175
  v212 := Tryz.zeroValue175
  t213 := Tryz.underlying177
  a213 := Tryz.isAgg177
  z213 := Tryz.sizeOf177
  t232 := Tryz.underlying191
  a232 := Tryz.isAgg191
  z232 := Tryz.sizeOf191
  v232 := Tryz.zeroValue191
  t233 := Tryz.underlying192
  a233 := Tryz.isAgg192
  z233 := Tryz.sizeOf192
  v233 := Tryz.zeroValue192
  g15 := by kernel_rfl
  g16 := by kernel_rfl
  g17 := by kernel_rfl
  g18 := by kernel_rfl
  g19 := by kernel_rfl
  t80 := Tryz.underlying80
  a80 := Tryz.isAgg80
  z80 := Tryz.sizeOf80
  v80 := Tryz.zeroValue80
  i0 := by kernel_rfl
  i2 := by kernel_rfl
  i3 := by kernel_rfl
  i4 := by kernel_rfl
  i5 := by kernel_rfl
  i9 := by kernel_rfl
  i20 := by kernel_rfl
  i21 := by kernel_rfl
  i37 := by kernel_rfl
  i46 := by kernel_rfl
  i51 := by kernel_rfl
  i53 := by kernel_rfl
  i75 := by kernel_rfl
  i76 := by kernel_rfl
  i80 := by kernel_rfl
  i85 := by kernel_rfl
  i127 := by kernel_rfl
  i143 := by kernel_rfl
  i145 := by kernel_rfl
  i167 := by kernel_rfl
  i168 := by kernel_rfl
  i171 := by kernel_rfl
  i173 := by kernel_rfl
  i175 := by kernel_rfl
  i210 := by kernel_rfl
  i212 := by kernel_rfl
  i232 := by kernel_rfl
  i233 := by kernel_rfl
  m15 := by kernel_rfl
  m16 := by kernel_rfl
  m17 := by kernel_rfl
  m18 := by kernel_rfl
  m19 := by kernel_rfl
  c0 := by kernel_rfl
  c2 := by kernel_rfl
  c3 := by kernel_rfl
  c4 := by kernel_rfl
  c5 := by kernel_rfl
  c9 := by kernel_rfl
  c20 := by kernel_rfl
  c21 := by kernel_rfl
  c37 := by kernel_rfl
  c46 := by kernel_rfl
  c51 := by kernel_rfl
  c53 := by kernel_rfl
  c75 := by kernel_rfl
  c76 := by kernel_rfl
  c80 := by kernel_rfl
  c85 := by kernel_rfl
  c127 := by kernel_rfl
  c143 := by kernel_rfl
  c145 := by kernel_rfl
  c167 := by kernel_rfl
  c168 := by kernel_rfl
  c171 := by kernel_rfl
  c173 := by kernel_rfl
  c175 := by kernel_rfl
  c210 := by kernel_rfl
  c212 := by kernel_rfl
  c213 := by kernel_rfl
  c232 := by kernel_rfl
  c233 := by kernel_rfl }
open Go.RowKit in
theorem Tryz.strconv_Atoi_ok (s : ByteArray) (hmax : s.size ≤ 9223372036854775806) (v : Int) (h : Lib.atoiAll s.data.toList = .ok v) (w : World) :
    Calls Tryz.prog 130 #[.string s] w fun e w' => e = .returned (.tuple #[.int .i64 v, .nilIface]) ∧ (w' = w ∨ ∃ t, w' = Lib.bytesWorld w 5 t) := Any.strconv_Atoi_ok Tryz.laysC172 s hmax v h w
open Go.RowKit in
theorem Tryz.strconv_Atoi_range (s : ByteArray) (hlim : s.size ≤ 281474976710656) (h : Lib.atoiAll s.data.toList = .range) (ev : Value) (w : World) (hv : w.cell? ⟨4, 0, none⟩ = some ev) (hev : ev = .nilIface ∨ ∃ te pe, ev = .iface te pe) :
    Calls Tryz.prog 130 #[.string s] w fun e w' => ∃ N, e = .returned (.tuple #[.int .i64 (Lib.atoiSat s.data.toList), .iface 158 (.pointer (some ⟨N, 0, none⟩))]) ∧ w.heap.size ≤ N ∧ w'.heap[N]? = some (.cells #[.string ⟨#[65, 116, 111, 105]⟩, .string s, ev] 172 (0, 0)) ∧ Below w.heap.size w w' := Any.strconv_Atoi_range Tryz.laysC172 s hlim h ev w hv hev
def Tryz.lays99_ren : Go.Shelf.Ren := ⟨fun | 99 => 144 | 206 => 163 | n => n, fun | 9 => 9 | 4 => 4 | 3 => 3 | n => n, fun | n => n⟩
theorem Tryz.lays99 : Go.Proofs.Lays.n99 Tryz.prog Tryz.lays99_ren := {
  mixed := by kernel_rfl
  f99 := Tryz.func144.trans (congrArg some (by kernel_rfl))
  f206 := Tryz.func163.trans (congrArg some (by kernel_rfl))
  t3 := Tryz.underlying3
  a3 := Tryz.isAgg3
  z3 := Tryz.sizeOf3
  v3 := Tryz.zeroValue3
  t4 := Tryz.underlying4
  a4 := Tryz.isAgg4
  z4 := Tryz.sizeOf4
  v4 := Tryz.zeroValue4
  t9 := Tryz.underlying9
  a9 := Tryz.isAgg9
  z9 := Tryz.sizeOf9
  v9 := Tryz.zeroValue9 }
open Go.RowKit Go.Lib in
theorem Tryz.strings_HasPrefix (s p : ByteArray) (w : World) :
    Calls Tryz.prog 144 #[.string s, .string p] w fun e w' => e = .returned (.bool (Lib.hasPrefix s.data.toList p.data.toList)) ∧ w' = w := Any.strings_HasPrefix Tryz.lays99 s p w
end Go.Proofs

/-
  Layer 4, the program: bytes of a kind, taken as far as they go; blanks; a text that stands there; names.
-/
namespace Go.Proofs.YtdfpalocnijefaaGreatDoor
open Go.RowKit

theorem ext_sbL (s : ByteArray) (a m : Nat) : sb (s.extract a (a + m)) = ((sb s).drop a).take m := by
  unfold sb; rw [← List.map_drop, ← List.map_take]; congr 1
  rw [ByteArray.data_extract, Array.toList_extract]
  rw [List.extract_eq_take_drop]
  congr 1; omega
/-- What stands at the reader's place and behind. -/
def restL (s : ByteArray) (k : Nat) : List Int := (sb s).drop k
theorem length_restL (s : ByteArray) (k : Nat) : (restL s k).length = s.size - k := by unfold restL; rw [List.length_drop, length_sb]
theorem restL_at (s : ByteArray) (k m : Nat) (h : k + m < s.size) : (restL s k)[m]? = some ((s[k + m].toNat : Nat) : Int) := by unfold restL; rw [List.getElem?_drop, sb_at s _ h]
theorem restL_take (s : ByteArray) (k m : Nat) (h : k + m < s.size) : (restL s k).take (m + 1) = (restL s k).take m ++ [((s[k + m].toNat : Nat) : Int)] := by
  rw [List.take_add_one, restL_at s k m h]; rfl
theorem restL_cut (s : ByteArray) (k m : Nat) : s.extract k (k + m) = strOfNums ((restL s k).take m) := by
  rw [← str_sb (s.extract k (k + m)), ext_sbL]; rfl
theorem restL_drop (s : ByteArray) (k m : Nat) : (restL s k).drop m = restL s (k + m) := by unfold restL; rw [List.drop_drop]
theorem restL_bd (s : ByteArray) (k : Nat) : Bytes (restL s k) := fun a ha => sb_bd s a (List.mem_of_mem_drop ha)
/-- How far it is to the end: for a loop's measure. -/
def lxm (b n : Nat) (w : World) : Nat := n - (match w.cell? ⟨b, 1, none⟩ with | some (.int _ m) => m.toNat | _ => 0)
theorem LxAt.lxm {w : World} {b : Nat} {s : ByteArray} {k : Nat} (h : LxAt w b s k) (n : Nat) : lxm b n w = n - k := by
  unfold Go.Proofs.YtdfpalocnijefaaGreatDoor.lxm; rw [h.facts.2]; rfl
/-- What such a span leaves. -/
def Took (p : Int → Bool) (s : ByteArray) (b k : Nat) (w : World) (e : Ending) (w' : World) : Prop :=
  w.grownBy w' (some b) ∧ e = .returned (.string (strOfNums ((restL s k).takeWhile p))) ∧ LxAt w' b s (k + ((restL s k).takeWhile p).length)
theorem took_end {p : Int → Bool} {s : ByteArray} {b k m : Nat} {w wr : World} (hg : w.grownBy wr (some b)) (hall : ∀ x ∈ (restL s k).take m, p x = true) (hstop : ∀ x, (restL s k)[m]? = some x → p x = false) (hm : k + m ≤ s.size)
    (hr : LxAt wr b s (k + m)) (e : Ending) (he : e = .returned (.string (s.extract k (k + m)))) : Took p s b k w e wr := by
  have hsp := span_stop p (restL s k) m hall hstop
  have hlen : ((restL s k).take m).length = m := by rw [List.length_take, length_restL]; omega
  refine ⟨hg, ?_, ?_⟩
  · rw [hsp, he, restL_cut]
  · rw [hsp, hlen]; exact hr

set_option maxRecDepth 100000 in
set_option maxHeartbeats 800000 in
theorem whileBlank_any (b : Nat) (s : ByteArray) (k : Nat) (w : World) (h : LxAt w b s k) (_hs : s.size ≤ 1000000) (_hk : k ≤ s.size) :
    Calls Tryz.prog 70 #[.pointer (some ⟨b, 0, none⟩), .func (.func 71) #[] #[]] w (Took isBl s b k w) := by
  have HR := Lib.hid h
  obtain ⟨c0, c1⟩ := h.facts
  clear h
  go_enter Tryz.func70, Tryz.ntmps70
  go_wp2_with fail
  clear c0 c1
  go_loopw [] (fun wr => ∃ m : Nat, k + m ≤ s.size ∧ Hid (∀ x ∈ (restL s k).take m, isBl x = true) ∧ Hid (LxAt wr b s (k + m)) ∧ Hid (w.grownBy wr (some b)))
    (fun wr => lxm b s.size wr)
  case atStart => exact ⟨0, by omega, Lib.hid (by simp), HR, Lib.hid (grownBy.refl' _ _)⟩
  case round =>
    obtain ⟨m, hkm, HM, HRD, HG⟩ := hrel
    obtain ⟨c0, c1⟩ := HRD.out.facts
    have f1 := HRD.out.frozen 1
    obtain ⟨p, hp⟩ : ∃ p : Nat, k + m = p := ⟨_, rfl⟩
    rw [hp] at c1
    have hz1 : (0 : Int) ≤ (k : Int) := by omega
    have hz2 : (k : Int) ≤ (p : Int) := by omega
    have hz3 : (p : Int) ≤ (s.size : Int) := by omega
    have hz4 : (0 : Int) ≤ (p : Int) := by omega
    by_cases hlt : p < s.size
    · have hlt2 : (p : Int) < (s.size : Int) := by omega
      obtain ⟨a, ha⟩ : ∃ a : Int, (s[p].toNat : Int) = a := ⟨_, rfl⟩
      have ha1 : 0 ≤ a ∧ a ≤ 255 := by have := s[p].toNat_lt; omega
      have hnx : (restL s k).take (m + 1) = (restL s k).take m ++ [a] := by subst hp; rw [restL_take s k m hlt, ha]
      have hat : (restL s k)[m]? = some a := by subst hp; rw [restL_at s k m hlt, ha]
      have HNX := Lib.hid hnx; clear hnx
      have HAT := Lib.hid hat; clear hat
      have HP := Lib.hid hp; clear hp
      by_cases hc : isBl a = true
      · have hall := all_snoc HM.out hc
        rw [← HNX.out] at hall
        have HALL := Lib.hid hall; clear hall
        go_wp2_with fail
        go_quiet ((go_at_call 71; exact quiet_call (lexBlank_any _ (by omega) (by omega) _)))
        go_wp2_with fail
        go_roundw
        case rel =>
          refine ⟨m + 1, by have := HP.out; omega, HALL, Lib.hid ?_, Lib.hid (grownBy.setCell' (grownBy.drewN' HG.out _) _ _)⟩
          rw [show k + (m + 1) = p + 1 from by have := HP.out; omega]
          exact (HRD.out.drewN _).setK (p + 1)
        case measure =>
          have h1 := ((HRD.out.drewN nq).setK (p + 1)).lxm s.size
          have h2 := HRD.out.lxm s.size
          have h3 := HP.out
          rw [h2]
          refine Nat.lt_of_le_of_lt (Nat.le_of_eq h1) (by omega)
      · have hc' : isBl a = false := by simpa using hc
        clear hc
        go_wp2_with fail
        go_quiet ((go_at_call 71; exact quiet_call (lexBlank_any _ (by omega) (by omega) _)))
        go_wp2_with fail
        go_quiet (fail)
        go_wp2_with fail
        go_ret
        have h3 := HP.out
        exact took_end (grownBy.drewN' (grownBy.drewN' HG.out _) _) HM.out (fun x hx => by rw [HAT.out] at hx; injection hx with hx; rw [← hx]; exact hc') (by omega) ((HRD.out.drewN _).drewN _) _ (by rw [h3]; rfl)
    · have hlt2 : ¬ (p : Int) < (s.size : Int) := by omega
      have HP := Lib.hid hp; clear hp
      go_wp2_with fail
      go_quiet (fail)
      go_wp2_with fail
      go_quiet (fail)
      go_wp2_with fail
      go_ret
      have h3 := HP.out
      exact took_end (grownBy.drewN' (grownBy.drewN' HG.out _) _) HM.out (fun x hx => by have h1 := (List.getElem?_eq_some_iff.1 hx).1; rw [length_restL] at h1; omega) (by omega) ((HRD.out.drewN _).drewN _) _ (by rw [h3]; rfl)

set_option maxRecDepth 100000 in
set_option maxHeartbeats 800000 in
theorem whileDigit_any (b : Nat) (s : ByteArray) (k : Nat) (w : World) (h : LxAt w b s k) (_hs : s.size ≤ 1000000) (_hk : k ≤ s.size) :
    Calls Tryz.prog 70 #[.pointer (some ⟨b, 0, none⟩), .func (.func 110) #[] #[]] w (Took isNum s b k w) := by
  have HR := Lib.hid h
  obtain ⟨c0, c1⟩ := h.facts
  clear h
  go_enter Tryz.func70, Tryz.ntmps70
  go_wp2_with fail
  clear c0 c1
  go_loopw [] (fun wr => ∃ m : Nat, k + m ≤ s.size ∧ Hid (∀ x ∈ (restL s k).take m, isNum x = true) ∧ Hid (LxAt wr b s (k + m)) ∧ Hid (w.grownBy wr (some b)))
    (fun wr => lxm b s.size wr)
  case atStart => exact ⟨0, by omega, Lib.hid (by simp), HR, Lib.hid (grownBy.refl' _ _)⟩
  case round =>
    obtain ⟨m, hkm, HM, HRD, HG⟩ := hrel
    obtain ⟨c0, c1⟩ := HRD.out.facts
    have f1 := HRD.out.frozen 1
    obtain ⟨p, hp⟩ : ∃ p : Nat, k + m = p := ⟨_, rfl⟩
    rw [hp] at c1
    have hz1 : (0 : Int) ≤ (k : Int) := by omega
    have hz2 : (k : Int) ≤ (p : Int) := by omega
    have hz3 : (p : Int) ≤ (s.size : Int) := by omega
    have hz4 : (0 : Int) ≤ (p : Int) := by omega
    by_cases hlt : p < s.size
    · have hlt2 : (p : Int) < (s.size : Int) := by omega
      obtain ⟨a, ha⟩ : ∃ a : Int, (s[p].toNat : Int) = a := ⟨_, rfl⟩
      have ha1 : 0 ≤ a ∧ a ≤ 255 := by have := s[p].toNat_lt; omega
      have hnx : (restL s k).take (m + 1) = (restL s k).take m ++ [a] := by subst hp; rw [restL_take s k m hlt, ha]
      have hat : (restL s k)[m]? = some a := by subst hp; rw [restL_at s k m hlt, ha]
      have HNX := Lib.hid hnx; clear hnx
      have HAT := Lib.hid hat; clear hat
      have HP := Lib.hid hp; clear hp
      by_cases hc : isNum a = true
      · have hall := all_snoc HM.out hc
        rw [← HNX.out] at hall
        have HALL := Lib.hid hall; clear hall
        go_wp2_with fail
        go_quiet ((go_at_call 110; exact quiet_call (lexDigit_any _ (by omega) (by omega) _)))
        go_wp2_with fail
        go_roundw
        case rel =>
          refine ⟨m + 1, by have := HP.out; omega, HALL, Lib.hid ?_, Lib.hid (grownBy.setCell' (grownBy.drewN' HG.out _) _ _)⟩
          rw [show k + (m + 1) = p + 1 from by have := HP.out; omega]
          exact (HRD.out.drewN _).setK (p + 1)
        case measure =>
          have h1 := ((HRD.out.drewN nq).setK (p + 1)).lxm s.size
          have h2 := HRD.out.lxm s.size
          have h3 := HP.out
          rw [h2]
          refine Nat.lt_of_le_of_lt (Nat.le_of_eq h1) (by omega)
      · have hc' : isNum a = false := by simpa using hc
        clear hc
        go_wp2_with fail
        go_quiet ((go_at_call 110; exact quiet_call (lexDigit_any _ (by omega) (by omega) _)))
        go_wp2_with fail
        go_quiet (fail)
        go_wp2_with fail
        go_ret
        have h3 := HP.out
        exact took_end (grownBy.drewN' (grownBy.drewN' HG.out _) _) HM.out (fun x hx => by rw [HAT.out] at hx; injection hx with hx; rw [← hx]; exact hc') (by omega) ((HRD.out.drewN _).drewN _) _ (by rw [h3]; rfl)
    · have hlt2 : ¬ (p : Int) < (s.size : Int) := by omega
      have HP := Lib.hid hp; clear hp
      go_wp2_with fail
      go_quiet (fail)
      go_wp2_with fail
      go_quiet (fail)
      go_wp2_with fail
      go_ret
      have h3 := HP.out
      exact took_end (grownBy.drewN' (grownBy.drewN' HG.out _) _) HM.out (fun x hx => by have h1 := (List.getElem?_eq_some_iff.1 hx).1; rw [length_restL] at h1; omega) (by omega) ((HRD.out.drewN _).drewN _) _ (by rw [h3]; rfl)

set_option maxRecDepth 100000 in
set_option maxHeartbeats 800000 in
theorem whileWord_any (b : Nat) (s : ByteArray) (k : Nat) (w : World) (h : LxAt w b s k) (_hs : s.size ≤ 1000000) (_hk : k ≤ s.size) :
    Calls Tryz.prog 70 #[.pointer (some ⟨b, 0, none⟩), .func (.func 133) #[] #[]] w (Took isWord s b k w) := by
  have HR := Lib.hid h
  obtain ⟨c0, c1⟩ := h.facts
  clear h
  go_enter Tryz.func70, Tryz.ntmps70
  go_wp2_with fail
  clear c0 c1
  go_loopw [] (fun wr => ∃ m : Nat, k + m ≤ s.size ∧ Hid (∀ x ∈ (restL s k).take m, isWord x = true) ∧ Hid (LxAt wr b s (k + m)) ∧ Hid (w.grownBy wr (some b)))
    (fun wr => lxm b s.size wr)
  case atStart => exact ⟨0, by omega, Lib.hid (by simp), HR, Lib.hid (grownBy.refl' _ _)⟩
  case round =>
    obtain ⟨m, hkm, HM, HRD, HG⟩ := hrel
    obtain ⟨c0, c1⟩ := HRD.out.facts
    have f1 := HRD.out.frozen 1
    obtain ⟨p, hp⟩ : ∃ p : Nat, k + m = p := ⟨_, rfl⟩
    rw [hp] at c1
    have hz1 : (0 : Int) ≤ (k : Int) := by omega
    have hz2 : (k : Int) ≤ (p : Int) := by omega
    have hz3 : (p : Int) ≤ (s.size : Int) := by omega
    have hz4 : (0 : Int) ≤ (p : Int) := by omega
    by_cases hlt : p < s.size
    · have hlt2 : (p : Int) < (s.size : Int) := by omega
      obtain ⟨a, ha⟩ : ∃ a : Int, (s[p].toNat : Int) = a := ⟨_, rfl⟩
      have ha1 : 0 ≤ a ∧ a ≤ 255 := by have := s[p].toNat_lt; omega
      have hnx : (restL s k).take (m + 1) = (restL s k).take m ++ [a] := by subst hp; rw [restL_take s k m hlt, ha]
      have hat : (restL s k)[m]? = some a := by subst hp; rw [restL_at s k m hlt, ha]
      have HNX := Lib.hid hnx; clear hnx
      have HAT := Lib.hid hat; clear hat
      have HP := Lib.hid hp; clear hp
      by_cases hc : isWord a = true
      · have hall := all_snoc HM.out hc
        rw [← HNX.out] at hall
        have HALL := Lib.hid hall; clear hall
        go_wp2_with fail
        go_quiet ((go_at_call 133; exact quiet_call (isOfWord_any _ (by omega) (by omega) _)))
        go_wp2_with fail
        go_roundw
        case rel =>
          refine ⟨m + 1, by have := HP.out; omega, HALL, Lib.hid ?_, Lib.hid (grownBy.setCell' (grownBy.drewN' HG.out _) _ _)⟩
          rw [show k + (m + 1) = p + 1 from by have := HP.out; omega]
          exact (HRD.out.drewN _).setK (p + 1)
        case measure =>
          have h1 := ((HRD.out.drewN nq).setK (p + 1)).lxm s.size
          have h2 := HRD.out.lxm s.size
          have h3 := HP.out
          rw [h2]
          refine Nat.lt_of_le_of_lt (Nat.le_of_eq h1) (by omega)
      · have hc' : isWord a = false := by simpa using hc
        clear hc
        go_wp2_with fail
        go_quiet ((go_at_call 133; exact quiet_call (isOfWord_any _ (by omega) (by omega) _)))
        go_wp2_with fail
        go_quiet (fail)
        go_wp2_with fail
        go_ret
        have h3 := HP.out
        exact took_end (grownBy.drewN' (grownBy.drewN' HG.out _) _) HM.out (fun x hx => by rw [HAT.out] at hx; injection hx with hx; rw [← hx]; exact hc') (by omega) ((HRD.out.drewN _).drewN _) _ (by rw [h3]; rfl)
    · have hlt2 : ¬ (p : Int) < (s.size : Int) := by omega
      have HP := Lib.hid hp; clear hp
      go_wp2_with fail
      go_quiet (fail)
      go_wp2_with fail
      go_quiet (fail)
      go_wp2_with fail
      go_ret
      have h3 := HP.out
      exact took_end (grownBy.drewN' (grownBy.drewN' HG.out _) _) HM.out (fun x hx => by have h1 := (List.getElem?_eq_some_iff.1 hx).1; rw [length_restL] at h1; omega) (by omega) ((HRD.out.drewN _).drewN _) _ (by rw [h3]; rfl)
end Go.Proofs.YtdfpalocnijefaaGreatDoor

/-
  Layer 4, the program: blanks; a text that stands there; names; by which method a token is read.
-/
namespace Go.Proofs.YtdfpalocnijefaaGreatDoor
open Go.RowKit

set_option maxHeartbeats 400000 in
theorem skipBlanks_any (b : Nat) (s : ByteArray) (k : Nat) (w : World) (h : LxAt w b s k) (_hs : s.size ≤ 1000000) (_hk : k ≤ s.size) :
    Calls Tryz.prog 39 #[.pointer (some ⟨b, 0, none⟩)] w fun e w' => w.grownBy w' (some b) ∧ e = .returned (.tuple #[]) ∧ LxAt w' b s (k + ((restL s k).takeWhile isBl).length) := by
  have HW := Lib.hid (whileBlank_any b s k w h _hs _hk); clear h
  go_enter Tryz.func39, Tryz.ntmps39
  go_wp2_with (go_at_call 70; ((with_reducible refine HW.out.mono ?_); rintro e w1 ⟨h1, rfl, h2⟩; have H1 := Lib.hid h1; have H2 := Lib.hid h2; clear h1 h2))
  first
    | exact bodyPost_ret (results_none rfl _ _ _) rfl ⟨H1.out, rfl, H2.out⟩
    | (go_end0; exact ⟨H1.out, rfl, H2.out⟩)

/-- Whether a text stands at the head. -/
def headL (p l : List Int) : Bool := decide (l.take p.length = p)
theorem hasPrefix_nums : ∀ (l p : List UInt8), Lib.hasPrefix l p = headL (p.map fun x => (x.toNat : Int)) (l.map fun x => (x.toNat : Int))
  | l, [] => by unfold Lib.hasPrefix headL; simp
  | [], x :: p => by unfold Lib.hasPrefix headL; simp
  | y :: l, x :: p => by
    have ih := hasPrefix_nums l p
    unfold Lib.hasPrefix headL at ih ⊢
    rw [List.isPrefixOf_cons_cons, ih]
    simp only [List.map_cons, List.length_cons, List.take_succ_cons, List.cons.injEq]
    rw [Bool.eq_iff_iff, Bool.and_eq_true, beq_iff_eq, decide_eq_true_iff, decide_eq_true_iff]
    refine and_congr ⟨fun h => by rw [h], fun h => ?_⟩ Iff.rfl
    apply UInt8.toNat_inj.1; omega
theorem headL_len {p l : List Int} (h : headL p l = true) : p.length ≤ l.length := by
  unfold headL at h; rw [decide_eq_true_iff] at h
  have := congrArg List.length h
  rw [List.length_take] at this; omega
theorem prefix_rest (s t : ByteArray) (k : Nat) : Lib.hasPrefix (s.extract k s.size).data.toList t.data.toList = headL (sb t) (restL s k) := by
  rw [hasPrefix_nums]
  show headL (sb t) (sb (s.extract k s.size)) = _
  congr 1
  by_cases hk : k ≤ s.size
  · have := ext_sbL s k (s.size - k)
    rw [show k + (s.size - k) = s.size from by omega] at this
    rw [this]
    unfold restL
    rw [List.take_of_length_le]
    rw [List.length_drop, length_sb]; omega
  · have h1 : (sb (s.extract k s.size)).length = 0 := by rw [length_sb, ByteArray.size_extract]; omega
    have h2 : (restL s k).length = 0 := by rw [length_restL]; omega
    rw [List.eq_nil_of_length_eq_zero h1, List.eq_nil_of_length_eq_zero h2]

set_option maxHeartbeats 400000 in
theorem take_any (b : Nat) (s t : ByteArray) (k : Nat) (w : World) (h : LxAt w b s k) (_hs : s.size ≤ 1000000) (_hk : k ≤ s.size) (_ht : t.size ≤ 1000000) :
    Calls Tryz.prog 131 #[.pointer (some ⟨b, 0, none⟩), .string t] w fun e w' => w.grownBy w' (some b) ∧ e = .returned (.bool (headL (sb t) (restL s k))) ∧ LxAt w' b s (if headL (sb t) (restL s k) = true then k + t.size else k) := by
  obtain ⟨c0, c1⟩ := h.facts
  have f1 := h.frozen 1
  have HR := Lib.hid h; clear h
  have hz1 : (0 : Int) ≤ (k : Int) := by omega
  have hz2 : (k : Int) ≤ (s.size : Int) := by omega
  cases hq : headL (sb t) (restL s k)
  · have HP := Lib.hid (prefix_rest s t k); rw [hq] at HP
    go_enter Tryz.func131, Tryz.ntmps131
    go_wp2_with fail
    go_quiet ((go_at_call 144; exact Calls.quiet_of_same ((Tryz.strings_HasPrefix _ _ _).mono (fun _ _ ⟨a, c⟩ => ⟨by rw [a, HP.out], c⟩))))
    go_wp2_with fail
    go_ret
    exact ⟨grownBy.drewN' (grownBy.refl' _ _) _, rfl, HR.out.drewN _⟩
  · have HP := Lib.hid (prefix_rest s t k); rw [hq] at HP
    have hle := headL_len hq
    rw [length_restL, length_sb] at hle
    go_enter Tryz.func131, Tryz.ntmps131
    go_wp2_with fail
    go_quiet ((go_at_call 144; exact Calls.quiet_of_same ((Tryz.strings_HasPrefix _ _ _).mono (fun _ _ ⟨a, c⟩ => ⟨by rw [a, HP.out], c⟩))))
    go_wp2_with fail
    go_ret
    exact ⟨grownBy.setCell' (grownBy.drewN' (grownBy.refl' _ _) _) _ _, rfl, (HR.out.drewN _).setK (k + t.size)⟩

/-- Capital letters and digits, few. -/
def nmL (l : List Int) : Bool := decide (∀ x ∈ l, (isCap x || isNum x) = true) && decide (l.length ≤ 12)
theorem nmL_bad (s : ByteArray) (k : Nat) (h : k < s.size) (hx : (isCap ((sb s).getD k 0) || isNum ((sb s).getD k 0)) = false) : nmL (sb s) = false := by
  unfold nmL; rw [Bool.and_eq_false_iff]; left; rw [decide_eq_false_iff_not]; intro hall
  have := hall ((sb s).getD k 0) (by rw [sb_getD s k h]; exact List.mem_of_getElem? (sb_at s k h))
  rw [hx] at this; cases this
theorem nmL_all (s : ByteArray) (h : ∀ j, j < s.size → (isCap ((sb s).getD j 0) || isNum ((sb s).getD j 0)) = true) : nmL (sb s) = decide (s.size ≤ 12) := by
  unfold nmL; rw [decide_eq_true (show ∀ x ∈ sb s, (isCap x || isNum x) = true from ?_), Bool.true_and, length_sb]
  intro x hx
  obtain ⟨j, hj, rfl⟩ := List.mem_iff_getElem.1 hx
  have := h j (by rw [length_sb] at hj; exact hj)
  rw [List.getD_eq_getElem?_getD, List.getElem?_eq_getElem hj] at this
  exact this

set_option maxRecDepth 100000 in
set_option maxHeartbeats 400000 in
theorem isName_any (s : ByteArray) (w : World) (_hs : s.size ≤ 1000000) :
    Calls Tryz.prog 135 #[.string s] w fun e w' => e = .returned (.bool (nmL (sb s))) ∧ w = w' := by
  go_enter Tryz.func135, Tryz.ntmps135
  go_wp2_with fail
  go_loopw [6] (fun i wr => ∃ k : Nat, k ≤ s.size ∧ i = .int .i64 k ∧ Hid (∀ j, j < k → (isCap ((sb s).getD j 0) || isNum ((sb s).getD j 0)) = true) ∧ w = wr)
    (fun i _ => s.size - (intOf i).toNat)
  case atStart => exact ⟨0, by omega, rfl, Lib.hid (by intro j hj; omega), rfl⟩
  case round =>
    obtain ⟨k, hk, rfl, HG, rfl⟩ := hrel
    by_cases hlt : k < s.size
    · have hki : (k : Int) < (s.size : Int) := by omega
      obtain ⟨a, ha⟩ : ∃ a : Int, (s[k].toNat : Int) = a := ⟨_, rfl⟩
      have ha1 : 0 ≤ a ∧ a ≤ 255 := by have := s[k].toNat_lt; omega
      have HGB := Lib.hid (show (sb s).getD k 0 = a by rw [sb_getD s k hlt, ha])
      have hnext : (isCap a || isNum a) = true → ∀ j, j < k + 1 → (isCap ((sb s).getD j 0) || isNum ((sb s).getD j 0)) = true := by
        intro h j hj
        by_cases h1 : j < k
        · exact HG.out j h1
        · rw [show j = k from by omega, HGB.out]; exact h
      have HNEXT := Lib.hid hnext; clear hnext
      cases hc : isCap a
      · cases hn : isNum a
        · have HNO := Lib.hid (nmL_bad s k hlt (by rw [HGB.out, hc, hn]; rfl))
          go_wp2_with (first
            | (go_at_call 132; ((with_reducible refine (lexCapital_any _ ?_ ?_ _).mono ?_); (first | omega | skip); (first | omega | skip); rintro e w' ⟨rfl, rfl⟩; rw [hc]))
            | (go_at_call 110; ((with_reducible refine (lexDigit_any _ ?_ ?_ _).mono ?_); (first | omega | skip); (first | omega | skip); rintro e w' ⟨rfl, rfl⟩; rw [hn])))
          go_ret
          exact ⟨ret_bool HNO.out.symm, rfl⟩
        · go_wp2_with (first
            | (go_at_call 132; ((with_reducible refine (lexCapital_any _ ?_ ?_ _).mono ?_); (first | omega | skip); (first | omega | skip); rintro e w' ⟨rfl, rfl⟩; rw [hc]))
            | (go_at_call 110; ((with_reducible refine (lexDigit_any _ ?_ ?_ _).mono ?_); (first | omega | skip); (first | omega | skip); rintro e w' ⟨rfl, rfl⟩; rw [hn])))
          go_roundw
          case rel => exact ⟨k + 1, by omega, by go_num, Lib.hid (HNEXT.out (by rw [hc, hn]; rfl)), by trivial⟩
          case measure => simp [intOf]; omega
      · go_wp2_with (first
          | (go_at_call 132; ((with_reducible refine (lexCapital_any _ ?_ ?_ _).mono ?_); (first | omega | skip); (first | omega | skip); rintro e w' ⟨rfl, rfl⟩; rw [hc])))
        go_roundw
        case rel => exact ⟨k + 1, by omega, by go_num, Lib.hid (HNEXT.out (by rw [hc]; rfl)), by trivial⟩
        case measure => simp [intOf]; omega
    · have hki : ¬ (k : Int) < (s.size : Int) := by omega
      have HA := Lib.hid (nmL_all s (fun j hj => HG.out j (by omega)))
      go_wp2_with fail
      go_ret
      refine ⟨ret_bool (by rw [HA.out, decide_eq_decide]; omega), rfl⟩

/-- By which method what begins with c is read. -/
def methN (c : Int) : FuncId := if isNum c = true then 111 else if c = 34 then 112 else if c = 35 then 113 else if isBeg c = true then 115 else 116
theorem methN_num {c : Int} (h : isNum c = true) : methN c = 111 := by unfold methN; rw [if_pos h]
theorem methN_quo {c : Int} (h : isNum c = false) (h1 : c = 34) : methN c = 112 := by unfold methN; rw [if_neg (by simp [h]), if_pos h1]
theorem methN_dead {c : Int} (h : isNum c = false) (h1 : ¬ c = 34) (h2 : c = 35) : methN c = 113 := by unfold methN; rw [if_neg (by simp [h]), if_neg h1, if_pos h2]
theorem methN_word {c : Int} (h : isNum c = false) (h1 : ¬ c = 34) (h2 : ¬ c = 35) (h3 : isBeg c = true) : methN c = 115 := by unfold methN; rw [if_neg (by simp [h]), if_neg h1, if_neg h2, if_pos h3]
theorem methN_sign {c : Int} (h : isNum c = false) (h1 : ¬ c = 34) (h2 : ¬ c = 35) (h3 : isBeg c = false) : methN c = 116 := by unfold methN; rw [if_neg (by simp [h]), if_neg h1, if_neg h2, if_neg (by simp [h3])]
set_option maxHeartbeats 400000 in
theorem methodOf_any (c : Int) (_h0 : 0 ≤ c) (_h1 : c ≤ 255) (w : World) :
    Calls Tryz.prog 72 #[.int .u8 c] w fun e w' => e = .returned (.func (.func (methN c)) #[] #[]) ∧ w = w' := by
  cases hn : isNum c
  · by_cases h34 : c = 34
    · have HM := Lib.hid (methN_quo hn h34)
      have hb1 : (c == 34) = true := beq_iff_eq.2 h34
      clear h34
      go_enter Tryz.func72, Tryz.ntmps72
      go_wp2_with (first
        | (go_at_call 110; ((with_reducible refine (lexDigit_any _ ?_ ?_ _).mono ?_); (first | omega | skip); (first | omega | skip); rintro e w' ⟨rfl, rfl⟩; rw [hn]))
        | (go_at_call 114; ((with_reducible refine (beginsWord_any _ ?_ ?_ _).mono ?_); (first | omega | skip); (first | omega | skip); rintro e w' ⟨rfl, rfl⟩; rw [hb])))
      all_goals go_ret
      all_goals exact ⟨by rw [HM.out]; rfl, rfl⟩
    · have hb1 : (c == 34) = false := beq_eq_false_iff_ne.2 h34
      by_cases h35 : c = 35
      · have HM := Lib.hid (methN_dead hn h34 h35)
        have hb2 : (c == 35) = true := beq_iff_eq.2 h35
        clear h34 h35
        go_enter Tryz.func72, Tryz.ntmps72
        go_wp2_with (first
          | (go_at_call 110; ((with_reducible refine (lexDigit_any _ ?_ ?_ _).mono ?_); (first | omega | skip); (first | omega | skip); rintro e w' ⟨rfl, rfl⟩; rw [hn]))
          | (go_at_call 114; ((with_reducible refine (beginsWord_any _ ?_ ?_ _).mono ?_); (first | omega | skip); (first | omega | skip); rintro e w' ⟨rfl, rfl⟩; rw [hb])))
        all_goals go_ret
        all_goals exact ⟨by rw [HM.out]; rfl, rfl⟩
      · have hb2 : (c == 35) = false := beq_eq_false_iff_ne.2 h35
        cases hb : isBeg c
        · have HM := Lib.hid (methN_sign hn h34 h35 hb)
          clear h34 h35
          go_enter Tryz.func72, Tryz.ntmps72
          go_wp2_with (first
            | (go_at_call 110; ((with_reducible refine (lexDigit_any _ ?_ ?_ _).mono ?_); (first | omega | skip); (first | omega | skip); rintro e w' ⟨rfl, rfl⟩; rw [hn]))
            | (go_at_call 114; ((with_reducible refine (beginsWord_any _ ?_ ?_ _).mono ?_); (first | omega | skip); (first | omega | skip); rintro e w' ⟨rfl, rfl⟩; rw [hb])))
          all_goals go_ret
          all_goals exact ⟨by rw [HM.out]; rfl, rfl⟩
        · have HM := Lib.hid (methN_word hn h34 h35 hb)
          clear h34 h35
          go_enter Tryz.func72, Tryz.ntmps72
          go_wp2_with (first
            | (go_at_call 110; ((with_reducible refine (lexDigit_any _ ?_ ?_ _).mono ?_); (first | omega | skip); (first | omega | skip); rintro e w' ⟨rfl, rfl⟩; rw [hn]))
            | (go_at_call 114; ((with_reducible refine (beginsWord_any _ ?_ ?_ _).mono ?_); (first | omega | skip); (first | omega | skip); rintro e w' ⟨rfl, rfl⟩; rw [hb])))
          all_goals go_ret
          all_goals exact ⟨by rw [HM.out]; rfl, rfl⟩
  · have HM := Lib.hid (methN_num hn)
    go_enter Tryz.func72, Tryz.ntmps72
    go_wp2_with (first
      | (go_at_call 110; ((with_reducible refine (lexDigit_any _ ?_ ?_ _).mono ?_); (first | omega | skip); (first | omega | skip); rintro e w' ⟨rfl, rfl⟩; rw [hn]))
      | (go_at_call 114; ((with_reducible refine (beginsWord_any _ ?_ ?_ _).mono ?_); (first | omega | skip); (first | omega | skip); rintro e w' ⟨rfl, rfl⟩; skip)))
    all_goals go_ret
    all_goals exact ⟨by rw [HM.out]; rfl, rfl⟩
end Go.Proofs.YtdfpalocnijefaaGreatDoor

/-
  Layer 4, the program: what a method leaves; numbers.
-/
namespace Go.Proofs.YtdfpalocnijefaaGreatDoor
open Go.RowKit

/-- What a method of the reader leaves: a token and the place behind it, or a false. -/
def TokOut (o : Option (Tk × Nat)) (b : Nat) (s : ByteArray) (k : Nat) (w : World) (e : Ending) (w' : World) : Prop :=
  w.grownBy w' (some b) ∧ ((∃ t n, o = some (t, n) ∧ e = .returned (.tuple #[.agg (tokA t), .bool true]) ∧ LxAt w' b s (k + n)) ∨ (o = none ∧ ∃ t, e = .returned (.tuple #[.agg (tokA t), .bool false])))
theorem grownBy.setNew {a w : World} {r : Option Nat} (h : a.grownBy w r) (ad : Addr) (v : Value) (hg : a.heap.size ≤ ad.block) : a.grownBy (w.setCell ad v) r :=
  ⟨h.os, h.tape, h.output, by simpa using h.size, fun j hj hr => by
    rw [Below.heap_setCell _ _ _ _ (by intro e; omega)]; exact h.block j hj hr⟩
theorem grownBy.set9 {a w : World} {r : Option Nat} {g : Nat} (h : a.grownBy w r) (hg : a.heap.size ≤ g) (v0 v1 v2 v3 v4 v5 v6 v7 v8 : Value) :
    a.grownBy (((((((((w.setCell ⟨g, 0, none⟩ v0).setCell ⟨g, 1, none⟩ v1).setCell ⟨g, 2, none⟩ v2).setCell ⟨g, 3, none⟩ v3).setCell ⟨g, 4, none⟩ v4).setCell ⟨g, 5, none⟩ v5).setCell ⟨g, 6, none⟩ v6).setCell ⟨g, 7, none⟩ v7).setCell ⟨g, 8, none⟩ v8) r :=
  grownBy.setNew (grownBy.setNew (grownBy.setNew (grownBy.setNew (grownBy.setNew (grownBy.setNew (grownBy.setNew (grownBy.setNew (grownBy.setNew (h) _ _ hg) _ _ hg) _ _ hg) _ _ hg) _ _ hg) _ _ hg) _ _ hg) _ _ hg) _ _ hg
theorem LxAt.other {w : World} {b : Nat} {s : ByteArray} {k : Nat} (h : LxAt w b s k) (ad : Addr) (v : Value) (hne : ad.block ≠ b) : LxAt (w.setCell ad v) b s k := by
  unfold LxAt; rw [Below.heap_setCell _ _ _ _ (by intro e; exact hne e.symm)]; exact h
theorem LxAt.set9 {w : World} {b : Nat} {s : ByteArray} {k g : Nat} (h : LxAt w b s k) (hg : g ≠ b) (v0 v1 v2 v3 v4 v5 v6 v7 v8 : Value) :
    LxAt (((((((((w.setCell ⟨g, 0, none⟩ v0).setCell ⟨g, 1, none⟩ v1).setCell ⟨g, 2, none⟩ v2).setCell ⟨g, 3, none⟩ v3).setCell ⟨g, 4, none⟩ v4).setCell ⟨g, 5, none⟩ v5).setCell ⟨g, 6, none⟩ v6).setCell ⟨g, 7, none⟩ v7).setCell ⟨g, 8, none⟩ v8) b s k :=
  ((((((((h.other _ _ hg).other _ _ hg).other _ _ hg).other _ _ hg).other _ _ hg).other _ _ hg).other _ _ hg).other _ _ hg).other _ _ hg
theorem TkAt.cells {w : World} {b : Nat} {t : Tk} (h : TkAt w b t) : w.cell? ⟨b, 0, none⟩ = some (.int .i64 t.kind) ∧ w.cell? ⟨b, 1, none⟩ = some (.string t.text) ∧ w.cell? ⟨b, 2, none⟩ = some (.int .i64 t.num) ∧ w.cell? ⟨b, 3, none⟩ = some (.string t.sh) ∧ w.cell? ⟨b, 4, none⟩ = some (.int .i64 t.c) ∧ w.cell? ⟨b, 5, none⟩ = some (.int .i64 t.r) ∧ w.cell? ⟨b, 6, none⟩ = some (.bool t.ac) ∧ w.cell? ⟨b, 7, none⟩ = some (.bool t.ar) ∧ w.cell? ⟨b, 8, none⟩ = some (.int .i64 t.pos) :=
  ⟨by rw [cell_of_row w b 0 _ _ _ h]; rfl, by rw [cell_of_row w b 1 _ _ _ h]; rfl, by rw [cell_of_row w b 2 _ _ _ h]; rfl, by rw [cell_of_row w b 3 _ _ _ h]; rfl, by rw [cell_of_row w b 4 _ _ _ h]; rfl, by rw [cell_of_row w b 5 _ _ _ h]; rfl, by rw [cell_of_row w b 6 _ _ _ h]; rfl, by rw [cell_of_row w b 7 _ _ _ h]; rfl, by rw [cell_of_row w b 8 _ _ _ h]; rfl⟩
theorem TkAt.melts {w : World} {b : Nat} {t : Tk} (h : TkAt w b t) : w.frozen? ⟨b, 0, none⟩ = false ∧ w.frozen? ⟨b, 1, none⟩ = false ∧ w.frozen? ⟨b, 2, none⟩ = false ∧ w.frozen? ⟨b, 3, none⟩ = false ∧ w.frozen? ⟨b, 4, none⟩ = false ∧ w.frozen? ⟨b, 5, none⟩ = false ∧ w.frozen? ⟨b, 6, none⟩ = false ∧ w.frozen? ⟨b, 7, none⟩ = false ∧ w.frozen? ⟨b, 8, none⟩ = false :=
  ⟨h.frozen 0, h.frozen 1, h.frozen 2, h.frozen 3, h.frozen 4, h.frozen 5, h.frozen 6, h.frozen 7, h.frozen 8⟩
/-- A new token's cells, as the walk writes them. -/
abbrev zTok : Array Value := #[.int .i64 0, .string ⟨#[]⟩, .int .i64 0, .string ⟨#[]⟩, .int .i64 0, .int .i64 0, .bool false, .bool false, .int .i64 0]
theorem TkAt.zero (w : World) : TkAt (w.alloc (.cells zTok 54)) w.heap.size Tk.zero := TkAt.new w Tk.zero
/-- A token stored whole into a block that holds one. -/
theorem wpList_store_tok {ops : Array Oper} {rest : List Oper} {op : Oper} {a : Act} {w : World} {Q : Exit → Act → World → Prop} (hgd : op.guard = none) (x y : Operand) (ho : op.op = .store 54 x y)
    (g : Nat) (t0 t : Tk) (hx : a.eval x = .pointer (some ⟨g, 0, none⟩)) (hy : a.eval y = .agg (tokA t)) (hr : TkAt w g t0)
    (h : ∀ w', TkAt w' g t → w.grownBy w' (some g) → wpList Tryz.prog ops Q rest (a.put op.dst undef) w') : wpList Tryz.prog ops Q (op :: rest) a w :=
  wpList_store_row hgd 54 x y ho g 54 _ _ hx hy hr rfl tok_size (tok_one t) (h _ (setRow_heap w g _ _ _ _ hr) (grownBy.setRow' (grownBy.refl' w _) _))
theorem TkAt.load {w : World} {b : Nat} {t : Tk} (h : TkAt w b t) : (loadVar 54 ⟨b, 0, none⟩).run Tryz.prog w = .ok (.agg (tokA t)) w :=
  run_loadVar_row w b 54 54 _ _ _ h Tryz.underlying54 rfl tok_size
/-- The way out: a token out of its cell, a Bool beside it. -/
theorem out_tok {w : World} {b : Nat} {t : Tk} (h : TkAt w b t) (fn : Func) (tmps : Array Value) (ok : Bool) (p u : Tmp) (hf : fn.results = #[.cell p 54, .tmp u]) (hp : tmps.getD p undef = .pointer (some ⟨b, 0, none⟩)) (hu : tmps.getD u undef = .bool ok) :
    (results fn tmps).run Tryz.prog w = .ok (.tuple #[.agg (tokA t), .bool ok]) w := by
  rw [results_cell_tmp hf, hp, hu]
  simp [asAddr, h.load, Result.andThen]
theorem TkAt.set0 {w : World} {b : Nat} {t : Tk} (h : TkAt w b t) (x : Int) : TkAt (w.setCell ⟨b, 0, none⟩ (.int .i64 x)) b { t with kind := x } := by unfold TkAt; rw [heap_setCell_same w b 0 _ _ _ h]; rfl
theorem TkAt.set1 {w : World} {b : Nat} {t : Tk} (h : TkAt w b t) (x : ByteArray) : TkAt (w.setCell ⟨b, 1, none⟩ (.string x)) b { t with text := x } := by unfold TkAt; rw [heap_setCell_same w b 1 _ _ _ h]; rfl
theorem TkAt.set2 {w : World} {b : Nat} {t : Tk} (h : TkAt w b t) (x : Int) : TkAt (w.setCell ⟨b, 2, none⟩ (.int .i64 x)) b { t with num := x } := by unfold TkAt; rw [heap_setCell_same w b 2 _ _ _ h]; rfl
theorem TkAt.set3 {w : World} {b : Nat} {t : Tk} (h : TkAt w b t) (x : ByteArray) : TkAt (w.setCell ⟨b, 3, none⟩ (.string x)) b { t with sh := x } := by unfold TkAt; rw [heap_setCell_same w b 3 _ _ _ h]; rfl
theorem TkAt.set4 {w : World} {b : Nat} {t : Tk} (h : TkAt w b t) (x : Int) : TkAt (w.setCell ⟨b, 4, none⟩ (.int .i64 x)) b { t with c := x } := by unfold TkAt; rw [heap_setCell_same w b 4 _ _ _ h]; rfl
theorem TkAt.set5 {w : World} {b : Nat} {t : Tk} (h : TkAt w b t) (x : Int) : TkAt (w.setCell ⟨b, 5, none⟩ (.int .i64 x)) b { t with r := x } := by unfold TkAt; rw [heap_setCell_same w b 5 _ _ _ h]; rfl
theorem TkAt.set6 {w : World} {b : Nat} {t : Tk} (h : TkAt w b t) (x : Bool) : TkAt (w.setCell ⟨b, 6, none⟩ (.bool x)) b { t with ac := x } := by unfold TkAt; rw [heap_setCell_same w b 6 _ _ _ h]; rfl
theorem TkAt.set7 {w : World} {b : Nat} {t : Tk} (h : TkAt w b t) (x : Bool) : TkAt (w.setCell ⟨b, 7, none⟩ (.bool x)) b { t with ar := x } := by unfold TkAt; rw [heap_setCell_same w b 7 _ _ _ h]; rfl
theorem TkAt.set8 {w : World} {b : Nat} {t : Tk} (h : TkAt w b t) (x : Int) : TkAt (w.setCell ⟨b, 8, none⟩ (.int .i64 x)) b { t with pos := x } := by unfold TkAt; rw [heap_setCell_same w b 8 _ _ _ h]; rfl
theorem TkAt.put9 {w : World} {b : Nat} {t0 : Tk} (h : TkAt w b t0) (t : Tk) : TkAt (((((((((w.setCell ⟨b, 0, none⟩ (.int .i64 t.kind)).setCell ⟨b, 1, none⟩ (.string t.text)).setCell ⟨b, 2, none⟩ (.int .i64 t.num)).setCell ⟨b, 3, none⟩ (.string t.sh)).setCell ⟨b, 4, none⟩ (.int .i64 t.c)).setCell ⟨b, 5, none⟩ (.int .i64 t.r)).setCell ⟨b, 6, none⟩ (.bool t.ac)).setCell ⟨b, 7, none⟩ (.bool t.ar)).setCell ⟨b, 8, none⟩ (.int .i64 t.pos)) b t := by
  have h9 := (((((((((h.set0 t.kind).set1 t.text).set2 t.num).set3 t.sh).set4 t.c).set5 t.r).set6 t.ac).set7 t.ar).set8 t.pos)
  exact h9

/-! The library's reading of digits. -/
theorem atoi_parse : ∀ (l : List UInt8) (a : Nat) (L : List Int), a < 18446744073709551616 → valL L = (a : Int) → (∀ c ∈ l, 48 ≤ c.toNat ∧ c.toNat ≤ 57) →
    Lib.parseUint10 a l = if valL (L ++ l.map fun x => (x.toNat : Int)) < 18446744073709551616 then .ok (valL (L ++ l.map fun x => (x.toNat : Int))).toNat else .range
  | [], a, L, ha, hL, _ => by
    simp only [List.map_nil, List.append_nil]
    rw [hL, if_pos (by omega)]; unfold Lib.parseUint10; simp
  | c :: l, a, L, ha, hL, h => by
    have hc := h c (by simp)
    have hv : valL (L ++ [(c.toNat : Int)]) = 10 * (a : Int) + ((c.toNat : Int) - 48) := by rw [valL_snoc, hL]
    have hge := valL_ge (l.map fun x => (x.toNat : Int)) (L ++ [(c.toNat : Int)]) (by
      intro x hx; rw [List.mem_map] at hx; obtain ⟨d, hd, rfl⟩ := hx
      have := h d (by simp [hd])
      unfold isNum; rw [decide_eq_true_iff]; omega) (by omega)
    have e : L ++ (c :: l).map (fun x => (x.toNat : Int)) = L ++ [(c.toNat : Int)] ++ l.map fun x => (x.toNat : Int) := by simp
    rw [e]
    unfold Lib.parseUint10
    rw [if_pos hc]
    by_cases h1 : 1844674407370955162 ≤ a
    · rw [if_pos h1, if_neg (by omega)]
    · rw [if_neg h1]
      by_cases h2 : 18446744073709551616 ≤ a * 10 + (c.toNat - 48)
      · rw [if_pos h2, if_neg (by omega)]
      · rw [if_neg h2]
        exact atoi_parse l (a * 10 + (c.toNat - 48)) (L ++ [(c.toNat : Int)]) (by omega) (by rw [hv]; omega) (fun d hd => h d (by simp [hd]))
theorem atoi_nums (D : ByteArray) (h0 : sb D ≠ []) (h : ∀ x ∈ sb D, isNum x = true) : Lib.atoiAll D.data.toList = if 9223372036854775807 < valL (sb D) then .range else .ok (valL (sb D)) := by
  have hsb : sb D = D.data.toList.map fun x => (x.toNat : Int) := rfl
  have hpos := valL_ge (sb D) [] h (by decide)
  rw [List.nil_append, show valL [] = 0 from rfl] at hpos
  rw [hsb] at h0 h hpos ⊢
  cases hl : D.data.toList with
  | nil => rw [hl] at h0; exact absurd rfl h0
  | cons c r =>
    rw [hl] at h hpos
    have hall : ∀ d ∈ c :: r, 48 ≤ d.toNat ∧ d.toNat ≤ 57 := by
      intro d hd
      have := num_bd (h (d.toNat : Int) (List.mem_map_of_mem (f := fun x : UInt8 => (x.toNat : Int)) hd))
      omega
    have hc := hall c (by simp)
    unfold Lib.atoiAll
    simp only
    rw [if_neg (by omega)]
    unfold Lib.parseMag
    rw [if_neg (by simp)]
    rw [atoi_parse (c :: r) 0 [] (by omega) rfl hall, List.nil_append]
    have hneg : ¬ c.toNat = 45 := by omega
    by_cases h1 : valL ((c :: r).map fun x => (x.toNat : Int)) < 18446744073709551616
    · rw [if_pos h1]
      simp only [hneg, false_and, not_false_iff, true_and, if_false]
      by_cases h2 : 9223372036854775807 < valL ((c :: r).map fun x => (x.toNat : Int))
      · rw [if_pos h2, if_pos (by omega)]
      · rw [if_neg h2, if_neg (by omega)]
        congr 1; omega
    · rw [if_neg h1, if_pos (by omega)]

/-- What the error variable holds does not matter: an error, or none. -/
def ErrV (w : World) : Prop := ∃ ev, w.cell? ⟨4, 0, none⟩ = some ev ∧ (ev = .nilIface ∨ ∃ te pe, ev = .iface te pe)
theorem ErrV.grown {w w' : World} {b : Nat} (h : ErrV w) (hg : w.grownBy w' (some b)) (hb : 4 < b) : ErrV w' := by
  obtain ⟨ev, h1, h2⟩ := h
  refine ⟨ev, ?_, h2⟩
  rw [cell_other hg ?_ (by intro e; have := Option.some.inj e; simp at this; omega)]
  · exact h1
  · rcases Nat.lt_or_ge 4 w.heap.size with h' | h'
    · exact h'
    · exfalso; unfold World.cell? at h1; simp only at h1; rw [Array.getElem?_eq_none h'] at h1; cases h1

theorem TkAt.drew {w : World} {b : Nat} {t : Tk} (h : TkAt w b t) : TkAt w.drew b t := h
theorem LxAt.drew {w : World} {b : Nat} {s : ByteArray} {k : Nat} (h : LxAt w b s k) : LxAt w.drew b s k := h
theorem grownBy.drew' {a w : World} {r : Option Nat} (h : a.grownBy w r) : a.grownBy w.drew r := ⟨h.os, h.tape, h.output, h.size, h.block⟩
theorem atoi_ok (D : ByteArray) (hD : D.size ≤ 1000000) (v : Int) (h : Lib.atoiAll D.data.toList = .ok v) (w : World) : Calls Tryz.prog 130 #[.string D] w fun e w' => e = .returned (.tuple #[.int .i64 v, .nilIface]) ∧ Below w.heap.size w w' := by
  refine (Tryz.strconv_Atoi_ok D (by omega) v h w).mono ?_
  rintro e w' ⟨rfl, rfl | ⟨t, rfl⟩⟩
  · exact ⟨rfl, Below.refl _ _⟩
  · exact ⟨rfl, Lib.bytesWorld_below _ _ _⟩
theorem res_number : Tryz.f111.results = #[.cell 2 54, .tmp 3] := by kernel_rfl
set_option maxRecDepth 100000 in
set_option maxHeartbeats 800000 in
theorem number_any (b : Nat) (s : ByteArray) (k : Nat) (w : World) (h : LxAt w b s k) (_hs : s.size ≤ 1000000) (_hk : k < s.size) (hd : isNum ((s[k].toNat : Nat) : Int) = true) (hev : ErrV w) (hb2 : 4 < b) :
    Calls Tryz.prog 111 #[.pointer (some ⟨b, 0, none⟩)] w (TokOut (numT (restL s k)) b s k w) := by
  have hal : w.grownBy (w.alloc (.cells zTok 54)) (some b) := grownBy.below' (grownBy.refl' _ _) ((Below.refl _ _).alloc (Nat.le_refl _) _)
  have h1 : LxAt (w.alloc (.cells zTok 54)) b s k := h.below ((Below.refl _ _).alloc (Nat.le_refl _) _) h.lt
  have hlt := h.lt
  have HEV := Lib.hid (hev.grown hal hb2); clear hev
  obtain ⟨ds, hds⟩ : ∃ ds, (restL s k).takeWhile isNum = ds := ⟨_, rfl⟩
  obtain ⟨D, hD⟩ : ∃ D, strOfNums ds = D := ⟨_, rfl⟩
  have hbd : Bytes ds := fun x hx => restL_bd s k x (by rw [← hds] at hx; exact (List.takeWhile_prefix _).subset hx)
  have hsD : sb D = ds := by rw [← hD]; exact sb_str ds hbd
  have hszD : D.size = ds.length := by rw [← length_sb, hsD]
  have hlen : ds.length ≤ s.size := by rw [← hds]; have h0 := take_le isNum (restL s k); rw [length_restL] at h0; omega
  have hW := (whileDigit_any b s k _ h1 _hs (by omega)).mono (R' := fun e w' => (w.alloc (.cells zTok 54)).grownBy w' (some b) ∧ e = .returned (.string D) ∧ LxAt w' b s (k + ds.length)) (fun e w' ⟨x1, x2, x3⟩ => ⟨x1, by rw [x2, hds, hD], by rw [hds] at x3; exact x3⟩)
  have HW := Lib.hid hW; clear hW h1 h
  have HAL := Lib.hid hal; clear hal
  have HTK := Lib.hid (TkAt.zero w)
  have hne : ds ≠ [] := by
    have h0 := restL_at s k 0 (by omega)
    rw [← hds]
    cases hr : restL s k with
    | nil => rw [hr] at h0; simp at h0
    | cons x l => rw [hr] at h0; simp at h0; rw [List.takeWhile_cons, h0, hd]; simp
  have hall : ∀ x ∈ ds, isNum x = true := by rw [← hds]; exact take_all isNum _
  have hN : numT (restL s k) = if (1 < ds.length ∧ ds.head? = some 48) ∨ 9223372036854775807 < valL ds then none else some ({ Tk.zero with kind := 1, num := valL ds }, ds.length) := by
    unfold numT
    rw [hds]
    have hh : (restL s k).head? = ds.head? := by
      have e := take_split isNum (restL s k)
      rw [hds] at e
      rw [← e]
      cases ds with
      | nil => exact absurd rfl hne
      | cons x l => rfl
    rw [hh]
  have hat := atoi_nums D (by rw [hsD]; exact hne) (by rw [hsD]; exact hall)
  rw [hsD] at hat
  have hp := List.length_pos_iff.2 hne
  have hD0 : 0 < D.size := by omega
  obtain ⟨a, ha⟩ : ∃ a : Int, (D[0].toNat : Int) = a := ⟨_, rfl⟩
  have hhd : ds.head? = some a := by rw [← ha, ← hsD, List.head?_eq_getElem?, sb_at D 0 hD0]
  have hmx : D.size ≤ 1000000 := by omega
  have HD := Lib.hid hD; have HSD := Lib.hid hsD
  have HLEN := Lib.hid hlen
  have HALL := Lib.hid hall
  clear hne hall hbd hds hD hsD hlen
  have hw0 : w.heap.size ≠ b := by omega
  by_cases h48 : 1 < ds.length ∧ ds.head? = some 48
  · rw [if_pos (Or.inl h48)] at hN
    have HN := Lib.hid hN; clear hN hat
    have h481 : (1 : Int) < (D.size : Int) := by omega
    have h482 : (a == 48) = true := by rw [hhd] at h48; exact beq_iff_eq.2 (Option.some.inj h48.2)
    have HHD := Lib.hid hhd
    clear h48 hhd hp
    go_enter Tryz.func111, Tryz.ntmps111
    go_wp2_with (go_at_call 70; ((with_reducible refine HW.out.mono ?_); rintro e w1 ⟨h1, rfl, h2⟩; have H1 := Lib.hid h1; have H2 := Lib.hid h2; clear h1 h2; have HT1 := Lib.hid (HTK.out.grown H1.out hw0); obtain ⟨x0, x1, x2, x3, x4, x5, x6, x7, x8⟩ := HT1.out.cells; obtain ⟨f0, f1, f2, f3, f4, f5, f6, f7, f8⟩ := HT1.out.melts))
    exact bodyPost_ret (out_tok (HT1.out.put9 Tk.zero) _ _ false 2 3 res_number rfl rfl) rfl ⟨grownBy.set9 (grownBy.trans' HAL.out H1.out) (Nat.le_refl _) _ _ _ _ _ _ _ _ _, .inr ⟨HN.out, Tk.zero, rfl⟩⟩
  · by_cases hbig : 9223372036854775807 < valL ds
    · rw [if_pos (Or.inr hbig)] at hN
      rw [if_pos hbig] at hat
      have HN := Lib.hid hN
      have HAT := Lib.hid hat
      clear hN hat
      have hcond : (a == 48) = false ∨ ((a == 48) = true ∧ ¬ (1 : Int) < (D.size : Int)) := by
        by_cases ha48 : a = 48
        · refine .inr ⟨beq_iff_eq.2 ha48, fun h1 => h48 ⟨by omega, by rw [hhd, ha48]⟩⟩
        · exact .inl (beq_eq_false_iff_ne.2 ha48)
      clear h48 hhd hp hbig
      go_enter Tryz.func111, Tryz.ntmps111
      rcases hcond with hc1 | ⟨hc1, hc2⟩
      all_goals go_wp2_with (first
        | (go_at_call 70; ((with_reducible refine HW.out.mono ?_); rintro e w1 ⟨h1, rfl, h2⟩; have H1 := Lib.hid h1; have H2 := Lib.hid h2; clear h1 h2; obtain ⟨ev, HE1, HE2⟩ := HEV.out.grown H1.out hb2; have HE1 := Lib.hid HE1; have HE2 := Lib.hid HE2))
        | (go_at_call 130; ((with_reducible refine (Tryz.strconv_Atoi_range D ?_ HAT.out ev _ HE1.out HE2.out).mono ?_); (first | omega | skip); rintro e w2 ⟨N, rfl, -, -, h3⟩; have H3 := Lib.hid h3; clear h3; have HT2 := Lib.hid ((HTK.out.grown H1.out hw0).below H3.out (HTK.out.grown H1.out hw0).lt); obtain ⟨x0, x1, x2, x3, x4, x5, x6, x7, x8⟩ := HT2.out.cells; obtain ⟨f0, f1, f2, f3, f4, f5, f6, f7, f8⟩ := HT2.out.melts)))
      all_goals (generalize Lib.atoiSat D.data.toList = sat)
      all_goals go_region
      all_goals go_wp2_with fail
      all_goals exact bodyPost_ret (out_tok (HT2.out.put9 { Tk.zero with kind := 1, num := sat }).drew _ _ false 2 3 res_number rfl rfl) rfl ⟨grownBy.drew' (grownBy.set9 (grownBy.below' (grownBy.trans' HAL.out H1.out) H3.out) (Nat.le_refl _) _ _ _ _ _ _ _ _ _), .inr ⟨HN.out, { Tk.zero with kind := 1, num := sat }, rfl⟩⟩
    · rw [if_neg (show ¬ ((1 < ds.length ∧ ds.head? = some 48) ∨ 9223372036854775807 < valL ds) from fun h1 => h1.elim h48 hbig)] at hN
      rw [if_neg hbig] at hat
      obtain ⟨v, hv⟩ : ∃ v, valL ds = v := ⟨_, rfl⟩
      rw [hv] at hN hat
      have HN := Lib.hid hN
      have HAT := Lib.hid hat
      clear hN hat hv
      have hcond : (a == 48) = false ∨ ((a == 48) = true ∧ ¬ (1 : Int) < (D.size : Int)) := by
        by_cases ha48 : a = 48
        · refine .inr ⟨beq_iff_eq.2 ha48, fun h1 => h48 ⟨by omega, by rw [hhd, ha48]⟩⟩
        · exact .inl (beq_eq_false_iff_ne.2 ha48)
      clear h48 hhd hp hbig
      go_enter Tryz.func111, Tryz.ntmps111
      rcases hcond with hc1 | ⟨hc1, hc2⟩
      all_goals go_wp2_with (first
        | (go_at_call 70; ((with_reducible refine HW.out.mono ?_); rintro e w1 ⟨h1, rfl, h2⟩; have H1 := Lib.hid h1; have H2 := Lib.hid h2; clear h1 h2))
        | (go_at_call 130; ((with_reducible refine (atoi_ok D ?_ v HAT.out _).mono ?_); (first | omega | skip); rintro e w2 ⟨rfl, h3⟩; have H3 := Lib.hid h3; clear h3; have HL2 := Lib.hid (H2.out.below H3.out H2.out.lt); have HT2 := Lib.hid ((HTK.out.grown H1.out hw0).below H3.out (HTK.out.grown H1.out hw0).lt); obtain ⟨x0, x1, x2, x3, x4, x5, x6, x7, x8⟩ := HT2.out.cells; obtain ⟨f0, f1, f2, f3, f4, f5, f6, f7, f8⟩ := HT2.out.melts)))
      all_goals go_region
      all_goals go_wp2_with fail
      all_goals exact bodyPost_ret (out_tok (HT2.out.put9 { Tk.zero with kind := 1, num := v }).drew _ _ true 2 3 res_number rfl rfl) rfl ⟨grownBy.drew' (grownBy.set9 (grownBy.below' (grownBy.trans' HAL.out H1.out) H3.out) (Nat.le_refl _) _ _ _ _ _ _ _ _ _), .inl ⟨_, _, HN.out, rfl, (HL2.out.set9 hw0 _ _ _ _ _ _ _ _ _).drew⟩⟩
end Go.Proofs.YtdfpalocnijefaaGreatDoor

/-
  Layer 3, the program: the sheet; parts one behind the other; ReadCol, Read.
-/
namespace Go.Proofs.YtdfpalocnijefaaGreatDoor
open Go.RowKit

theorem idx_list : ∀ (l : List UInt8), Lib.indexByte l 33 = if ((l.map (fun b => (b.toNat : Int))).takeWhile ne33).length = l.length then -1 else (((l.map (fun b => (b.toNat : Int))).takeWhile ne33).length : Int)
  | [] => rfl
  | x :: l => by
    have ih := idx_list l
    unfold Lib.indexByte
    by_cases hx : x = 33
    · subst hx
      have hne : ne33 ((33 : UInt8).toNat : Int) = false := by decide
      rw [List.map_cons, List.takeWhile_cons, hne]
      simp
    · have hne : ne33 (x.toNat : Int) = true := by
        unfold ne33; rw [decide_eq_true_iff]; intro h; apply hx
        apply UInt8.toNat_inj.1; show x.toNat = 33; omega
      have hb : (x == (33 : UInt8)) = false := by rw [beq_eq_false_iff_ne]; exact hx
      rw [hb, List.map_cons, List.takeWhile_cons, hne, if_pos rfl, List.length_cons, List.length_cons, ih]
      obtain ⟨n, hn⟩ : ∃ n, ((l.map (fun b => (b.toNat : Int))).takeWhile ne33).length = n := ⟨_, rfl⟩
      rw [hn]
      by_cases h : n = l.length
      · have h2 : n + 1 = l.length + 1 := by omega
        rw [if_pos h, if_pos h2]; rfl
      · have h2 : ¬ n + 1 = l.length + 1 := by omega
        rw [if_neg h, if_neg h2]
        have : ((n : Int) == -1) = false := by rw [beq_eq_false_iff_ne]; omega
        rw [this]; simp
theorem idx_sheet (d : Rd) : Lib.indexByte d.s.data.toList 33 = if d.sheetP.length = d.s.size then -1 else (d.sheetP.length : Int) := by
  rw [idx_list]; unfold Rd.sheetP sb; rw [← list_bytes]
  have : d.s.toList.length = d.s.size := by rw [list_bytes]; rfl
  rw [this]
theorem sheetP_take (d : Rd) : (sb d.s).take d.sheetP.length = d.sheetP := by
  have e := take_split ne33 (sb d.s)
  have h : (d.sheetP ++ (sb d.s).drop d.sheetP.length).take d.sheetP.length = d.sheetP := List.take_left
  have e2 : d.sheetP ++ (sb d.s).drop d.sheetP.length = sb d.s := e
  rw [e2] at h; exact h
theorem sheetP_lt (d : Rd) (h : ¬ d.sheetP.length = d.s.size) : d.sheetP.length < d.s.size := by
  have e := congrArg List.length (take_split ne33 (sb d.s))
  rw [List.length_append, length_sb] at e
  unfold Rd.sheetP at h ⊢; omega

set_option maxRecDepth 100000 in
set_option maxHeartbeats 400000 in
theorem sheet_any (b : Nat) (d : Rd) (w : World) (h : RdAt w b d) (_hs : d.s.size ≤ 1000000) :
    Calls Tryz.prog 146 #[.pointer (some ⟨b, 0, none⟩)] w (Part d.sheet b w) := by
  obtain ⟨c0, c1, c2, c3, c4, c5, c6⟩ := h.facts
  have f1 := h.frozen 1
  have f2 := h.frozen 2
  clear c3 c4 c5 c6
  have HR := Lib.hid h; clear h
  have hix := idx_sheet d
  by_cases hno : d.sheetP.length = d.s.size
  · have hf : d.sheet = some d := by unfold Rd.sheet; rw [if_pos hno]
    rw [if_pos hno] at hix
    have HF := Lib.hid hf; clear hf hno
    have HIX := Lib.hid hix; clear hix
    go_enter Tryz.func146, Tryz.ntmps146
    go_wp2_with (go_at_call 164; ((with_reducible refine (Tryz.strings_IndexByte d.s 33 _).mono ?_); rintro e w1 ⟨rfl, rfl⟩; (rw [show (33 : Int).toNat.toUInt8 = 33 from rfl, HIX.out])))
    go_ret
    exact ⟨grownBy.refl' _ _, .inl ⟨d, HF.out, rfl, HR.out⟩⟩
  · have hlt := sheetP_lt d hno
    rw [if_neg hno] at hix
    obtain ⟨i, hi⟩ : ∃ i : Nat, d.sheetP.length = i := ⟨_, rfl⟩
    rw [hi] at hix hlt
    have hf : d.sheet = if nameL d.sheetP = true then some { d with sh := strOfNums d.sheetP, k := i + 1 } else none := by unfold Rd.sheet; rw [if_neg hno, hi]
    have hcut : d.s.extract 0 i = strOfNums d.sheetP := by
      rw [← sheetP_take, hi, ← str_sb (d.s.extract 0 i)]
      congr 1
      unfold sb; rw [← List.map_take]; congr 1
      simp [ByteArray.data_extract]
    have hsz : (strOfNums d.sheetP).size ≤ 1000000 := by rw [strOfNums_size]; omega
    have hb : sb (strOfNums d.sheetP) = d.sheetP := sb_str _ (fun x hx => sb_bd d.s x (by rw [← sheetP_take] at hx; exact List.mem_of_mem_take hx))
    have HIX := Lib.hid hix; clear hix
    have HF := Lib.hid hf; clear hf
    have HCUT := Lib.hid hcut; clear hcut
    have HB := Lib.hid hb; clear hb
    have hile : (i : Int) ≤ (d.s.size : Int) := by omega
    have hi0 : (0 : Int) ≤ (i : Int) := by omega
    clear hno hi
    go_enter Tryz.func146, Tryz.ntmps146
    by_cases hn : nameL d.sheetP = true
    · have hf2 : d.sheet = some { d with sh := strOfNums d.sheetP, k := i + 1 } := by rw [HF.out, if_pos hn]
      have HF2 := Lib.hid hf2; clear hf2
      go_wp2_with (first
        | (go_at_call 164; ((with_reducible refine (Tryz.strings_IndexByte d.s 33 _).mono ?_); rintro e w1 ⟨rfl, rfl⟩; (rw [show (33 : Int).toNat.toUInt8 = 33 from rfl, HIX.out])))
        | (go_at_call 124; rw [HCUT.out]; ((with_reducible refine (name_any _ _ ?_).mono ?_); (first | omega | skip); rintro e w2 ⟨rfl, rfl⟩; rw [HB.out, hn])))
      go_ret
      exact ⟨grownBy.setCell' (grownBy.setCell' (grownBy.refl' _ _) _ _) _ _, .inl ⟨_, HF2.out, rfl, (HR.out.setSh (strOfNums d.sheetP)).setK (i + 1)⟩⟩
    · have hf2 : d.sheet = none := by rw [HF.out, if_neg hn]
      have hn' : nameL d.sheetP = false := by simpa using hn
      have HF2 := Lib.hid hf2; clear hf2 hn
      go_wp2_with (first
        | (go_at_call 164; ((with_reducible refine (Tryz.strings_IndexByte d.s 33 _).mono ?_); rintro e w1 ⟨rfl, rfl⟩; (rw [show (33 : Int).toNat.toUInt8 = 33 from rfl, HIX.out])))
        | (go_at_call 124; rw [HCUT.out]; ((with_reducible refine (name_any _ _ ?_).mono ?_); (first | omega | skip); rintro e w2 ⟨rfl, rfl⟩; rw [HB.out, hn'])))
      go_ret
      exact ⟨grownBy.setCell' (grownBy.setCell' (grownBy.refl' _ _) _ _) _ _, .inr ⟨HF2.out, rfl⟩⟩

/-- Parts one behind the other: so many method values of one reader, each with what it leaves. -/
theorem all_any (b g n : Nat) (f : Nat → FuncId) (run : Nat → Rd → Option Rd) (w : World) (_hn : n ≤ 100) (hgb : g ≠ b) (hg : g < w.heap.size)
    (hcall : ∀ j, j < n → ∀ args (v : World), (callFunc (f j) args).run Tryz.prog v = .ok (.enter (f j) args) v)
    (hcell : ∀ j, j < n → w.cell? ⟨g, j, none⟩ = some (.func (.func (f j)) #[.pointer (some ⟨b, 0, none⟩)] #[]))
    (P : Nat → Rd → Prop) (d : Rd) (h0 : P 0 d) (hr : RdAt w b d)
    (hstep : ∀ j, j < n → ∀ d (w : World), P j d → RdAt w b d → (∀ d', run j d = some d' → P (j + 1) d') ∧ Calls Tryz.prog (f j) #[.pointer (some ⟨b, 0, none⟩)] w (Part (run j d) b w))
    (o : Option Rd) (hend : ∀ d', P n d' → o = some d') (hbad : ∀ j d', j < n → P j d' → run j d' = none → o = none) :
    Calls Tryz.prog 145 #[.slice (some ⟨g, 0, none⟩) n n] w (Part o b w) := by
  have HC := Lib.hid hcall; clear hcall
  have HL := Lib.hid hcell; clear hcell
  have HS := Lib.hid hstep; clear hstep
  have HE := Lib.hid hend; clear hend
  have HB := Lib.hid hbad; clear hbad
  have H0 := Lib.hid h0; clear h0
  have HR := Lib.hid hr; clear hr
  go_enter Tryz.func145, Tryz.ntmps145
  go_wp2_with fail
  go_loopw [7] (fun i wr => ∃ (j : Nat) (d : Rd), i = .int .i64 j ∧ j ≤ n ∧ Hid (P j d) ∧ Hid (RdAt wr b d) ∧ Hid (w.grownBy wr (some b)))
    (fun i _ => n - (intOf i).toNat)
  case atStart => exact ⟨0, d, rfl, by omega, H0, HR, Lib.hid (grownBy.refl' _ _)⟩
  case round =>
    obtain ⟨j, d, rfl, hj, HP, HRD, HG⟩ := hrel
    by_cases hlt : j < n
    · have hji : (j : Int) < (n : Int) := by omega
      have hce : wr.cell? ⟨g, j, none⟩ = some (.func (.func (f j)) #[.pointer (some ⟨b, 0, none⟩)] #[]) := by
        rw [cell_other HG.out (by exact hg) (by intro h; exact hgb (Option.some.inj h))]; exact HL.out j hlt
      have hca := HC.out j hlt
      obtain ⟨fj, hfj⟩ : ∃ fj, f j = fj := ⟨_, rfl⟩
      rw [hfj] at hce hca
      have HFJ := Lib.hid hfj; clear hfj
      cases hq : run j d with
      | some d' =>
        have HQ := Lib.hid hq; clear hq
        go_wp2_with fail
        have hs := HS.out j hlt d wr HP.out HRD.out
        rw [HFJ.out, HQ.out] at hs
        have HS1 := Lib.hid (hs.1 d' rfl)
        refine hs.2.mono ?_
        rintro e w1 ⟨hg1, ⟨d2, h1, rfl, h3⟩ | ⟨h1, _⟩⟩
        · injection h1 with h1; subst h1
          have HG1 := Lib.hid (grownBy.trans' HG.out hg1); clear hg1
          have HR1 := Lib.hid h3; clear h3
          clear hs
          go_wp2_with fail
          go_roundw
          case rel => exact ⟨j + 1, d', by go_num, by omega, HS1, HR1, HG1⟩
          case measure => simp [intOf]; omega
        · cases h1
      | none =>
        have HQ := Lib.hid hq; clear hq
        go_wp2_with fail
        have hs := HS.out j hlt d wr HP.out HRD.out
        rw [HFJ.out, HQ.out] at hs
        refine hs.2.mono ?_
        rintro e w1 ⟨hg1, ⟨d2, h1, _, _⟩ | ⟨_, rfl⟩⟩
        · cases h1
        · have HG1 := Lib.hid (grownBy.trans' HG.out hg1); clear hg1
          clear hs
          go_wp2_with fail
          go_ret
          exact ⟨HG1.out, .inr ⟨HB.out j d hlt HP.out HQ.out, rfl⟩⟩
    · have hji : ¬ (j : Int) < (n : Int) := by omega
      have hjn : j = n := by omega
      have hen := HE.out d (by rw [← hjn]; exact HP.out)
      have HEN := Lib.hid hen; clear hen hjn
      go_wp2_with fail
      go_ret
      exact ⟨HG.out, .inl ⟨d, HEN.out, rfl, HRD.out⟩⟩
end Go.Proofs.YtdfpalocnijefaaGreatDoor

/-
  Layer 3, the program: ReadCol, Read.
-/
namespace Go.Proofs.YtdfpalocnijefaaGreatDoor
open Go.RowKit

/-- Parts taken one behind the other. -/
def chain (run : Nat → Rd → Option Rd) (d : Rd) : Nat → Option Rd
  | 0 => some d
  | j + 1 => (chain run d j).bind (run j)
theorem chain_none (run : Nat → Rd → Option Rd) (d : Rd) (j : Nat) (h : chain run d j = none) : ∀ m, chain run d (j + m) = none
  | 0 => h
  | m + 1 => by show (chain run d (j + m)).bind (run (j + m)) = none; rw [chain_none run d j h m]; rfl
def Keeps (f : Rd → Option Rd) : Prop := ∀ d d', d.k ≤ d.s.size → f d = some d' → d'.s = d.s ∧ d'.k ≤ d.s.size
theorem keeps_sheet : Keeps Rd.sheet := by
  intro d d' hk h
  unfold Rd.sheet at h
  by_cases h1 : d.sheetP.length = d.s.size
  · rw [if_pos h1] at h; injection h with h; subst h; exact ⟨rfl, hk⟩
  · rw [if_neg h1] at h
    have := sheetP_lt d h1
    by_cases h2 : nameL d.sheetP = true
    · rw [if_pos h2] at h; injection h with h; subst h; exact ⟨rfl, this⟩
    · rw [if_neg h2] at h; cases h
theorem mark_le (d : Rd) (hk : d.k ≤ d.s.size) : d.k + (dol d.mark).length ≤ d.s.size := by
  have h1 := congrArg List.length (mark_rest d)
  rw [List.length_append, length_rest] at h1; omega
theorem keeps_absCol : Keeps Rd.absCol := by
  intro d d' hk h
  unfold Rd.absCol at h; injection h with h; subst h; exact ⟨rfl, mark_le d hk⟩
theorem keeps_absRow : Keeps Rd.absRow := by
  intro d d' hk h
  unfold Rd.absRow at h; injection h with h; subst h; exact ⟨rfl, mark_le d hk⟩
theorem span_le (p : Int → Bool) (d : Rd) (hk : d.k ≤ d.s.size) : d.k + (d.rest.takeWhile p).length ≤ d.s.size := by
  have h1 := congrArg List.length (take_split p d.rest)
  rw [List.length_append, length_rest] at h1; omega
theorem keeps_col : Keeps Rd.col := by
  intro d d' hk h
  unfold Rd.col at h
  by_cases h2 : isCol (d.rest.takeWhile isCap) = true
  · rw [if_pos h2] at h; injection h with h; subst h; exact ⟨rfl, span_le isCap d hk⟩
  · rw [if_neg h2] at h; cases h
theorem keeps_row : Keeps Rd.row := by
  intro d d' hk h
  unfold Rd.row at h
  by_cases h2 : isRow (d.rest.takeWhile isNum) = true
  · rw [if_pos h2] at h; injection h with h; subst h; exact ⟨rfl, span_le isNum d hk⟩
  · rw [if_neg h2] at h; cases h
theorem keeps_fin : Keeps Rd.fin := by
  intro d d' hk h
  unfold Rd.fin at h
  by_cases h2 : d.k = d.s.size
  · rw [if_pos h2] at h; injection h with h; subst h; exact ⟨rfl, hk⟩
  · rw [if_neg h2] at h; cases h

theorem all_chain (b g n : Nat) (f : Nat → FuncId) (run : Nat → Rd → Option Rd) (w : World) (hn : n ≤ 100) (hgb : g ≠ b) (hg : g < w.heap.size)
    (hcall : ∀ j, j < n → ∀ args (v : World), (callFunc (f j) args).run Tryz.prog v = .ok (.enter (f j) args) v)
    (hcell : ∀ j, j < n → w.cell? ⟨g, j, none⟩ = some (.func (.func (f j)) #[.pointer (some ⟨b, 0, none⟩)] #[]))
    (d : Rd) (hr : RdAt w b d) (hs : d.s.size ≤ 1000000) (hk : d.k ≤ d.s.size)
    (hkeep : ∀ j, j < n → Keeps (run j))
    (hpart : ∀ j, j < n → ∀ d (w : World), RdAt w b d → d.s.size ≤ 1000000 → d.k ≤ d.s.size → Calls Tryz.prog (f j) #[.pointer (some ⟨b, 0, none⟩)] w (Part (run j d) b w)) :
    Calls Tryz.prog 145 #[.slice (some ⟨g, 0, none⟩) n n] w (Part (chain run d n) b w) := by
  refine all_any b g n f run w hn hgb hg hcall hcell (fun j e => chain run d j = some e ∧ e.s = d.s ∧ e.k ≤ d.s.size) d ⟨rfl, rfl, hk⟩ hr ?_ _ ?_ ?_
  · rintro j hj e v ⟨h1, h2, h3⟩ hrv
    refine ⟨?_, hpart j hj e v hrv (by rw [h2]; exact hs) (by rw [h2]; exact h3)⟩
    intro e' he'
    obtain ⟨k1, k2⟩ := hkeep j hj e e' (by rw [h2]; exact h3) he'
    refine ⟨?_, by rw [k1, h2], by rw [← h2]; exact k2⟩
    show (chain run d j).bind (run j) = some e'
    rw [h1]; exact he'
  · rintro e ⟨h1, _, _⟩; exact h1
  · rintro j e hj ⟨h1, _, _⟩ h2
    have h3 : chain run d (j + 1) = none := by show (chain run d j).bind (run j) = none; rw [h1]; exact h2
    have := chain_none run d (j + 1) h3 (n - (j + 1))
    rw [show j + 1 + (n - (j + 1)) = n from by omega] at this; exact this

theorem below_of_grownBy {w w1 w2 : World} {r B : Nat} (hb : Below B w w1) (h : w1.grownBy w2 (some r)) (hB : B ≤ w1.heap.size) (hr : B ≤ r) : Below B w w2 :=
  hb.grown h hB (fun k hk => by cases hk; exact hr)

/-- ReadCol's parts. -/
def colRun : Nat → Rd → Option Rd
  | 0 => Rd.col
  | _ => Rd.fin
def colFn : Nat → FuncId
  | 0 => 148
  | _ => 151
theorem isCol_caps (l : List Int) (h : isCol l = true) : ∀ x ∈ l, isCap x = true := by
  have := isCap_colL (readColL l)
  rw [(colL_readCol l h).1] at this; exact this
theorem colRun_eq (s : ByteArray) : chain colRun (Rd.start s) 2 = if isCol (sb s) = true then some { Rd.start s with c := readColL (sb s), k := s.size } else none := by
  show ((some (Rd.start s)).bind Rd.col).bind Rd.fin = _
  rw [Option.bind_some]
  have hrest : (Rd.start s).rest = sb s := rfl
  by_cases h : isCol (sb s) = true
  · have hsp : (sb s).takeWhile isCap = sb s := by
      have := take_part isCap (sb s) [] (isCol_caps _ h) (fun x hx => by simp at hx)
      rw [List.append_nil] at this; exact this
    rw [if_pos h]
    unfold Rd.col; rw [hrest, hsp, if_pos h, Option.bind_some]
    unfold Rd.fin
    have hl := length_sb s
    rw [if_pos (show (Rd.start s).k + (sb s).length = (Rd.start s).s.size by rw [hl]; exact Nat.zero_add _)]
    rw [hl, show (Rd.start s).k + s.size = s.size from Nat.zero_add _]
  · rw [if_neg h]
    unfold Rd.col; rw [hrest]
    by_cases h2 : isCol ((sb s).takeWhile isCap) = true
    · rw [if_pos h2, Option.bind_some]
      unfold Rd.fin
      rw [if_neg]
      intro h3
      have h3' : 0 + ((sb s).takeWhile isCap).length = s.size := h3
      have h4 : ((sb s).takeWhile isCap).length = (sb s).length := by rw [length_sb]; omega
      have h5 := take_split isCap (sb s)
      rw [h4, List.drop_length, List.append_nil] at h5
      rw [h5] at h2; exact h h2
    · rw [if_neg h2]; rfl

theorem hmf (fn : Fn) (first cap : Array Value) (w : World) : (Instr.makeFunc fn first cap).run Tryz.prog w = .ok (.func fn first cap) w := rfl

/-- The world in which the parts are taken: a new reader, and a row of method values behind it. -/
def wR (s : ByteArray) (w : World) : World := w.alloc (.cells #[.string s, .int .i64 0, .string ⟨#[]⟩, .int .i64 0, .int .i64 0, .bool false, .bool false] 149)
def mv (f : FuncId) (b : Nat) : Value := .func (.func f) #[.pointer (some ⟨b, 0, none⟩)] #[]
def wF (s : ByteArray) (l : Array Value) (w : World) : World := (wR s w).alloc (.cells l 22)
theorem size_wR (s : ByteArray) (w : World) : (wR s w).heap.size = w.heap.size + 1 := by unfold wR; simp
theorem size_wF (s : ByteArray) (l : Array Value) (w : World) : (wF s l w).heap.size = w.heap.size + 1 + 1 := by unfold wF; rw [← size_wR s w]; simp
theorem rd_wF (s : ByteArray) (l : Array Value) (w : World) : RdAt (wF s l w) w.heap.size (Rd.start s) := by
  have h : RdAt (wR s w) w.heap.size (Rd.start s) := (Go.MapKept.heap_alloc w _).1
  exact h.below ((Below.refl _ _).alloc (Nat.le_refl _) _) h.lt
theorem below_wF (s : ByteArray) (l : Array Value) (w : World) : Below w.heap.size w (wF s l w) := ((Below.refl _ _).alloc (Nat.le_refl _) _).alloc (by have := size_wR s w; unfold wR at this; omega) _
theorem cell_wF (s : ByteArray) (l : Array Value) (w : World) (L : List Value) (hl : l.toList = L) (j : Nat) (u : Value) (hj : L[j]? = some u) : (wF s l w).cell? ⟨w.heap.size + 1, j, none⟩ = some u := by
  have h := cells_new (w := wR s w) l 22 L hl j u hj
  rw [Addr.add_mid, Nat.zero_add, size_wR] at h
  exact h
theorem all_new (n : Nat) (f : Nat → FuncId) (run : Nat → Rd → Option Rd) (s : ByteArray) (w : World) (l : Array Value) (L : List Value) (hl : l.toList = L) (hn : n ≤ 100) (hs : s.size ≤ 1000000)
    (hcall : ∀ j, j < n → ∀ args (v : World), (callFunc (f j) args).run Tryz.prog v = .ok (.enter (f j) args) v)
    (hL : ∀ j, j < n → L[j]? = some (mv (f j) w.heap.size))
    (hkeep : ∀ j, j < n → Keeps (run j))
    (hpart : ∀ j, j < n → ∀ b d (w : World), RdAt w b d → d.s.size ≤ 1000000 → d.k ≤ d.s.size → Calls Tryz.prog (f j) #[.pointer (some ⟨b, 0, none⟩)] w (Part (run j d) b w)) :
    Calls Tryz.prog 145 #[.slice (some ⟨w.heap.size + 1, 0, none⟩) n n] (wF s l w) fun e w' => Below w.heap.size w w' ∧ ((∃ d', chain run (Rd.start s) n = some d' ∧ e = .returned (.bool true) ∧ RdAt w' w.heap.size d') ∨ (chain run (Rd.start s) n = none ∧ e = .returned (.bool false))) := by
  refine (all_chain w.heap.size (w.heap.size + 1) n f run (wF s l w) hn (by omega) (by rw [size_wF]; omega) hcall (fun j hj => cell_wF s l w L hl j _ (hL j hj)) (Rd.start s) (rd_wF s l w) hs (Nat.zero_le _) hkeep (fun j hj d v => hpart j hj w.heap.size d v)).mono ?_
  rintro e w' ⟨h1, h2⟩
  exact ⟨below_of_grownBy (below_wF s l w) h1 (by rw [size_wF]; omega) (Nat.le_refl _), h2⟩
theorem e_col : ∀ args (v : World), (callFunc 148 args).run Tryz.prog v = .ok (.enter 148 args) v := Go.Proofs.enters_of Tryz.func148 (by kernel_rfl) rfl
theorem e_end : ∀ args (v : World), (callFunc 151 args).run Tryz.prog v = .ok (.enter 151 args) v := Go.Proofs.enters_of Tryz.func151 (by kernel_rfl) rfl
theorem e_sheet : ∀ args (v : World), (callFunc 146 args).run Tryz.prog v = .ok (.enter 146 args) v := Go.Proofs.enters_of Tryz.func146 (by kernel_rfl) rfl
theorem e_absCol : ∀ args (v : World), (callFunc 147 args).run Tryz.prog v = .ok (.enter 147 args) v := Go.Proofs.enters_of Tryz.func147 (by kernel_rfl) rfl
theorem e_absRow : ∀ args (v : World), (callFunc 149 args).run Tryz.prog v = .ok (.enter 149 args) v := Go.Proofs.enters_of Tryz.func149 (by kernel_rfl) rfl
theorem e_row : ∀ args (v : World), (callFunc 150 args).run Tryz.prog v = .ok (.enter 150 args) v := Go.Proofs.enters_of Tryz.func150 (by kernel_rfl) rfl

theorem col_parts (s : ByteArray) (w : World) (hs : s.size ≤ 1000000) :
    Calls Tryz.prog 145 #[.slice (some ⟨w.heap.size + 1, 0, none⟩) 2 2] (wF s #[mv 148 w.heap.size, mv 151 w.heap.size] w) fun e w' => Below w.heap.size w w' ∧ ((∃ d', chain colRun (Rd.start s) 2 = some d' ∧ e = .returned (.bool true) ∧ RdAt w' w.heap.size d') ∨ (chain colRun (Rd.start s) 2 = none ∧ e = .returned (.bool false))) := by
  refine all_new 2 colFn colRun s w _ _ rfl (by omega) hs ?_ ?_ ?_ ?_
  · intro j hj
    match j, hj with
    | 0, _ => exact e_col
    | 1, _ => exact e_end
  · intro j hj
    match j, hj with
    | 0, _ => rfl
    | 1, _ => rfl
  · intro j hj
    match j, hj with
    | 0, _ => exact keeps_col
    | 1, _ => exact keeps_fin
  · intro j hj b d v h1 h2 h3
    match j, hj with
    | 0, _ => exact colPart_any b d v h1 h2 h3
    | 1, _ => exact fin_any b d v h1 h2 h3

/-- Read's parts. -/
def refRun : Nat → Rd → Option Rd
  | 0 => Rd.sheet
  | 1 => Rd.absCol
  | 2 => Rd.col
  | 3 => Rd.absRow
  | 4 => Rd.row
  | _ => Rd.fin
def refFn : Nat → FuncId
  | 0 => 146
  | 1 => 147
  | 2 => 148
  | 3 => 149
  | 4 => 150
  | _ => 151
theorem ref_parts (s : ByteArray) (w : World) (hs : s.size ≤ 1000000) :
    Calls Tryz.prog 145 #[.slice (some ⟨w.heap.size + 1, 0, none⟩) 6 6] (wF s #[mv 146 w.heap.size, mv 147 w.heap.size, mv 148 w.heap.size, mv 149 w.heap.size, mv 150 w.heap.size, mv 151 w.heap.size] w) fun e w' => Below w.heap.size w w' ∧ ((∃ d', readS s = some d' ∧ e = .returned (.bool true) ∧ RdAt w' w.heap.size d') ∨ (readS s = none ∧ e = .returned (.bool false))) := by
  refine all_new 6 refFn refRun s w _ _ rfl (by omega) hs ?_ ?_ ?_ ?_
  · intro j hj
    match j, hj with
    | 0, _ => exact e_sheet
    | 1, _ => exact e_absCol
    | 2, _ => exact e_col
    | 3, _ => exact e_absRow
    | 4, _ => exact e_row
    | 5, _ => exact e_end
  · intro j hj
    match j, hj with
    | 0, _ => rfl
    | 1, _ => rfl
    | 2, _ => rfl
    | 3, _ => rfl
    | 4, _ => rfl
    | 5, _ => rfl
  · intro j hj
    match j, hj with
    | 0, _ => exact keeps_sheet
    | 1, _ => exact keeps_absCol
    | 2, _ => exact keeps_col
    | 3, _ => exact keeps_absRow
    | 4, _ => exact keeps_row
    | 5, _ => exact keeps_fin
  · intro j hj b d v h1 h2 h3
    match j, hj with
    | 0, _ => exact sheet_any b d v h1 h2
    | 1, _ => exact absCol_any b d v h1 h2 h3
    | 2, _ => exact colPart_any b d v h1 h2 h3
    | 3, _ => exact absRow_any b d v h1 h2 h3
    | 4, _ => exact rowPart_any b d v h1 h2 h3
    | 5, _ => exact fin_any b d v h1 h2 h3

end Go.Proofs.YtdfpalocnijefaaGreatDoor

/-
  Layer 3, the program: Read; the document's example.
-/
namespace Go.Proofs.YtdfpalocnijefaaGreatDoor
open Go.RowKit

theorem below_setCell5 {w w1 : World} {a0 a1 a2 a3 a4 : Value} (h : Below w.heap.size w w1) : Below w.heap.size w (((((w1.setCell ⟨w.heap.size, 0, none⟩ a0).setCell ⟨w.heap.size, 1, none⟩ a1).setCell ⟨w.heap.size, 2, none⟩ a2).setCell ⟨w.heap.size, 3, none⟩ a3).setCell ⟨w.heap.size, 4, none⟩ a4) :=
  ((((h.setCell (Nat.le_refl _) _).setCell (Nat.le_refl _) _).setCell (Nat.le_refl _) _).setCell (Nat.le_refl _) _).setCell (Nat.le_refl _) _
set_option maxRecDepth 100000 in
set_option maxHeartbeats 400000 in
theorem read_any (s : ByteArray) (w : World) (_hs : s.size ≤ 1000000) :
    Calls Tryz.prog 134 #[.string s] w fun e w' => Says (sb s) e ∧ Below w.heap.size w w' := by
  have hmf := hmf
  have hall := ref_parts s (w.alloc (.cells #[.string ⟨#[]⟩, .int .i64 0, .int .i64 0, .bool false, .bool false] 35)) _hs
  have hsz : (w.alloc (.cells #[.string ⟨#[]⟩, .int .i64 0, .int .i64 0, .bool false, .bool false] 35)).heap.size = w.heap.size + 1 := by simp
  have hr0 := RefAt.new w ⟨#[]⟩ 0 0 false false
  have hb0 : Below w.heap.size w (w.alloc (.cells #[.string ⟨#[]⟩, .int .i64 0, .int .i64 0, .bool false, .bool false] 35)) := (Below.refl _ _).alloc (Nat.le_refl _) _
  rw [hsz] at hall
  have HALL := Lib.hid hall; clear hall
  have HR := Lib.hid hr0; clear hr0
  have HB0 := Lib.hid hb0; clear hb0
  have HSZ := Lib.hid hsz; clear hsz
  go_enter Tryz.func134, Tryz.ntmps134
  go_wp2_with fail
  refine HALL.out.mono ?_
  rintro e w1 ⟨hb, ⟨d', h1, rfl, h3⟩ | ⟨h1, rfl⟩⟩
  · have hr1 := HR.out.below hb (by omega)
    obtain ⟨x0, x1, x2, x3, x4⟩ := hr1.facts
    have f0 := frozen_of_row w1 w.heap.size 0 _ _ hr1
    have f1 := frozen_of_row w1 w.heap.size 1 _ _ hr1
    have f2 := frozen_of_row w1 w.heap.size 2 _ _ hr1
    have f3 := frozen_of_row w1 w.heap.size 3 _ _ hr1
    have f4 := frozen_of_row w1 w.heap.size 4 _ _ hr1
    have hB := HB0.out.trans (hb.mono (by omega))
    obtain ⟨c0, c1, c2, c3, c4, c5, c6⟩ := h3.facts
    clear c0 c1
    have H1 := Lib.hid h1; clear h1
    have H3 := Lib.hid h3; clear h3
    have HB := Lib.hid hB; clear hB hb
    have HR1 := Lib.hid hr1; clear hr1
    go_wp2_with fail
    obtain ⟨r1, r2, r3⟩ := read_some s d' H1.out
    (try simp only [Exit.inBlock, Exit.then])
    refine bodyPost_ret (v := .tuple #[.agg #[.string d'.sh, .int .i64 d'.c, .int .i64 d'.r, .bool d'.ac, .bool d'.ar], .bool true]) ?_ rfl ⟨.inl ⟨d'.sh, d'.c, d'.r, d'.ac, d'.ar, r1, r2, r3, rfl⟩, ?_⟩
    · rw [results_cell_tmp rfl]
      go_simp
    · exact below_setCell5 HB.out
  · have hr1 := HR.out.below hb (by omega)
    obtain ⟨x0, x1, x2, x3, x4⟩ := hr1.facts
    have f0 := frozen_of_row w1 w.heap.size 0 _ _ hr1
    have f1 := frozen_of_row w1 w.heap.size 1 _ _ hr1
    have f2 := frozen_of_row w1 w.heap.size 2 _ _ hr1
    have f3 := frozen_of_row w1 w.heap.size 3 _ _ hr1
    have f4 := frozen_of_row w1 w.heap.size 4 _ _ hr1
    have hB := HB0.out.trans (hb.mono (by omega))
    have H1 := Lib.hid h1; clear h1
    have HB := Lib.hid hB; clear hB hb
    have HR1 := Lib.hid hr1; clear hr1
    go_wp2_with fail
    have r1 := read_none s H1.out
    (try simp only [Exit.inBlock, Exit.then])
    refine bodyPost_ret (v := .tuple #[.agg #[.string ⟨#[]⟩, .int .i64 0, .int .i64 0, .bool false, .bool false], .bool false]) ?_ rfl ⟨.inr ⟨r1, rfl⟩, ?_⟩
    · rw [results_cell_tmp rfl]
      go_simp
    · exact below_setCell5 HB.out
end Go.Proofs.YtdfpalocnijefaaGreatDoor

/-
  Layer 4, the program: what is dead; words.
-/
namespace Go.Proofs.YtdfpalocnijefaaGreatDoor
open Go.RowKit

theorem res_dead : Tryz.f113.results = #[.cell 2 54, .tmp 3] := by kernel_rfl
theorem res_word : Tryz.f115.results = #[.cell 2 54, .tmp 3] := by kernel_rfl
theorem grownBy.below_new {w w' : World} {b : Nat} (h : Below w.heap.size w w') : w.grownBy w' (some b) := grownBy.below' (grownBy.refl' _ _) h
theorem new_tok (w : World) (b : Nat) : w.grownBy (w.alloc (.cells zTok 54)) (some b) := grownBy.below_new ((Below.refl _ _).alloc (Nat.le_refl _) _)
theorem LxAt.tok {w : World} {b : Nat} {s : ByteArray} {k : Nat} (h : LxAt w b s k) : LxAt (w.alloc (.cells zTok 54)) b s k := h.below ((Below.refl _ _).alloc (Nat.le_refl _) _) h.lt
theorem sb_dead : sb ⟨#[35, 82, 69, 70, 33]⟩ = [35, 82, 69, 70, 33] := by decide

set_option maxRecDepth 100000 in
set_option maxHeartbeats 800000 in
theorem dead_any (b : Nat) (s : ByteArray) (k : Nat) (w : World) (h : LxAt w b s k) (_hs : s.size ≤ 1000000) (_hk : k < s.size) :
    Calls Tryz.prog 113 #[.pointer (some ⟨b, 0, none⟩)] w (TokOut (deadT (restL s k)) b s k w) := by
  have hlt := h.lt
  have hw0 : w.heap.size ≠ b := by omega
  have hT := take_any b s ⟨#[35, 82, 69, 70, 33]⟩ k _ h.tok _hs (by omega) (by decide)
  rw [sb_dead] at hT
  have HAL := Lib.hid (new_tok w b)
  have HTK := Lib.hid (TkAt.zero w)
  have hN : deadT (restL s k) = if headL [35, 82, 69, 70, 33] (restL s k) = true then some ({ Tk.zero with kind := 6 }, 5) else none := by
    unfold deadT headL; simp
  cases hq : headL [35, 82, 69, 70, 33] (restL s k)
  · rw [hq] at hN hT
    have HN := Lib.hid hN; clear hN
    have HT := Lib.hid hT; clear hT h
    go_enter Tryz.func113, Tryz.ntmps113
    go_wp2_with (first
        | (go_at_call 131; ((with_reducible refine HT.out.mono ?_); rintro e w1 ⟨h1, rfl, h2⟩; have H1 := Lib.hid h1; have H2 := Lib.hid h2; clear h1 h2; have HT2 := Lib.hid (HTK.out.grown H1.out hw0); obtain ⟨x0, x1, x2, x3, x4, x5, x6, x7, x8⟩ := HT2.out.cells; obtain ⟨f0, f1, f2, f3, f4, f5, f6, f7, f8⟩ := HT2.out.melts)))
    exact bodyPost_ret (out_tok (HT2.out.put9 { Tk.zero with kind := 6 }) _ _ false 2 3 res_dead rfl rfl) rfl ⟨grownBy.set9 (grownBy.trans' HAL.out H1.out) (Nat.le_refl _) _ _ _ _ _ _ _ _ _, .inr ⟨HN.out, { Tk.zero with kind := 6 }, rfl⟩⟩
  · rw [hq] at hN hT
    have HN := Lib.hid hN; clear hN
    have HT := Lib.hid hT; clear hT h
    go_enter Tryz.func113, Tryz.ntmps113
    go_wp2_with (first
        | (go_at_call 131; ((with_reducible refine HT.out.mono ?_); rintro e w1 ⟨h1, rfl, h2⟩; have H1 := Lib.hid h1; have H2 := Lib.hid h2; clear h1 h2; have HT2 := Lib.hid (HTK.out.grown H1.out hw0); obtain ⟨x0, x1, x2, x3, x4, x5, x6, x7, x8⟩ := HT2.out.cells; obtain ⟨f0, f1, f2, f3, f4, f5, f6, f7, f8⟩ := HT2.out.melts)))
    exact bodyPost_ret (out_tok (HT2.out.put9 { Tk.zero with kind := 6 }) _ _ true 2 3 res_dead rfl rfl) rfl ⟨grownBy.set9 (grownBy.trans' HAL.out H1.out) (Nat.le_refl _) _ _ _ _ _ _ _ _ _, .inl ⟨_, _, HN.out, rfl, H2.out.set9 hw0 _ _ _ _ _ _ _ _ _⟩⟩

/-! Words. -/
theorem says_some {s : ByteArray} {d : Rd} (h : readS s = some d) {e : Ending} (he : Says (sb s) e) : e = .returned (.tuple #[.agg #[.string d.sh, .int .i64 d.c, .int .i64 d.r, .bool d.ac, .bool d.ar], .bool true]) := by
  obtain ⟨_, h2, h3⟩ := read_some s d h
  refine Says.text h2 ?_
  rw [h3, str_sb]; exact he
theorem says_none {s : ByteArray} (h : readS s = none) {e : Ending} (he : Says (sb s) e) : e = .returned (.tuple #[.agg #[.string ⟨#[]⟩, .int .i64 0, .int .i64 0, .bool false, .bool false], .bool false]) := by
  rcases he with ⟨_, _, _, _, _, _, h2, h3, _⟩ | ⟨_, rfl⟩
  · exact absurd h3 (read_none s h _ _ _ _ _ h2)
  · rfl
theorem nm_called {l : List Int} {x : Int} (h0 : l.head? = some x) (hx : isBeg x = true) : nmL l = calledL l := by
  cases l with
  | nil => simp at h0
  | cons y m =>
    simp at h0; subst h0
    unfold nmL calledL
    rw [Bool.eq_iff_iff]
    simp only [Bool.and_eq_true, decide_eq_true_iff, List.getD_cons_zero]
    constructor
    · rintro ⟨h1, h2⟩
      refine ⟨h1, ⟨by simp, h2⟩, ?_⟩
      have := h1 y (by simp)
      rw [Bool.or_eq_true] at this
      rcases this with h | h
      · exact h
      · exfalso
        unfold isBeg isLet at hx; unfold isNum at h
        simp only [Bool.or_eq_true, decide_eq_true_iff] at hx h; omega
    · rintro ⟨h1, ⟨_, h2⟩, _⟩
      exact ⟨h1, h2⟩
end Go.Proofs.YtdfpalocnijefaaGreatDoor

/-
  Layer 4, the program: words.
-/
namespace Go.Proofs.YtdfpalocnijefaaGreatDoor
open Go.RowKit

theorem word_val (l ds : List Int) (h : l.takeWhile isWord = ds) : wordT l = match readS (strOfNums ds) with
  | some d => some ({ Tk.zero with kind := 4, sh := d.sh, c := d.c, r := d.r, ac := d.ac, ar := d.ar }, ds.length)
  | none => if calledL ds = true then some ({ Tk.zero with kind := 3, text := strOfNums ds }, ds.length) else none := by subst h; rfl

set_option maxRecDepth 100000 in
set_option maxHeartbeats 1600000 in
theorem word_any (b : Nat) (s : ByteArray) (k : Nat) (w : World) (h : LxAt w b s k) (_hs : s.size ≤ 1000000) (_hk : k < s.size) (hd : isBeg ((s[k].toNat : Nat) : Int) = true) :
    Calls Tryz.prog 115 #[.pointer (some ⟨b, 0, none⟩)] w (TokOut (wordT (restL s k)) b s k w) := by
  have hlt := h.lt
  have hw0 : w.heap.size ≠ b := by omega
  obtain ⟨ds, hds⟩ : ∃ ds, (restL s k).takeWhile isWord = ds := ⟨_, rfl⟩
  obtain ⟨D, hD⟩ : ∃ D, strOfNums ds = D := ⟨_, rfl⟩
  have hbd : Bytes ds := fun x hx => restL_bd s k x (by rw [← hds] at hx; exact (List.takeWhile_prefix _).subset hx)
  have hsD : sb D = ds := by rw [← hD]; exact sb_str ds hbd
  have hszD : D.size = ds.length := by rw [← length_sb, hsD]
  have hlen : ds.length ≤ s.size := by rw [← hds]; have h0 := take_le isWord (restL s k); rw [length_restL] at h0; omega
  have hW := (whileWord_any b s k _ h.tok _hs (by omega)).mono (R' := fun e w' => (w.alloc (.cells zTok 54)).grownBy w' (some b) ∧ e = .returned (.string D) ∧ LxAt w' b s (k + ds.length)) (fun e w' ⟨x1, x2, x3⟩ => ⟨x1, by rw [x2, hds, hD], by rw [hds] at x3; exact x3⟩)
  have HW := Lib.hid hW; clear hW h
  have HAL := Lib.hid (new_tok w b)
  have HTK := Lib.hid (TkAt.zero w)
  have hN := word_val (restL s k) ds hds
  rw [hD] at hN
  have hhd : ds.head? = some ((s[k].toNat : Nat) : Int) := by
    have h0 := restL_at s k 0 (by omega)
    rw [← hds]
    cases hr : restL s k with
    | nil => rw [hr] at h0; simp at h0
    | cons x l =>
      rw [hr] at h0; simp at h0
      have hwd : isWord x = true := by rw [isWord_beg, h0, hd]; rfl
      rw [List.takeWhile_cons, hwd]; simp [h0]
  rw [← nm_called hhd hd] at hN
  have hmx : D.size ≤ 1000000 := by omega
  clear hhd hd hbd hds hlen hD
  cases hq : readS D with
  | some d =>
    rw [hq] at hN
    have HN := Lib.hid hN; clear hN
    have hsz : d.sh.size ≤ 12 := (read_some D d hq).1
    have HSY := Lib.hid (fun (e : Ending) (he : Says (sb D) e) => says_some hq he); clear hq hsD
    go_enter Tryz.func115, Tryz.ntmps115
    go_upto_region 4 with (first
        | (go_at_call 70; ((with_reducible refine HW.out.mono ?_); rintro e w1 ⟨h1, rfl, h2⟩; have H1 := Lib.hid h1; have H2 := Lib.hid h2; clear h1 h2))
        | (go_at_call 134; ((with_reducible refine (read_any D _ ?_).mono ?_); (first | omega | skip); rintro e w2 ⟨h1, h2⟩; obtain rfl := HSY.out e h1; clear h1; have H3 := Lib.hid h2; clear h2; have HL2 := Lib.hid (H2.out.below H3.out H2.out.lt); have HT2 := Lib.hid ((HTK.out.grown H1.out hw0).below H3.out (HTK.out.grown H1.out hw0).lt); have hlt2 := HT2.out.lt; have hne2 : w.heap.size ≠ w2.heap.size := Nat.ne_of_lt hlt2; obtain ⟨x0, x1, x2, x3, x4, x5, x6, x7, x8⟩ := HT2.out.cells; obtain ⟨f0, f1, f2, f3, f4, f5, f6, f7, f8⟩ := HT2.out.melts)))
    have hR3 := RefAt.new w2 d.sh d.c d.r d.ac d.ar
    have hB3 : Below w2.heap.size w2 (w2.alloc (.cells #[.string d.sh, .int .i64 d.c, .int .i64 d.r, .bool d.ac, .bool d.ar] 35)) := (Below.refl _ _).alloc (Nat.le_refl _) _
    have HL3 := Lib.hid (HL2.out.below hB3 HL2.out.lt)
    have HT3 := Lib.hid (HT2.out.below hB3 HT2.out.lt)
    have HG3 := Lib.hid (grownBy.below' (grownBy.below' (grownBy.trans' HAL.out H1.out) H3.out) hB3)
    clear x0 x1 x2 x3 x4 x5 x6 x7 x8 f0 f1 f2 f3 f4 f5 f6 f7 f8 hB3
    generalize w2.alloc (.cells #[.string d.sh, .int .i64 d.c, .int .i64 d.r, .bool d.ac, .bool d.ar] 35) = w3 at hR3 HL3 HT3 HG3 ⊢
    obtain ⟨x0, x1, x2, x3, x4, x5, x6, x7, x8⟩ := HT3.out.cells
    obtain ⟨f0, f1, f2, f3, f4, f5, f6, f7, f8⟩ := HT3.out.melts
    obtain ⟨y0, y1, y2, y3, y4⟩ := hR3.facts
    clear hR3
    go_wp2_with fail
    exact bodyPost_ret (out_tok (HT3.out.put9 { Tk.zero with kind := 4, sh := d.sh, c := d.c, r := d.r, ac := d.ac, ar := d.ar }) _ _ true 2 3 res_word rfl rfl) rfl ⟨grownBy.set9 HG3.out (Nat.le_refl _) _ _ _ _ _ _ _ _ _, .inl ⟨_, _, HN.out, rfl, HL3.out.set9 hw0 _ _ _ _ _ _ _ _ _⟩⟩
  | none =>
    rw [hq] at hN
    have HSY := Lib.hid (fun (e : Ending) (he : Says (sb D) e) => says_none hq he); clear hq
    cases hnm : nmL ds
    all_goals
      rw [hnm] at hN
      have HN := Lib.hid hN; clear hN
      have HNM := Lib.hid (show nmL (sb D) = _ by rw [hsD, hnm])
      clear hnm hsD
      go_enter Tryz.func115, Tryz.ntmps115
      go_upto_region 5 with (first
        | (go_at_call 70; ((with_reducible refine HW.out.mono ?_); rintro e w1 ⟨h1, rfl, h2⟩; have H1 := Lib.hid h1; have H2 := Lib.hid h2; clear h1 h2))
        | (go_at_call 134; ((with_reducible refine (read_any D _ ?_).mono ?_); (first | omega | skip); rintro e w2 ⟨h1, h2⟩; obtain rfl := HSY.out e h1; clear h1; have H3 := Lib.hid h2; clear h2; have HL2 := Lib.hid (H2.out.below H3.out H2.out.lt); have HT2 := Lib.hid ((HTK.out.grown H1.out hw0).below H3.out (HTK.out.grown H1.out hw0).lt))))
      have hB3 : Below w2.heap.size w2 (w2.alloc (.cells #[.string ⟨#[]⟩, .int .i64 0, .int .i64 0, .bool false, .bool false] 35)) := (Below.refl _ _).alloc (Nat.le_refl _) _
      have HL3 := Lib.hid (HL2.out.below hB3 HL2.out.lt)
      have HT3 := Lib.hid (HT2.out.below hB3 HT2.out.lt)
      have HG3 := Lib.hid (grownBy.below' (grownBy.below' (grownBy.trans' HAL.out H1.out) H3.out) hB3)
      clear hB3
      generalize w2.alloc (.cells #[.string ⟨#[]⟩, .int .i64 0, .int .i64 0, .bool false, .bool false] 35) = w3 at HL3 HT3 HG3 ⊢
      obtain ⟨x0, x1, x2, x3, x4, x5, x6, x7, x8⟩ := HT3.out.cells
      obtain ⟨f0, f1, f2, f3, f4, f5, f6, f7, f8⟩ := HT3.out.melts
      go_wp2_with (go_at_call 135; ((with_reducible refine (isName_any D _ ?_).mono ?_); (first | omega | skip); rintro e w4 ⟨rfl, rfl⟩; rw [HNM.out]))
    · exact bodyPost_ret (out_tok (HT3.out.put9 { Tk.zero with kind := 3, text := D }) _ _ false 2 3 res_word rfl rfl) rfl ⟨grownBy.set9 HG3.out (Nat.le_refl _) _ _ _ _ _ _ _ _ _, .inr ⟨HN.out, { Tk.zero with kind := 3, text := D }, rfl⟩⟩
    · exact bodyPost_ret (out_tok (HT3.out.put9 { Tk.zero with kind := 3, text := D }) _ _ true 2 3 res_word rfl rfl) rfl ⟨grownBy.set9 HG3.out (Nat.le_refl _) _ _ _ _ _ _ _ _ _, .inl ⟨_, _, HN.out, rfl, HL3.out.set9 hw0 _ _ _ _ _ _ _ _ _⟩⟩
end Go.Proofs.YtdfpalocnijefaaGreatDoor

/-
  Layer 4, the program: signs.
-/
namespace Go.Proofs.YtdfpalocnijefaaGreatDoor
open Go.RowKit

theorem run_index_arr {P : Program} {w : World} (t e : TypeId) (n : Nat) (cs : Array Value) (k : Nat) (v : Value) (d : TypeDesc) (h : P.underlying t = some (.array n e)) (he : P.underlying e = some d) (hd : (match d with | .struct _ | .array _ _ => true | _ => false) = false)
    (hsz : (P.info? e).map (·.size) = some 1) (hk : k < n) (hv : cs[k]? = some v) : (Instr.index t (.agg cs) (.int .i64 (k : Int))).run P w = .ok v w := by
  have h1 : (0 : Int) ≤ (k : Int) ∧ (k : Int) < (n : Int) := by omega
  cases hq : P.info? e with
  | none => simp [hq] at hsz
  | some i =>
    have hs' : i.size = 1 := by simp [hq] at hsz; exact hsz
    simp [Instr.index, run_underlying h, asIntOf, h1, sizeOf, typeInfo, hq, hs', part, isAgg, run_underlying he, hv, go_sem]
    cases d <;> simp_all
theorem wpList_index_arr {P : Program} {ops : Array Oper} {rest : List Oper} {op : Oper} {a : Act} {w : World} {Q : Exit → Act → World → Prop} (hgd : op.guard = none) (t e : TypeId) (n : Nat) (x y : Operand) (ho : op.op = .index t x y)
    (cs : Array Value) (k : Nat) (v : Value) (d : TypeDesc) (h : P.underlying t = some (.array n e)) (he : P.underlying e = some d) (hd : (match d with | .struct _ | .array _ _ => true | _ => false) = false)
    (hsz : (P.info? e).map (·.size) = some 1) (hx : a.eval x = .agg cs) (hy : a.eval y = .int .i64 (k : Int)) (hk : k < n) (hv : cs[k]? = some v)
    (hh : wpList P ops Q rest (a.put op.dst v) w) : wpList P ops Q (op :: rest) a w :=
  wpList_plain hgd fun _ hK => by
    unfold Oper.wp execOp
    simp only [ho, hx, hy, Sem.run_bind, Sem.run_pure, Result.andThen_ok, run_index_arr t e n cs k v d h he hd hsz hk hv]
    exact hK _ _ hh

/-- The signs, the longer ones ahead. -/
def sigL : List (List Int) := [[60, 62], [60, 61], [62, 61], [43], [45], [42], [47], [38], [61], [60], [62], [40], [41], [44], [58]]
def sigB : List ByteArray := [⟨#[60, 62]⟩, ⟨#[60, 61]⟩, ⟨#[62, 61]⟩, ⟨#[43]⟩, ⟨#[45]⟩, ⟨#[42]⟩, ⟨#[47]⟩, ⟨#[38]⟩, ⟨#[61]⟩, ⟨#[60]⟩, ⟨#[62]⟩, ⟨#[40]⟩, ⟨#[41]⟩, ⟨#[44]⟩, ⟨#[58]⟩]
def sigA : Array Value := (sigB.map Value.string).toArray
theorem sig_at : ∀ j : Nat, j < 15 → ∃ t, sigB[j]? = some t ∧ sigA[j]? = some (.string t) ∧ sb t = sigL.getD j [] ∧ t.size ≤ 2 ∧ t = strOfNums (sigL.getD j [])
  | 0, _ => ⟨_, rfl, rfl, by decide, by decide, by decide +kernel⟩
  | 1, _ => ⟨_, rfl, rfl, by decide, by decide, by decide +kernel⟩
  | 2, _ => ⟨_, rfl, rfl, by decide, by decide, by decide +kernel⟩
  | 3, _ => ⟨_, rfl, rfl, by decide, by decide, by decide +kernel⟩
  | 4, _ => ⟨_, rfl, rfl, by decide, by decide, by decide +kernel⟩
  | 5, _ => ⟨_, rfl, rfl, by decide, by decide, by decide +kernel⟩
  | 6, _ => ⟨_, rfl, rfl, by decide, by decide, by decide +kernel⟩
  | 7, _ => ⟨_, rfl, rfl, by decide, by decide, by decide +kernel⟩
  | 8, _ => ⟨_, rfl, rfl, by decide, by decide, by decide +kernel⟩
  | 9, _ => ⟨_, rfl, rfl, by decide, by decide, by decide +kernel⟩
  | 10, _ => ⟨_, rfl, rfl, by decide, by decide, by decide +kernel⟩
  | 11, _ => ⟨_, rfl, rfl, by decide, by decide, by decide +kernel⟩
  | 12, _ => ⟨_, rfl, rfl, by decide, by decide, by decide +kernel⟩
  | 13, _ => ⟨_, rfl, rfl, by decide, by decide, by decide +kernel⟩
  | 14, _ => ⟨_, rfl, rfl, by decide, by decide, by decide +kernel⟩
  | j + 15, h => by omega
theorem head_two (a b : Int) (l : List Int) : headL [a, b] l = true ↔ l.head? = some a ∧ l.tail.head? = some b := by
  unfold headL; rw [decide_eq_true_iff]
  match l with
  | [] => simp
  | [x] => simp
  | x :: y :: m => simp
theorem head_one (a : Int) (l : List Int) : headL [a] l = true ↔ l.head? = some a := by
  unfold headL; rw [decide_eq_true_iff]
  match l with
  | [] => simp
  | x :: m => simp
/-- The first sign that fits is the longest. -/
theorem sig_some : ∀ j : Nat, j < 15 → ∀ l : List Int, (∀ q, q < j → headL (sigL.getD q []) l = false) → headL (sigL.getD j []) l = true → signT l = some ({ Tk.zero with kind := 5, text := strOfNums (sigL.getD j []) }, (sigL.getD j []).length) := by
  intro j hj l hno hyes
  have hlen : signN l = (sigL.getD j []).length := by
    have hn0 : ∀ a b q, q < j → sigL.getD q [] = [a, b] → ¬ (l.head? = some a ∧ l.tail.head? = some b) := by
      intro a b q hq he h
      have := hno q hq
      rw [he, (head_two a b l).2 h] at this; cases this
    cases l with
    | nil =>
      exfalso
      have : ∀ j, j < 15 → sigL.getD j [] ≠ [] := by decide
      unfold headL at hyes
      rw [decide_eq_true_iff, List.take_nil] at hyes
      exact this j hj hyes.symm
    | cons x m =>
      rw [signN_cons]
      simp only [List.head?_cons, List.tail_cons, Option.some.injEq] at hn0
      match j, hj with
      | 0, _ => obtain ⟨h1, h2⟩ := (head_two _ _ _).1 hyes; simp at h1 h2; rw [if_pos (by left; exact ⟨h1, .inl h2⟩)]; rfl
      | 1, _ => obtain ⟨h1, h2⟩ := (head_two _ _ _).1 hyes; simp at h1 h2; rw [if_pos (by left; exact ⟨h1, .inr h2⟩)]; rfl
      | 2, _ => obtain ⟨h1, h2⟩ := (head_two _ _ _).1 hyes; simp at h1 h2; rw [if_pos (by right; exact ⟨h1, h2⟩)]; rfl
      | j + 3, hj =>
        have g0 := hn0 60 62 0 (by omega) rfl
        have g1 := hn0 60 61 1 (by omega) rfl
        have g2 := hn0 62 61 2 (by omega) rfl
        rw [if_neg (by
          rintro (⟨h1, h2 | h2⟩ | ⟨h1, h2⟩)
          · exact g0 ⟨h1, h2⟩
          · exact g1 ⟨h1, h2⟩
          · exact g2 ⟨h1, h2⟩)]
        have hx : ∃ a, sigL.getD (j + 3) [] = [a] ∧ (a = 43 ∨ a = 45 ∨ a = 42 ∨ a = 47 ∨ a = 38 ∨ a = 61 ∨ a = 60 ∨ a = 62 ∨ a = 40 ∨ a = 41 ∨ a = 44 ∨ a = 58) := by
          have : ∀ j, j < 12 → ∃ a, sigL.getD (j + 3) [] = [a] ∧ (a = 43 ∨ a = 45 ∨ a = 42 ∨ a = 47 ∨ a = 38 ∨ a = 61 ∨ a = 60 ∨ a = 62 ∨ a = 40 ∨ a = 41 ∨ a = 44 ∨ a = 58) := by
            intro j hj
            match j, hj with
            | 0, _ => exact ⟨43, rfl, by omega⟩
            | 1, _ => exact ⟨45, rfl, by omega⟩
            | 2, _ => exact ⟨42, rfl, by omega⟩
            | 3, _ => exact ⟨47, rfl, by omega⟩
            | 4, _ => exact ⟨38, rfl, by omega⟩
            | 5, _ => exact ⟨61, rfl, by omega⟩
            | 6, _ => exact ⟨60, rfl, by omega⟩
            | 7, _ => exact ⟨62, rfl, by omega⟩
            | 8, _ => exact ⟨40, rfl, by omega⟩
            | 9, _ => exact ⟨41, rfl, by omega⟩
            | 10, _ => exact ⟨44, rfl, by omega⟩
            | 11, _ => exact ⟨58, rfl, by omega⟩
            | j + 12, h => omega
          exact this j (by omega)
        obtain ⟨a, ha, hor⟩ := hx
        rw [ha] at hyes ⊢
        have h1 := (head_one _ _).1 hyes
        simp at h1; subst h1
        rw [if_pos hor]; rfl
  have hpos : (sigL.getD j []).length ≠ 0 := by
    have : ∀ j, j < 15 → (sigL.getD j []).length ≠ 0 := by decide
    exact this j hj
  unfold signT
  rw [hlen, if_neg hpos]
  unfold headL at hyes
  rw [decide_eq_true_iff] at hyes
  rw [hyes]
theorem sig_none (l : List Int) (hno : ∀ q, q < 15 → headL (sigL.getD q []) l = false) : signT l = none := by
  have h2 : ∀ a b q, q < 15 → sigL.getD q [] = [a, b] → ¬ (l.head? = some a ∧ l.tail.head? = some b) := by
    intro a b q hq he h
    have := hno q hq
    rw [he, (head_two a b l).2 h] at this; cases this
  have h1 : ∀ a q, q < 15 → sigL.getD q [] = [a] → ¬ l.head? = some a := by
    intro a q hq he h
    have := hno q hq
    rw [he, (head_one a l).2 h] at this; cases this
  have hz : signN l = 0 := by
    cases l with
    | nil => rfl
    | cons x m =>
      rw [signN_cons]
      simp only [List.head?_cons, List.tail_cons, Option.some.injEq] at h1 h2
      have g0 := h2 60 62 0 (by omega) rfl
      have g1 := h2 60 61 1 (by omega) rfl
      have g2 := h2 62 61 2 (by omega) rfl
      have k3 := h1 43 3 (by omega) rfl
      have k4 := h1 45 4 (by omega) rfl
      have k5 := h1 42 5 (by omega) rfl
      have k6 := h1 47 6 (by omega) rfl
      have k7 := h1 38 7 (by omega) rfl
      have k8 := h1 61 8 (by omega) rfl
      have k9 := h1 60 9 (by omega) rfl
      have k10 := h1 62 10 (by omega) rfl
      have k11 := h1 40 11 (by omega) rfl
      have k12 := h1 41 12 (by omega) rfl
      have k13 := h1 44 13 (by omega) rfl
      have k14 := h1 58 14 (by omega) rfl
      rw [if_neg (by
        rintro (⟨h1, h2 | h2⟩ | ⟨h1, h2⟩)
        · exact g0 ⟨h1, h2⟩
        · exact g1 ⟨h1, h2⟩
        · exact g2 ⟨h1, h2⟩), if_neg (by omega)]
  unfold signT; rw [if_pos hz]

/-- What the program's list of signs holds. -/
def SigV (w : World) : Prop := ∃ ty fr, w.heap[(1 : Nat)]? = some (.cells sigA ty fr)
theorem SigV.lt {w : World} (h : SigV w) : 1 < w.heap.size := by obtain ⟨_, _, h⟩ := h; exact (Array.getElem?_eq_some_iff.1 h).1
theorem SigV.grown {w w' : World} {b : Nat} (h : SigV w) (hg : w.grownBy w' (some b)) (hb : 4 < b) : SigV w' := by
  have h0 := h.lt
  obtain ⟨ty, fr, h1⟩ := h
  exact ⟨ty, fr, by rw [hg.block _ h0 (by intro e; have := Option.some.inj e; omega)]; exact h1⟩
theorem SigV.below {w w' : World} (h : SigV w) (hb : Below w.heap.size w w') : SigV w' := by
  have h0 := h.lt
  obtain ⟨ty, fr, h1⟩ := h
  exact ⟨ty, fr, by rw [hb.block _ h0]; exact h1⟩
theorem ErrV.below {w w' : World} (h : ErrV w) (hb : Below w.heap.size w w') : ErrV w' := h.grown (b := w.heap.size + 4 + 1) (grownBy.below_new hb) (by omega)

theorem res_sign : Tryz.f116.results = #[.cell 2 54, .tmp 3] := by kernel_rfl
theorem sig_und : Tryz.prog.underlying 139 = some (.array 15 9) := Tryz.underlying139
theorem sig_size : (Tryz.prog.info? 139).map (·.size) = some sigA.size := by kernel_rfl
theorem str_size : (Tryz.prog.info? 9).map (·.size) = some 1 := by kernel_rfl
set_option maxRecDepth 100000 in
set_option maxHeartbeats 1600000 in
theorem sign_any (b : Nat) (s : ByteArray) (k : Nat) (w : World) (h : LxAt w b s k) (_hs : s.size ≤ 1000000) (_hk : k < s.size) (hsv : SigV w) (hb2 : 4 < b) :
    Calls Tryz.prog 116 #[.pointer (some ⟨b, 0, none⟩)] w (TokOut (signT (restL s k)) b s k w) := by
  have hlt := h.lt
  have hw0 : w.heap.size ≠ b := by omega
  obtain ⟨ty, fr, hrow⟩ := hsv.grown (new_tok w b) hb2
  clear hsv
  have HAL := Lib.hid (new_tok w b)
  have HTK := Lib.hid (TkAt.zero w)
  have HLX := Lib.hid h.tok; clear h
  have HROW := Lib.hid hrow; clear hrow
  go_enter Tryz.func116, Tryz.ntmps116
  go_upto_region 1 with (fail)
  refine wp_region_lit ?_
  refine wpList_load_row rfl 139 (.global 1) rfl 1 rfl ty sigA fr _ HROW.out sig_und rfl sig_size ?_
  go_wp2_with fail
  go_loopw [7] (fun i wr => ∃ j : Nat, j ≤ 15 ∧ i = .int .i64 j ∧ Hid (∀ q, q < j → headL (sigL.getD q []) (restL s k) = false) ∧ Hid (LxAt wr b s k) ∧ Hid ((w.alloc (.cells zTok 54)).grownBy wr (some b)))
    (fun i _ => 15 - (intOf i).toNat)
  case atStart => exact ⟨0, by omega, rfl, Lib.hid (by intro q hq; omega), HLX, Lib.hid (grownBy.refl' _ _)⟩
  case round =>
    obtain ⟨j, hj, rfl, HNO, HR, HG⟩ := hrel
    by_cases hlt : j < 15
    · have hji : (j : Int) < 15 := by omega
      obtain ⟨t, ht1, ht2, ht3, ht4, ht5⟩ := sig_at j hlt
      have hT := take_any b s t k wr HR.out _hs (by omega) (by omega)
      rw [ht3] at hT
      have HT2 := Lib.hid ht2; have HT3 := Lib.hid ht3; have HT5 := Lib.hid ht5
      clear ht1 ht2 ht3 ht5
      cases hq : headL (sigL.getD j []) (restL s k)
      · rw [hq] at hT
        have HT := Lib.hid hT; have HQ := Lib.hid hq; clear hT hq
        go_upto_region 3 with (fail)
        refine wp_region_lit ?_
        refine wpList_index_arr rfl 139 9 15 (.tmp 6) (.tmp 7) rfl sigA j (.string t) _ sig_und Tryz.underlying9 rfl str_size rfl rfl hlt HT2.out ?_
        go_wp2_with (go_at_call 131; ((with_reducible refine HT.out.mono ?_); rintro e w1 ⟨h1, rfl, h2⟩; have H1 := Lib.hid h1; have H2 := Lib.hid h2; clear h1 h2))
        go_roundw
        case rel =>
          refine ⟨j + 1, by omega, by go_num, Lib.hid ?_, H2, Lib.hid (grownBy.trans' HG.out H1.out)⟩
          intro q hq
          by_cases hqj : q < j
          · exact HNO.out q hqj
          · rw [show q = j from by omega]; exact HQ.out
        case measure => simp [intOf]; omega
      · rw [hq] at hT
        have HT := Lib.hid hT; clear hT
        have hsz : t.size = (sigL.getD j []).length := by rw [← HT3.out, length_sb]
        have hN := sig_some j hlt (restL s k) HNO.out hq
        rw [← HT5.out, ← hsz] at hN
        have HN := Lib.hid hN; clear hN hq hsz
        go_upto_region 3 with (fail)
        refine wp_region_lit ?_
        refine wpList_index_arr rfl 139 9 15 (.tmp 6) (.tmp 7) rfl sigA j (.string t) _ sig_und Tryz.underlying9 rfl str_size rfl rfl hlt HT2.out ?_
        go_wp2_with (go_at_call 131; ((with_reducible refine HT.out.mono ?_); rintro e w1 ⟨h1, rfl, h2⟩; have H1 := Lib.hid (grownBy.trans' HG.out h1); have H2 := Lib.hid h2; clear h1 h2; have HT2 := Lib.hid (HTK.out.grown H1.out hw0); obtain ⟨x0, x1, x2, x3, x4, x5, x6, x7, x8⟩ := HT2.out.cells; obtain ⟨f0, f1, f2, f3, f4, f5, f6, f7, f8⟩ := HT2.out.melts))
        exact bodyPost_ret (out_tok (HT2.out.put9 { Tk.zero with kind := 5, text := t }) _ _ true 2 3 res_sign rfl rfl) rfl ⟨grownBy.set9 (grownBy.trans' HAL.out H1.out) (Nat.le_refl _) _ _ _ _ _ _ _ _ _, .inl ⟨_, _, HN.out, rfl, H2.out.set9 hw0 _ _ _ _ _ _ _ _ _⟩⟩
    · have hji : ¬ (j : Int) < 15 := by omega
      have HN := Lib.hid (sig_none (restL s k) (fun q hq => HNO.out q (by omega)))
      have HT2 := Lib.hid (HTK.out.grown HG.out hw0)
      obtain ⟨x0, x1, x2, x3, x4, x5, x6, x7, x8⟩ := HT2.out.cells
      obtain ⟨f0, f1, f2, f3, f4, f5, f6, f7, f8⟩ := HT2.out.melts
      go_wp2_with fail
      exact bodyPost_ret (out_tok (HT2.out.put9 Tk.zero) _ _ false 2 3 res_sign rfl rfl) rfl ⟨grownBy.set9 (grownBy.trans' HAL.out HG.out) (Nat.le_refl _) _ _ _ _ _ _ _ _ _, .inr ⟨HN.out, Tk.zero, rfl⟩⟩
end Go.Proofs.YtdfpalocnijefaaGreatDoor

/-
  Slices of bytes that the call itself makes.
-/
namespace Go.Proofs.YtdfpalocnijefaaGreatDoor
open Go.RowKit

theorem Elem.u8 : Elem Tryz.prog 39 5 1 1 := ⟨Tryz.underlying39, ⟨.int .u8 0, by kernel_rfl, rfl⟩, by decide⟩
abbrev Own8 (w : World) (base : Nat) (v : Value) (xs : List Int) : Prop := Own (encInt .u8) 5 w base v xs
/-- 'string(v)', v of the call's own making. -/
theorem run_str8 {w : World} {base : Nat} {v : Value} {xs : List Int} (h : Own8 w base v xs) : (convert 39 9 v).run Tryz.prog w = .ok (.string (strOfNums xs)) w := by
  rcases h.shape with ⟨rfl, rfl⟩ | ⟨g, cap, rfl, h1, h2, h3, h4⟩
  · rw [run_convert_bytes_nil w _ 5 Tryz.underlying39 Tryz.underlying5 _ _ _ Tryz.underlying9]; rfl
  · refine run_convert_bytes_arg w _ 5 Tryz.underlying39 Tryz.underlying5 g 0 _ cap xs rfl (fun i hi => ?_) _ Tryz.underlying9
    rw [Nat.zero_add]; exact h.intCell i hi
end Go.Proofs.YtdfpalocnijefaaGreatDoor

/-
  append onto a slice of the call's own from whatever source: a slice, nil, a text's bytes.
-/
namespace Go.Proofs.YtdfpalocnijefaaGreatDoor
open Go.RowKit

theorem run_app_src {P : Program} {α : Type} {size t tx ty e bytes : Nat} {w : World} (EL : Elem P t e size bytes) (E : Enc α size) (base : Nat) (v : Value) (xs : List α) (hown : Own E e w base v xs)
    (x : Value) (m : Nat) (ys : List α) (hl : ys.length = m) (hs : Src P size tx x m (E.all ys) w) (hb : (xs.length + m) * bytes ≤ 140737488355328) (hb2 : xs.length + m ≤ maxLen) (hbase : base ≤ w.heap.size) :
    ∃ v' w', (Builtin.append_ #[t, tx] ty #[v, x]).run P w = .ok v' w' ∧ Own E e w' base v' (xs ++ ys) ∧ Below base w w' := by
  obtain ⟨z, hi, hz⟩ := EL.inf
  obtain ⟨i, hi1, hi2, hi3, hi4⟩ := info_parts hi
  have ht := EL.und
  subst hi3
  subst hi4
  have hlx := E.length_all xs
  have hly := E.length_all ys
  rw [hl] at hly
  have hlen : (E.all (xs ++ ys)).length = (xs.length + m) * i.size := by rw [E.length_all, List.length_append, hl]
  have hsmall : xs.length + m ≤ 9223372036854775807 := by simp only [maxLen] at hb2; omega
  have grown : ∀ (old : Nat), old < xs.length + m →
      Own E e (w.drew.alloc (.cells ((E.all xs ++ E.all ys).toArray ++ Builtin.zeroCells z.cells (grownCap w (xs.length + m) old e - (xs.length + m))) e)) base (.slice (some ⟨w.heap.size, 0, none⟩) (xs.length + m) (grownCap w (xs.length + m) old e)) (xs ++ ys) ∧
      Below base w (w.drew.alloc (.cells ((E.all xs ++ E.all ys).toArray ++ Builtin.zeroCells z.cells (grownCap w (xs.length + m) old e - (xs.length + m))) e)) := by
    intro old ho
    have hge := grownCap_ge w (xs.length + m) old e
    have hcm : grownCap w (xs.length + m) old e ≤ maxLen := grownCap_le_maxLen w (xs.length + m) old e hb2
    refine ⟨?_, ((Below.refl _ _).drew).alloc hbase _⟩
    unfold Own
    rw [List.length_append, hl]
    refine ⟨hlen, .inr ⟨w.heap.size, _, _, rfl, hbase, heap_alloc_new w.drew _, hge, hcm, ?_, ?_⟩⟩
    · simp only [Array.size_append, List.size_toArray, size_zeroCells, hz, List.length_append, hlx, hly, ← Nat.add_mul]
      congr 1
      omega
    · simp only [Array.toList_append]
      rw [← E.all_append, ← hlen]
      exact List.take_left
  have h0 := hown
  rcases hown.2 with ⟨rfl, hn⟩ | ⟨g, cap, cur, rfl, hbg, hg, hnc, hcm, hcs, htake⟩
  · have hx : xs = [] := List.eq_nil_of_length_eq_zero hn
    subst hx
    by_cases hm : m = 0
    · subst hm
      have hy : ys = [] := List.eq_nil_of_length_eq_zero hl
      subst hy
      refine ⟨.slice none 0 0, w, ?_, Own.nil E e w base, Below.refl _ _⟩
      have hc := hs.cells
      have hll := hs.len
      have hc' : (Builtin.firstCells i.size 0 x).run P w = .ok #[] w := hc
      rcases hs.kind with ⟨e', hk⟩ | hk <;>
        simp [Builtin.append_, run_underlying ht, run_underlying hk, sizeOf, typeInfo, hi1, hll, hc']
    · have hgr := grown 0 (by simp; omega)
      have hr := run_append_grow_src (P := P) w t tx ty e i z ht hi1 hi2 none 0 0 [] (by simp [Builtin.firstCells]) x m (E.all ys) hs (by omega) (by simp at hsmall; omega) (growslice_fits (by omega) (by simpa using hb))
      simp only [List.length_nil, Nat.zero_add, List.nil_append, Enc.all, List.flatMap_nil] at hgr hr ⊢
      exact ⟨_, _, hr, hgr.1, hgr.2⟩
  · by_cases hroom : xs.length + m ≤ cap
    · have hfit : xs.length * i.size + (E.all ys).length ≤ cur.size := by rw [hly, hcs, ← Nat.add_mul]; exact Nat.mul_le_mul_right _ hroom
      have hst := run_storeCells_at P g (xs.length * i.size) e (E.all ys) 0 cur w hg (by omega) (E.one_all ys)
      simp only [Nat.add_zero] at hst
      refine ⟨.slice (some ⟨g, 0, none⟩) (xs.length + m) cap, w.setRow g (cur.toList.take (xs.length * i.size) ++ E.all ys ++ cur.toList.drop (xs.length * i.size + (E.all ys).length)).toArray, ?_, ?_, ?_⟩
      · rcases hs.kind with ⟨e', hk⟩ | hk <;> simp [Builtin.append_, run_underlying ht, run_underlying hk, sizeOf, typeInfo, hi1, hs.len, hroom, hs.cells, Addr.add_lit, hst]
      · unfold Own
        rw [List.length_append, hl]
        refine ⟨hlen, .inr ⟨g, cap, _, rfl, hbg, setRow_heap w g cur _ e _ hg, hroom, hcm, ?_, ?_⟩⟩
        · simp only [List.size_toArray, List.length_append, List.length_take, List.length_drop, Array.length_toList]
          omega
        · rw [htake, ← hlen, ← E.all_append]
          exact List.take_left
      · exact ⟨rfl, rfl, rfl, by simp, fun k hk => setRow_other w g k _ (by omega)⟩
    · have hold : (Builtin.firstCells i.size xs.length (.slice (some ⟨g, 0, none⟩) xs.length cap)).run P w.drew = .ok (E.all xs).toArray w.drew :=
        run_firstCells_some w.drew i.size xs.length ⟨g, 0, none⟩ xs.length cap (E.all xs) hlx (World.ownsRow.cells (w := w.drew) h0 (g := g) rfl)
      have hgr := grown cap (by omega)
      have hr := run_append_grow_src (P := P) w t tx ty e i z ht hi1 hi2 (some ⟨g, 0, none⟩) xs.length cap (E.all xs) hold x m (E.all ys) hs (by omega) (by omega) (growslice_fits (by omega) hb)
      exact ⟨_, _, hr, hgr.1, hgr.2⟩

/-- THE LAW, at a list of operations. -/
theorem wpList_app_src {P : Program} {α : Type} {size t tx e bytes : Nat} {w : World} {ops : Array Oper} {rest : List Oper} {o : Oper} {a : Act} {Q : Exit → Act → World → Prop} (EL : Elem P t e size bytes) (E : Enc α size)
    (hgd : o.guard = none) (s x : Operand) (ho : o.op = .call { callee := .builtin .append, args := #[s, x], argTypes := #[t, tx] }) (base : Nat) (v : Value) (xs : List α)
    (hs : a.eval s = v) (hown : Own E e w base v xs) (y : Value) (m : Nat) (ys : List α) (hx : a.eval x = y) (hl : ys.length = m) (hsrc : Src P size tx y m (E.all ys) w)
    (hb : (xs.length + m) * bytes ≤ 140737488355328) (hb2 : xs.length + m ≤ maxLen) (hbase : base ≤ w.heap.size)
    (h : ∀ (v' : Value) (w' : World), Own E e w' base v' (xs ++ ys) → Below base w w' → wpList P ops Q rest (a.put o.dst v') w') : wpList P ops Q (o :: rest) a w := by
  obtain ⟨v', w', hrun, h2, h3⟩ := run_app_src (ty := o.type) EL E base v xs hown y m ys hl hsrc hb hb2 hbase
  refine wpList_plain hgd fun _ hK => ?_
  unfold Oper.wp execOp
  simp only [ho, resolve, invoke, builtin, Sem.run_bind, Sem.run_pure, Result.andThen_ok, List.map_toArray, List.map_cons, List.map_nil, hs, hx, hrun]
  exact hK _ _ (h v' w' h2 h3)
/-- The same as one step of a region that draws its order. -/
theorem step_app_src {P : Program} {α : Type} {size t tx e bytes : Nat} {w : World} {ops : Array Oper} {o : Oper} {a : Act} {K : Act → World → Prop} {Q : Exit → Act → World → Prop} {F : Prop} (EL : Elem P t e size bytes) (E : Enc α size)
    (hgd : o.guard = none) (s x : Operand) (ho : o.op = .call { callee := .builtin .append, args := #[s, x], argTypes := #[t, tx] }) (base : Nat) (v : Value) (xs : List α)
    (hs : a.eval s = v) (hown : Own E e w base v xs) (y : Value) (m : Nat) (ys : List α) (hx : a.eval x = y) (hl : ys.length = m) (hsrc : Src P size tx y m (E.all ys) w)
    (hb : (xs.length + m) * bytes ≤ 140737488355328) (hb2 : xs.length + m ≤ maxLen) (hbase : base ≤ w.heap.size)
    (h : ∀ (v' : Value) (w' : World), Own E e w' base v' (xs ++ ys) → Below base w w' → K (a.put o.dst v') w') :
    if Region.wanted o (yielded ops a.tmps) = true then Oper.wp P o a w K Q else F := by
  have hw : Region.wanted o (yielded ops a.tmps) = true := by simp [Region.wanted, hgd]
  rw [if_pos hw]
  obtain ⟨v', w', hrun, h2, h3⟩ := run_app_src (ty := o.type) EL E base v xs hown y m ys hl hsrc hb hb2 hbase
  unfold Oper.wp
  simp [execOp, ho, resolve, invoke, builtin, hs, hx, hrun, Result.andThen]
  exact h v' w' h2 h3

/-- A text's bytes as a source. -/
theorem byteCells_sb (s : ByteArray) : byteCells s = (encInt .u8).all (sb s) := by
  rw [all_encInt]; unfold byteCells sb; rw [List.map_map]; rfl
theorem src_text {w : World} (s : ByteArray) : Src Tryz.prog 1 9 (.string s) s.size ((encInt .u8).all (sb s)) w := by
  rw [← byteCells_sb]; exact Src.ofString w Tryz.underlying9 s
/-- A slice of the call's own as a source. -/
theorem src_own8 {w : World} {base : Nat} {v : Value} {ys : List Int} (h : Own8 w base v ys) : Src Tryz.prog 1 39 v ys.length ((encInt .u8).all ys) w := by
  rcases h.shape with ⟨rfl, rfl⟩ | ⟨g, cap, rfl, h1, h2, h3, h4⟩
  · exact Src.ofNil w Tryz.underlying39 0
  · exact Src.ofSlice w Tryz.underlying39 _ _ _ _ (by rw [Enc.length_all, Nat.mul_one]) (fun j u hu => by rw [Addr.add_mid, Nat.zero_add]; exact Own.cells h j u hu) ((encInt .u8).one_all ys)

theorem Bytes.drop {l : List Int} (h : Bytes l) (k : Nat) : Bytes (l.drop k) := fun a ha => h a (List.mem_of_mem_drop ha)
theorem Bytes.take {l : List Int} (h : Bytes l) (k : Nat) : Bytes (l.take k) := fun a ha => h a (List.mem_of_mem_take ha)
theorem Bytes.get {l : List Int} (h : Bytes l) (k : Nat) : 0 ≤ l.getD k 0 ∧ l.getD k 0 ≤ 255 := by
  rw [List.getD_eq_getElem?_getD]
  cases hk : l[k]? with
  | none => simp
  | some a => exact h a (List.mem_of_getElem? hk)

/-- A SLICE OF BYTES THAT READS AS xs, whoever made it, below block B (nil let in). -/
structure S8 (w : World) (B : Nat) (A : Option Addr) (len cap : Nat) (xs : List Int) : Prop where
  hlen : xs.length = len
  le : len ≤ cap
  max : cap ≤ maxLen
  bytes : Bytes xs
  at_ : len = 0 ∨ ∃ pb po, A = some ⟨pb, po, none⟩ ∧ pb < B ∧ ∀ j, j < len → w.cell? ⟨pb, po + j, none⟩ = some (.int .u8 (xs.getD j 0))
theorem S8.below {w w' : World} {B C : Nat} {A : Option Addr} {len cap : Nat} {xs : List Int} (h : S8 w B A len cap xs) (hb : Below C w w') (hC : B ≤ C) : S8 w' B A len cap xs :=
  ⟨h.hlen, h.le, h.max, h.bytes, by
    rcases h.at_ with h1 | ⟨pb, po, h1, h2, h3⟩
    · exact .inl h1
    · exact .inr ⟨pb, po, h1, h2, fun j hj => (hb.cell (p := ⟨pb, po + j, none⟩) (by show pb < C; omega)).trans (h3 j hj)⟩⟩
theorem S8.mono {w : World} {B C : Nat} {A : Option Addr} {len cap : Nat} {xs : List Int} (h : S8 w B A len cap xs) (hC : B ≤ C) : S8 w C A len cap xs :=
  ⟨h.hlen, h.le, h.max, h.bytes, by
    rcases h.at_ with h1 | ⟨pb, po, h1, h2, h3⟩
    · exact .inl h1
    · exact .inr ⟨pb, po, h1, by omega, h3⟩⟩
theorem S8.drewN {w : World} {B : Nat} {A : Option Addr} {len cap : Nat} {xs : List Int} (h : S8 w B A len cap xs) (n : Nat) : S8 (w.drewN n) B A len cap xs := ⟨h.hlen, h.le, h.max, h.bytes, h.at_⟩
theorem S8.src {w : World} {B : Nat} {A : Option Addr} {len cap : Nat} {xs : List Int} (h : S8 w B A len cap xs) : Src Tryz.prog 1 39 (.slice A len cap) len ((encInt .u8).all xs) w := by
  have hl := h.hlen
  rcases h.at_ with rfl | ⟨pb, po, rfl, h2, h3⟩
  · have : xs = [] := List.eq_nil_of_length_eq_zero hl
    subst this
    cases A with
    | none => exact Src.ofNil w Tryz.underlying39 cap
    | some a => exact Src.ofSlice w Tryz.underlying39 a 0 cap _ rfl (fun j u hu => by simp [Enc.all] at hu) ((encInt .u8).one_all [])
  · refine Src.ofSlice w Tryz.underlying39 _ _ _ _ (by rw [Enc.length_all, hl]) (fun j u hu => ?_) ((encInt .u8).one_all xs)
    rw [Addr.add_mid]
    rw [all_encInt] at hu
    have hj : j < xs.length := by
      have := (List.getElem?_eq_some_iff.1 hu).1
      rw [List.length_map] at this; exact this
    rw [getElem?_map_int _ _ _ hj] at hu
    rw [h3 j (by omega), ← hu]
theorem Own.s8 {w : World} {base : Nat} {v : Value} {xs : List Int} (h : Own8 w base v xs) (hb : Bytes xs) : ∃ A cap, v = .slice A xs.length cap ∧ S8 w w.heap.size A xs.length cap xs ∧ (A = none ∨ ∃ g, A = Option.some ⟨g, 0, none⟩ ∧ base ≤ g) := by
  rcases h.shape with ⟨rfl, rfl⟩ | ⟨g, cap, rfl, h1, h2, h3, h4⟩
  · exact ⟨none, 0, rfl, ⟨rfl, Nat.le_refl _, by unfold maxLen; omega, hb, .inl rfl⟩, .inl rfl⟩
  · exact ⟨Option.some ⟨g, 0, none⟩, cap, rfl, ⟨rfl, h3, h4, hb, .inr ⟨g, 0, rfl, h2, fun j hj => by rw [Nat.zero_add]; exact h.intCell j hj⟩⟩, .inr ⟨g, rfl, h1⟩⟩
/-- 'string(v)' of an empty slice, wherever it lies. -/
theorem run_text0 (A : Option Addr) (cap : Nat) (w : World) : (convert 39 9 (.slice A 0 cap)).run Tryz.prog w = .ok (.string (strOfNums [])) w := by
  cases A with
  | none => rw [run_convert_bytes_nil w _ 5 Tryz.underlying39 Tryz.underlying5 _ _ _ Tryz.underlying9]; rfl
  | some a =>
    have hl : (loadCells a 0).run Tryz.prog w = .ok (([] : List Int).map (Value.int .u8)).toArray w := run_loadCells_list (P := Tryz.prog) w a [] (by simp)
    rw [run_convert_bytes_string w 39 9 5 _ 0 cap Tryz.underlying39 Tryz.underlying5 Tryz.underlying9, run_bytesToString w _ 0 cap [] hl]; rfl
/-- 'string(v)' of such a slice. -/
theorem S8.text {w : World} {B : Nat} {A : Option Addr} {len cap : Nat} {xs : List Int} (h : S8 w B A len cap xs) : (convert 39 9 (.slice A len cap)).run Tryz.prog w = .ok (.string (strOfNums xs)) w := by
  have hl := h.hlen
  rcases h.at_ with rfl | ⟨pb, po, rfl, h2, h3⟩
  · have : xs = [] := List.eq_nil_of_length_eq_zero hl
    subst this
    exact run_text0 A cap w
  · exact run_convert_bytes_arg w _ 5 Tryz.underlying39 Tryz.underlying5 pb po _ cap xs hl h3 _ Tryz.underlying9
/-- 's[k:p]' of a slice of bytes. -/
theorem run_cut8 (pb po len cap k p : Nat) (h1 : k ≤ p) (h2 : p ≤ cap) (h3 : ¬ cap = k) (w : World) : (Instr.slice 39 (.slice (some ⟨pb, po, none⟩) len cap) (some (.int .i64 (k : Int))) (some (.int .i64 (p : Int))) none).run Tryz.prog w = .ok (.slice (some ⟨pb, po + k, none⟩) (p - k) (cap - k)) w := by
  have e1 : (p : Int) ≤ (cap : Int) := by omega
  have e2 : (k : Int) ≤ (p : Int) := by omega
  have e3 : (Tryz.prog.info? 5).map (·.size) = some 1 := by kernel_rfl
  cases hq : Tryz.prog.info? 5 with
  | none => rw [hq] at e3; cases e3
  | some i =>
    have hi : i.size = 1 := by rw [hq] at e3; simpa using e3
    simp [Instr.slice, run_underlying Tryz.underlying39, Instr.sliceBounds, Instr.sliceBound, asIntOf, sizeOf, typeInfo, hq, hi, h1, h2, h3, go_sem, Addr.add_mid]
theorem Own.other {α : Type} {size : Nat} {E : Enc α size} {e : TypeId} {w w' : World} {base r : Nat} {v : Value} {xs : List α} (h : Own E e w base v xs) (hg : w.grownBy w' (Option.some r)) (hr : r < base) : Own E e w' base v xs := by
  refine ⟨h.1, ?_⟩
  rcases h.2 with h | ⟨g, cap, cur, h1, h2, h3, h4⟩
  · exact .inl h
  · refine .inr ⟨g, cap, cur, h1, h2, ?_, h4⟩
    rw [hg.block g (Array.getElem?_eq_some_iff.1 h3).1 (by intro h; have : g = r := Option.some.inj h; omega)]; exact h3
end Go.Proofs.YtdfpalocnijefaaGreatDoor

/-
  Layer 4, the program: texts.
-/
namespace Go.Proofs.YtdfpalocnijefaaGreatDoor
open Go.RowKit

/-- A text's bytes so far, and what is still to be read. -/
def QuoSt (s : ByteArray) (k p : Nat) (xs : List Int) : Prop := quoF (restL s (k + 1)) = (quoF (restL s p)).map fun q => (xs ++ q.1, p - (k + 1) + q.2)
theorem restL_cons (s : ByteArray) (p : Nat) (h : p < s.size) : restL s p = ((s[p].toNat : Nat) : Int) :: restL s (p + 1) := by
  unfold restL
  rw [List.drop_eq_getElem_cons (by rw [length_sb]; exact h)]
  congr 1
  have := sb_at s p h
  rw [List.getElem?_eq_getElem (by rw [length_sb]; exact h)] at this
  exact Option.some.inj this
theorem restL_nil (s : ByteArray) (p : Nat) (h : s.size ≤ p) : restL s p = [] := by
  apply List.eq_nil_of_length_eq_zero; rw [length_restL]; omega
theorem quo_end {s : ByteArray} {k p : Nat} {xs : List Int} (h : QuoSt s k p xs) (hp : s.size ≤ p) : quoT (restL s (k + 1)) = none := by
  unfold QuoSt at h; unfold quoT; rw [h, restL_nil s p hp]; rfl
theorem quo_low {s : ByteArray} {k p : Nat} {xs : List Int} (h : QuoSt s k p xs) (hp : p < s.size) (hc : ((s[p].toNat : Nat) : Int) < 32) : quoT (restL s (k + 1)) = none := by
  unfold QuoSt at h; unfold quoT; rw [h, restL_cons s p hp, quoF_cons, if_pos hc]; rfl
theorem quo_next {s : ByteArray} {k p : Nat} {xs : List Int} {a : Int} (h : QuoSt s k p xs) (hk : k + 1 ≤ p) (hp : p < s.size) (ha : ((s[p].toNat : Nat) : Int) = a) (h1 : ¬ a < 32) (h2 : ¬ a = 34) : QuoSt s k (p + 1) (xs ++ [a]) := by
  unfold QuoSt at h ⊢
  rw [h, restL_cons s p hp, quoF_cons, ha, if_neg h1, if_pos h2]
  cases quoF (restL s (p + 1)) with
  | none => rfl
  | some q =>
    simp only [Option.map_some, Option.some.injEq, Prod.mk.injEq, List.append_assoc, List.cons_append, List.nil_append, true_and]; omega
theorem quo_two {s : ByteArray} {k p : Nat} {xs : List Int} (h : QuoSt s k p xs) (hk : k + 1 ≤ p) (hp : p < s.size) (ha : ((s[p].toNat : Nat) : Int) = 34) (hp2 : p + 1 < s.size) (ha2 : ((s[p + 1].toNat : Nat) : Int) = 34) : QuoSt s k (p + 1 + 1) (xs ++ [34]) := by
  unfold QuoSt at h ⊢
  rw [h, restL_cons s p hp, restL_cons s (p + 1) hp2, quoF_cons, ha, ha2, if_neg (by omega), if_neg (by omega)]
  simp only [if_true]
  cases quoF (restL s (p + 1 + 1)) with
  | none => rfl
  | some q =>
    simp only [Option.map_some, Option.some.injEq, Prod.mk.injEq, List.append_assoc, List.cons_append, List.nil_append, true_and]; omega
theorem quo_last {s : ByteArray} {k p : Nat} {xs : List Int} (h : QuoSt s k p xs) (hk : k + 1 ≤ p) (hp : p < s.size) (ha : ((s[p].toNat : Nat) : Int) = 34) (h2 : ∀ h : p + 1 < s.size, ¬ ((s[p + 1].toNat : Nat) : Int) = 34) :
    quoT (restL s (k + 1)) = some ({ Tk.zero with kind := 2, text := strOfNums xs }, p + 1 - k) := by
  unfold QuoSt at h
  have hq : quoF (restL s p) = some ([], 1) := by
    rw [restL_cons s p hp, quoF_cons, ha, if_neg (by omega), if_neg (by omega)]
    by_cases hp2 : p + 1 < s.size
    · rw [restL_cons s (p + 1) hp2]
      simp only [if_neg (h2 hp2)]
    · rw [restL_nil s (p + 1) (by omega)]
  unfold quoT
  rw [h, hq]
  simp only [Option.map_some, List.append_nil, Option.some.injEq, Prod.mk.injEq, true_and]; omega

theorem grownBy.below1 {a w w' : World} {r : Option Nat} (h : a.grownBy w r) (k : Below (a.heap.size + 1) w w') : a.grownBy w' r :=
  ⟨k.os.trans h.os, k.tape.trans h.tape, k.output.trans h.output, Nat.le_trans h.size k.size, fun j hj hr => (k.block j (by omega)).trans (h.block j hj hr)⟩
theorem res_quoted : Tryz.f112.results = #[.cell 2 54, .tmp 3] := by kernel_rfl
set_option maxRecDepth 100000 in
set_option maxHeartbeats 4000000 in
theorem quoted_any (b : Nat) (s : ByteArray) (k : Nat) (w : World) (h : LxAt w b s k) (_hs : s.size ≤ 1000000) (_hk : k < s.size) :
    Calls Tryz.prog 112 #[.pointer (some ⟨b, 0, none⟩)] w (TokOut (quoT (restL s (k + 1))) b s k w) := by
  have hlt := h.lt
  have hw0 : w.heap.size ≠ b := by omega
  have hbB : b < w.heap.size + 1 := by omega
  obtain ⟨c0, c1⟩ := h.tok.facts
  have f1 := h.tok.frozen 1
  have hHAL : w.grownBy ((w.setCell ⟨b, 1, none⟩ (.int .i64 ((k : Int) + 1))).alloc (.cells zTok 54)) (some b) := grownBy.below' (grownBy.setCell' (grownBy.refl' _ _) _ _) ((Below.refl _ _).alloc (Nat.le_refl _) _)
  have HAL := Lib.hid hHAL; clear hHAL
  have hTK := TkAt.zero (w.setCell ⟨b, 1, none⟩ (.int .i64 ((k : Int) + 1)))
  rw [show (w.setCell ⟨b, 1, none⟩ (.int .i64 ((k : Int) + 1))).heap.size = w.heap.size by simp] at hTK
  have HTK := Lib.hid hTK; clear hTK
  have HLX := Lib.hid (h.setNext.tok); clear h
  go_enter Tryz.func112, Tryz.ntmps112
  go_wp2_with fail
  clear c0 c1 f1
  go_loopw [4] (fun v wr => ∃ (p : Nat) (xs : List Int), k + 1 ≤ p ∧ p ≤ s.size ∧ xs.length ≤ p ∧ Hid (Bytes xs) ∧ Hid (QuoSt s k p xs) ∧ Hid (LxAt wr b s p) ∧ Hid (Own8 wr (w.heap.size + 1) v xs) ∧ Hid (TkAt wr w.heap.size Tk.zero) ∧ Hid (w.grownBy wr (some b)))
    (fun _ wr => lxm b s.size wr)
  case atStart =>
    refine ⟨k + 1, [], by omega, by omega, by simp, Lib.hid Bytes.nil, Lib.hid ?_, HLX, Lib.hid (Own.nil _ _ _ _), HTK, HAL⟩
    unfold QuoSt
    cases quoF (restL s (k + 1)) with
    | none => rfl
    | some q => simp
  case round =>
    obtain ⟨p, xs, hkp, hps, hxl, HBY, HQ, HR, HO, HT, HG⟩ := hrel
    clear HAL HTK HLX
    have hmeas := HR.out.lxm s.size
    have HME := Lib.hid hmeas; clear hmeas
    obtain ⟨c0, c1⟩ := HR.out.facts
    have f1 := HR.out.frozen 1
    by_cases hlt : p < s.size
    · have hlt2 : (p : Int) < (s.size : Int) := by omega
      obtain ⟨a, ha⟩ : ∃ a : Int, (s[p].toNat : Int) = a := ⟨_, rfl⟩
      have ha1 : 0 ≤ a ∧ a ≤ 255 := by have := s[p].toNat_lt; omega
      by_cases hlow : a < 32
      · have HN := Lib.hid (quo_low HQ.out hlt (by rw [ha]; exact hlow))
        go_wp2_with fail
        go_quiet (fail)
        have HR1 := Lib.hid (HR.out.drewN nq); have HO1 := Lib.hid (HO.out.drewN nq); have HT1 := Lib.hid (HT.out.drewN nq); have HG1 := Lib.hid (grownBy.drewN' HG.out nq)
        generalize wr.drewN nq = w1 at HR1 HO1 HT1 HG1 ⊢
        clear c0 c1 f1 HR HO HT HG
        obtain ⟨c0, c1⟩ := HR1.out.facts
        have f1 := HR1.out.frozen 1
        go_wp2_with fail
        go_quiet (fail)
        have HR2 := Lib.hid (HR1.out.drewN nq); have HO2 := Lib.hid (HO1.out.drewN nq); have HT2 := Lib.hid (HT1.out.drewN nq); have HG2 := Lib.hid (grownBy.drewN' HG1.out nq)
        generalize w1.drewN nq = w2 at HR2 HO2 HT2 HG2 ⊢
        clear c0 c1 f1 HR1 HO1 HT1 HG1
        obtain ⟨c0, c1⟩ := HR2.out.facts
        have f1 := HR2.out.frozen 1
        obtain ⟨x0, x1, x2, x3, x4, x5, x6, x7, x8⟩ := HT2.out.cells
        obtain ⟨g0, g1, g2, g3, g4, g5, g6, g7, g8⟩ := HT2.out.melts
        go_wp2_with fail
        exact bodyPost_ret (out_tok (HT2.out.put9 Tk.zero) _ _ false 2 3 res_quoted rfl rfl) rfl ⟨grownBy.set9 HG2.out (Nat.le_refl _) _ _ _ _ _ _ _ _ _, .inr ⟨HN.out, Tk.zero, rfl⟩⟩
      · by_cases h34 : a = 34
        · have hb34 : (a == 34) = true := beq_iff_eq.2 h34
          obtain ⟨q, hq⟩ : ∃ q : Nat, p + 1 = q := ⟨_, rfl⟩
          go_wp2_with fail
          go_quiet (fail)
          have HR1 := Lib.hid (HR.out.drewN nq); have HO1 := Lib.hid (HO.out.drewN nq); have HT1 := Lib.hid (HT.out.drewN nq); have HG1 := Lib.hid (grownBy.drewN' HG.out nq)
          generalize wr.drewN nq = w1 at HR1 HO1 HT1 HG1 ⊢
          clear c0 c1 f1 HR HO HT HG
          obtain ⟨c0, c1⟩ := HR1.out.facts
          have f1 := HR1.out.frozen 1
          go_wp2_with fail
          go_quiet (fail)
          have HR2 := Lib.hid (HR1.out.drewN nq); have HO2 := Lib.hid (HO1.out.drewN nq); have HT2 := Lib.hid (HT1.out.drewN nq); have HG2 := Lib.hid (grownBy.drewN' HG1.out nq)
          generalize w1.drewN nq = w2 at HR2 HO2 HT2 HG2 ⊢
          clear c0 c1 f1 HR1 HO1 HT1 HG1
          obtain ⟨c0, c1⟩ := HR2.out.facts
          have f1 := HR2.out.frozen 1
          go_upto_region 10 with (fail)
          have HR3 := Lib.hid (HR2.out.setNext); have HO3 := Lib.hid (Own.other HO2.out (grownBy.setCell' (grownBy.refl' _ _) _ _) hbB : Own8 (w2.setCell ⟨b, 1, none⟩ (.int .i64 ((p : Int) + 1))) _ _ _); have HT3 := Lib.hid (HT2.out.grown (grownBy.setCell' (grownBy.refl' _ _) 1 (.int .i64 ((p : Int) + 1))) hw0); have HG3 := Lib.hid (grownBy.setCell' HG2.out 1 (.int .i64 ((p : Int) + 1)))
          generalize w2.setCell ⟨b, 1, none⟩ (.int .i64 ((p : Int) + 1)) = w3 at HR3 HO3 HT3 HG3 ⊢
          clear c0 c1 f1 HR2 HO2 HT2 HG2
          obtain ⟨c0, c1⟩ := HR3.out.facts
          have f1 := HR3.out.frozen 1
          have HR3' := Lib.hid (show LxAt w3 b s q by rw [← hq]; exact HR3.out)
          clear c0 c1 HR3
          have HR3 := HR3'; clear HR3'
          obtain ⟨c0, c1⟩ := HR3.out.facts
          have HQP := Lib.hid hq
          by_cases hlt3 : q < s.size
          · have hlt4 : ((q : Int) == (s.size : Int)) = false := beq_eq_false_iff_ne.2 (by omega)
            have hlt5 : (q : Int) < (s.size : Int) := by omega
            obtain ⟨a2, ha2⟩ : ∃ a2 : Int, (s[q].toNat : Int) = a2 := ⟨_, rfl⟩
            have ha21 : 0 ≤ a2 ∧ a2 ≤ 255 := by have := s[q].toNat_lt; omega
            by_cases h342 : a2 = 34
            · have hb342 : (a2 == 34) = true := beq_iff_eq.2 h342
              have HQ2 := Lib.hid (show QuoSt s k (q + 1) (xs ++ [34]) by subst hq; exact quo_two HQ.out hkp hlt (by rw [ha, h34]) hlt3 (by rw [ha2, h342]))
              clear HQ hq
              go_quiet (fail)
              have HR4 := Lib.hid (HR3.out.drewN nq); have HO4 := Lib.hid (HO3.out.drewN nq); have HT4 := Lib.hid (HT3.out.drewN nq); have HG4 := Lib.hid (grownBy.drewN' HG3.out nq)
              generalize w3.drewN nq = w4 at HR4 HO4 HT4 HG4 ⊢
              clear c0 c1 f1 HR3 HO3 HT3 HG3
              obtain ⟨c0, c1⟩ := HR4.out.facts
              have f1 := HR4.out.frozen 1
              go_wp2_with (at_builtin; refine wpList_app Elem.u8 (encInt .u8) rfl (.tmp 76) (.tmp 78) rfl (w.heap.size + 1) _ _ rfl (HO4.out.alloc _) ⟨_, 0, none⟩ 1 1 [34] rfl rfl ?_ ?_ ?_ ?_ ?_; exact cells_new _ _ _ rfl; omega; (unfold maxLen; omega); (have := HT4.out.lt; simp <;> omega); intro v' wz h1 h2; have HOz := Lib.hid h1; have HBz := Lib.hid (((Below.refl (w.heap.size + 1) _).alloc (by have := HT4.out.lt; omega) _).trans h2); clear h1 h2; have HRz := Lib.hid (HR4.out.below HBz.out hbB); have HTz := Lib.hid (HT4.out.below HBz.out (Nat.lt_succ_self _)); have HGz := Lib.hid (grownBy.below1 HG4.out HBz.out); clear HR4 HO4 HT4 HG4 c0 c1 f1; obtain ⟨c0, c1⟩ := HRz.out.facts; have f1 := HRz.out.frozen 1)
              go_roundw
              case rel =>
                refine ⟨q + 1, xs ++ [34], by have := HQP.out; omega, by omega, by have := HQP.out; simp; omega, Lib.hid (HBY.out.append (by intro x hx; simp at hx; omega)), HQ2, Lib.hid HRz.out.setNext, Lib.hid (Own.other HOz.out (grownBy.setCell' (grownBy.refl' _ _) _ _) hbB), Lib.hid (HTz.out.grown (grownBy.setCell' (grownBy.refl' _ _) _ _) hw0), Lib.hid (grownBy.setCell' HGz.out _ _)⟩
              case measure =>
                have h1 := HRz.out.setNext.lxm s.size
                have h2 := HQP.out
                rw [HME.out]
                exact Nat.lt_of_le_of_lt (Nat.le_of_eq h1) (by omega)
            · have hb342 : (a2 == 34) = false := beq_eq_false_iff_ne.2 h342
              have HN := Lib.hid (show quoT (restL s (k + 1)) = some ({ Tk.zero with kind := 2, text := strOfNums xs }, q - k) by subst hq; exact quo_last HQ.out hkp hlt (by rw [ha, h34]) (fun h => by rw [ha2]; exact h342))
              clear HQ hq
              go_quiet (fail)
              have HR4 := Lib.hid (HR3.out.drewN nq); have HO4 := Lib.hid (HO3.out.drewN nq); have HT4 := Lib.hid (HT3.out.drewN nq); have HG4 := Lib.hid (grownBy.drewN' HG3.out nq)
              generalize w3.drewN nq = w4 at HR4 HO4 HT4 HG4 ⊢
              clear c0 c1 f1 HR3 HO3 HT3 HG3
              obtain ⟨c0, c1⟩ := HR4.out.facts
              have f1 := HR4.out.frozen 1
              have hconv := run_str8 HO4.out
              obtain ⟨x0, x1, x2, x3, x4, x5, x6, x7, x8⟩ := HT4.out.cells
              obtain ⟨g0, g1, g2, g3, g4, g5, g6, g7, g8⟩ := HT4.out.melts
              go_wp2_with fail
              exact bodyPost_ret (out_tok (HT4.out.put9 { Tk.zero with kind := 2, text := strOfNums xs }) _ _ true 2 3 res_quoted rfl rfl) rfl ⟨grownBy.set9 HG4.out (Nat.le_refl _) _ _ _ _ _ _ _ _ _, .inl ⟨_, _, HN.out, rfl, by rw [show k + (q - k) = q from by have := HQP.out; omega]; exact HR4.out.set9 hw0 _ _ _ _ _ _ _ _ _⟩⟩
          · have hlt4 : ((q : Int) == (s.size : Int)) = true := beq_iff_eq.2 (by omega)
            have HN := Lib.hid (show quoT (restL s (k + 1)) = some ({ Tk.zero with kind := 2, text := strOfNums xs }, q - k) by subst hq; exact quo_last HQ.out hkp hlt (by rw [ha, h34]) (fun h => absurd h hlt3))
            clear HQ hq
            go_quiet (fail)
            have HR4 := Lib.hid (HR3.out.drewN nq); have HO4 := Lib.hid (HO3.out.drewN nq); have HT4 := Lib.hid (HT3.out.drewN nq); have HG4 := Lib.hid (grownBy.drewN' HG3.out nq)
            generalize w3.drewN nq = w4 at HR4 HO4 HT4 HG4 ⊢
            clear c0 c1 f1 HR3 HO3 HT3 HG3
            obtain ⟨c0, c1⟩ := HR4.out.facts
            have f1 := HR4.out.frozen 1
            have hconv := run_str8 HO4.out
            obtain ⟨x0, x1, x2, x3, x4, x5, x6, x7, x8⟩ := HT4.out.cells
            obtain ⟨g0, g1, g2, g3, g4, g5, g6, g7, g8⟩ := HT4.out.melts
            go_wp2_with fail
            exact bodyPost_ret (out_tok (HT4.out.put9 { Tk.zero with kind := 2, text := strOfNums xs }) _ _ true 2 3 res_quoted rfl rfl) rfl ⟨grownBy.set9 HG4.out (Nat.le_refl _) _ _ _ _ _ _ _ _ _, .inl ⟨_, _, HN.out, rfl, by rw [show k + (q - k) = q from by have := HQP.out; omega]; exact HR4.out.set9 hw0 _ _ _ _ _ _ _ _ _⟩⟩
        · have hb34 : (a == 34) = false := beq_eq_false_iff_ne.2 h34
          have HQ2 := Lib.hid (quo_next HQ.out hkp hlt ha hlow h34)
          clear HQ
          go_wp2_with fail
          go_quiet (fail)
          have HR1 := Lib.hid (HR.out.drewN nq); have HO1 := Lib.hid (HO.out.drewN nq); have HT1 := Lib.hid (HT.out.drewN nq); have HG1 := Lib.hid (grownBy.drewN' HG.out nq)
          generalize wr.drewN nq = w1 at HR1 HO1 HT1 HG1 ⊢
          clear c0 c1 f1 HR HO HT HG
          obtain ⟨c0, c1⟩ := HR1.out.facts
          have f1 := HR1.out.frozen 1
          go_wp2_with fail
          go_quiet (fail)
          have HR2 := Lib.hid (HR1.out.drewN nq); have HO2 := Lib.hid (HO1.out.drewN nq); have HT2 := Lib.hid (HT1.out.drewN nq); have HG2 := Lib.hid (grownBy.drewN' HG1.out nq)
          generalize w1.drewN nq = w2 at HR2 HO2 HT2 HG2 ⊢
          clear c0 c1 f1 HR1 HO1 HT1 HG1
          obtain ⟨c0, c1⟩ := HR2.out.facts
          have f1 := HR2.out.frozen 1
          go_wp2_with (at_builtin; refine wpList_app Elem.u8 (encInt .u8) rfl (.tmp 76) (.tmp 78) rfl (w.heap.size + 1) _ _ rfl (HO2.out.alloc _) ⟨_, 0, none⟩ 1 1 [a] rfl rfl ?_ ?_ ?_ ?_ ?_; exact cells_new _ _ _ rfl; omega; (unfold maxLen; omega); (have := HT2.out.lt; simp <;> omega); intro v' wz h1 h2; have HOz := Lib.hid h1; have HBz := Lib.hid (((Below.refl (w.heap.size + 1) _).alloc (by have := HT2.out.lt; omega) _).trans h2); clear h1 h2; have HRz := Lib.hid (HR2.out.below HBz.out hbB); have HTz := Lib.hid (HT2.out.below HBz.out (Nat.lt_succ_self _)); have HGz := Lib.hid (grownBy.below1 HG2.out HBz.out); clear HR2 HO2 HT2 HG2 c0 c1 f1; obtain ⟨c0, c1⟩ := HRz.out.facts; have f1 := HRz.out.frozen 1)
          go_roundw
          case rel =>
            refine ⟨p + 1, xs ++ [a], by omega, by omega, by simp; omega, Lib.hid (HBY.out.append (by intro x hx; simp at hx; omega)), HQ2, Lib.hid HRz.out.setNext, Lib.hid (Own.other HOz.out (grownBy.setCell' (grownBy.refl' _ _) _ _) hbB), Lib.hid (HTz.out.grown (grownBy.setCell' (grownBy.refl' _ _) _ _) hw0), Lib.hid (grownBy.setCell' HGz.out _ _)⟩
          case measure =>
            have h1 := HRz.out.setNext.lxm s.size
            rw [HME.out]
            exact Nat.lt_of_le_of_lt (Nat.le_of_eq h1) (by omega)
    · have hlt2 : ¬ (p : Int) < (s.size : Int) := by omega
      have HN := Lib.hid (quo_end HQ.out (by omega))
      go_wp2_with fail
      go_quiet (fail)
      have HR1 := Lib.hid (HR.out.drewN nq); have HO1 := Lib.hid (HO.out.drewN nq); have HT1 := Lib.hid (HT.out.drewN nq); have HG1 := Lib.hid (grownBy.drewN' HG.out nq)
      generalize wr.drewN nq = w1 at HR1 HO1 HT1 HG1 ⊢
      clear c0 c1 f1 HR HO HT HG
      obtain ⟨c0, c1⟩ := HR1.out.facts
      have f1 := HR1.out.frozen 1
      obtain ⟨x0, x1, x2, x3, x4, x5, x6, x7, x8⟩ := HT1.out.cells
      obtain ⟨g0, g1, g2, g3, g4, g5, g6, g7, g8⟩ := HT1.out.melts
      go_wp2_with fail
      exact bodyPost_ret (out_tok (HT1.out.put9 Tk.zero) _ _ false 2 3 res_quoted rfl rfl) rfl ⟨grownBy.set9 HG1.out (Nat.le_refl _) _ _ _ _ _ _ _ _ _, .inr ⟨HN.out, Tk.zero, rfl⟩⟩
end Go.Proofs.YtdfpalocnijefaaGreatDoor

/-
  Layer 4, the program: the next token.
-/
namespace Go.Proofs.YtdfpalocnijefaaGreatDoor
open Go.RowKit

/-- What the program's variables hold. -/
structure Vars (w : World) : Prop where
  err : ErrV w
  sig : SigV w
theorem Vars.grown {w w' : World} {b : Nat} (h : Vars w) (hg : w.grownBy w' (some b)) (hb : 4 < b) : Vars w' := ⟨h.err.grown hg hb, h.sig.grown hg hb⟩
theorem Vars.below {w w' : World} (h : Vars w) (hb : Below w.heap.size w w') : Vars w' := ⟨h.err.below hb, h.sig.below hb⟩
theorem m_num : ∀ args (v : World), (callFunc 111 args).run Tryz.prog v = .ok (.enter 111 args) v := Go.Proofs.enters_of Tryz.func111 (by kernel_rfl) rfl
theorem m_quo : ∀ args (v : World), (callFunc 112 args).run Tryz.prog v = .ok (.enter 112 args) v := Go.Proofs.enters_of Tryz.func112 (by kernel_rfl) rfl
theorem m_dead : ∀ args (v : World), (callFunc 113 args).run Tryz.prog v = .ok (.enter 113 args) v := Go.Proofs.enters_of Tryz.func113 (by kernel_rfl) rfl
theorem m_word : ∀ args (v : World), (callFunc 115 args).run Tryz.prog v = .ok (.enter 115 args) v := Go.Proofs.enters_of Tryz.func115 (by kernel_rfl) rfl
theorem m_sign : ∀ args (v : World), (callFunc 116 args).run Tryz.prog v = .ok (.enter 116 args) v := Go.Proofs.enters_of Tryz.func116 (by kernel_rfl) rfl

/-- The method that a byte calls reads the token that stands there. -/
theorem method_any (b : Nat) (s : ByteArray) (k : Nat) (_hs : s.size ≤ 1000000) (_hk : k < s.size) (hb2 : 4 < b) (a : Int) (ha : ((s[k].toNat : Nat) : Int) = a) :
    (∀ args (v : World), (callFunc (methN a) args).run Tryz.prog v = .ok (.enter (methN a) args) v) ∧
    (∀ w, LxAt w b s k → Vars w → Calls Tryz.prog (methN a) #[.pointer (some ⟨b, 0, none⟩)] w (TokOut (tokT (restL s k)) b s k w)) := by
  have hc := restL_cons s k _hk
  rw [ha] at hc
  have ht := tokT_cons a (restL s (k + 1))
  rw [← hc] at ht
  rw [ht]
  cases hn : isNum a
  · rw [if_neg (by simp)]
    by_cases h34 : a = 34
    · rw [methN_quo hn h34, if_pos h34]
      exact ⟨m_quo, fun w h _ => quoted_any b s k w h _hs _hk⟩
    · rw [if_neg h34]
      by_cases h35 : a = 35
      · rw [methN_dead hn h34 h35, if_pos h35]
        exact ⟨m_dead, fun w h _ => dead_any b s k w h _hs _hk⟩
      · rw [if_neg h35]
        cases hb : isBeg a
        · rw [methN_sign hn h34 h35 hb, if_neg (by unfold isBeg at hb; simpa using hb)]
          exact ⟨m_sign, fun w h hv => sign_any b s k w h _hs _hk hv.sig hb2⟩
        · rw [methN_word hn h34 h35 hb, if_pos (by unfold isBeg at hb; simpa using hb)]
          exact ⟨m_word, fun w h _ => word_any b s k w h _hs _hk (by rw [ha]; exact hb)⟩
  · rw [methN_num hn, if_pos rfl]
    exact ⟨m_num, fun w h hv => number_any b s k w h _hs _hk (by rw [ha]; exact hn) hv.err hb2⟩

theorem TokOut.lit {o : Option (Tk × Nat)} {b : Nat} {s : ByteArray} {k : Nat} {w w' : World} {e : Ending} (h : TokOut o b s k w e w') :
    w.grownBy w' (some b) ∧ ((∃ t n, o = some (t, n) ∧ e = .returned (.tuple #[.agg #[.int .i64 t.kind, .string t.text, .int .i64 t.num, .string t.sh, .int .i64 t.c, .int .i64 t.r, .bool t.ac, .bool t.ar, .int .i64 t.pos], .bool true]) ∧ LxAt w' b s (k + n)) ∨ (o = none ∧ ∃ t : Tk, e = .returned (.tuple #[.agg #[.int .i64 t.kind, .string t.text, .int .i64 t.num, .string t.sh, .int .i64 t.c, .int .i64 t.r, .bool t.ac, .bool t.ar, .int .i64 t.pos], .bool false]))) := h
theorem res_token : Tryz.f40.results = #[.cell 2 54, .tmp 3] := by kernel_rfl

set_option maxRecDepth 100000 in
set_option maxHeartbeats 1600000 in
theorem token_any (b : Nat) (s : ByteArray) (k : Nat) (w : World) (h : LxAt w b s k) (_hs : s.size ≤ 1000000) (_hk : k < s.size) (hb2 : 4 < b) (hv : Vars w) :
    Calls Tryz.prog 40 #[.pointer (some ⟨b, 0, none⟩)] w (TokOut ((tokT (restL s k)).map fun q => (q.1.goto k, q.2)) b s k w) := by
  have hlt := h.lt
  have hw0 : w.heap.size ≠ b := by omega
  obtain ⟨a, ha⟩ : ∃ a : Int, (s[k].toNat : Int) = a := ⟨_, rfl⟩
  have ha1 : 0 ≤ a ∧ a ≤ 255 := by have := s[k].toNat_lt; omega
  obtain ⟨hen, hmeth⟩ := method_any b s k _hs _hk hb2 a ha
  have hmo := fun w => methodOf_any a ha1.1 ha1.2 w
  obtain ⟨F, hF⟩ : ∃ F, methN a = F := ⟨_, rfl⟩
  rw [hF] at hen hmeth
  simp only [hF] at hmo
  have HMO := Lib.hid hmo; clear hmo hF
  have HM := Lib.hid (hmeth _ h.tok (hv.grown (new_tok w b) hb2)); clear hmeth hv
  have HAL := Lib.hid (new_tok w b)
  have HTK := Lib.hid (TkAt.zero w)
  obtain ⟨c0, c1⟩ := h.tok.facts
  clear h
  have hk2 : (k : Int) < (s.size : Int) := by omega
  obtain ⟨o, ho⟩ : ∃ o, tokT (restL s k) = o := ⟨_, rfl⟩
  rw [ho] at HM ⊢
  clear ho
  go_enter Tryz.func40, Tryz.ntmps40
  go_wp2_with (go_at_call 72; ((with_reducible refine (HMO.out _).mono ?_); rintro e w1 ⟨rfl, rfl⟩))
  refine HM.out.mono ?_
  intro e w1 he
  obtain ⟨h1, ⟨t, n, rfl, rfl, h2⟩ | ⟨rfl, t, rfl⟩⟩ := he.lit
  · have H1 := Lib.hid h1; have H2 := Lib.hid h2; clear h1 h2 he
    have hB3 : Below w1.heap.size w1 (w1.alloc (.cells #[.int .i64 t.kind, .string t.text, .int .i64 t.num, .string t.sh, .int .i64 t.c, .int .i64 t.r, .bool t.ac, .bool t.ar, .int .i64 (k : Int)] 54)) := (Below.refl _ _).alloc (Nat.le_refl _) _
    have hT1 := HTK.out.grown H1.out hw0
    have HT3 := Lib.hid (hT1.below hB3 hT1.lt)
    have HN3 : TkAt (w1.alloc (.cells #[.int .i64 t.kind, .string t.text, .int .i64 t.num, .string t.sh, .int .i64 t.c, .int .i64 t.r, .bool t.ac, .bool t.ar, .int .i64 (k : Int)] 54)) w1.heap.size (t.goto k) := TkAt.new w1 (t.goto k)
    have HG3 := Lib.hid (grownBy.below' (grownBy.trans' HAL.out H1.out) hB3)
    have HL3 := Lib.hid (H2.out.below hB3 H2.out.lt)
    have hne2 : w.heap.size ≠ w1.heap.size := Nat.ne_of_lt hT1.lt
    clear hB3 hT1 HMO HM c0 c1
    go_upto_region 4 with (fail)
    generalize w1.alloc (.cells #[.int .i64 t.kind, .string t.text, .int .i64 t.num, .string t.sh, .int .i64 t.c, .int .i64 t.r, .bool t.ac, .bool t.ar, .int .i64 (k : Int)] 54) = w3 at HT3 HN3 HG3 HL3 ⊢
    obtain ⟨x0, x1, x2, x3, x4, x5, x6, x7, x8⟩ := HT3.out.cells
    obtain ⟨f0, f1, f2, f3, f4, f5, f6, f7, f8⟩ := HT3.out.melts
    obtain ⟨y0, y1, y2, y3, y4, y5, y6, y7, y8⟩ := HN3.cells
    clear HN3
    simp only [Tk.goto] at y0 y1 y2 y3 y4 y5 y6 y7 y8
    go_wp2_with fail
    exact bodyPost_ret (out_tok (HT3.out.put9 (t.goto k)) _ _ true 2 3 res_token rfl rfl) rfl ⟨grownBy.set9 HG3.out (Nat.le_refl _) _ _ _ _ _ _ _ _ _, .inl ⟨_, _, rfl, rfl, HL3.out.set9 hw0 _ _ _ _ _ _ _ _ _⟩⟩
  · have H1 := Lib.hid h1; clear h1 he
    have hB3 : Below w1.heap.size w1 (w1.alloc (.cells #[.int .i64 t.kind, .string t.text, .int .i64 t.num, .string t.sh, .int .i64 t.c, .int .i64 t.r, .bool t.ac, .bool t.ar, .int .i64 (k : Int)] 54)) := (Below.refl _ _).alloc (Nat.le_refl _) _
    have hT1 := HTK.out.grown H1.out hw0
    have HT3 := Lib.hid (hT1.below hB3 hT1.lt)
    have HN3 : TkAt (w1.alloc (.cells #[.int .i64 t.kind, .string t.text, .int .i64 t.num, .string t.sh, .int .i64 t.c, .int .i64 t.r, .bool t.ac, .bool t.ar, .int .i64 (k : Int)] 54)) w1.heap.size (t.goto k) := TkAt.new w1 (t.goto k)
    have HG3 := Lib.hid (grownBy.below' (grownBy.trans' HAL.out H1.out) hB3)
    have hne2 : w.heap.size ≠ w1.heap.size := Nat.ne_of_lt hT1.lt
    clear hB3 hT1 HMO HM c0 c1
    go_upto_region 4 with (fail)
    generalize w1.alloc (.cells #[.int .i64 t.kind, .string t.text, .int .i64 t.num, .string t.sh, .int .i64 t.c, .int .i64 t.r, .bool t.ac, .bool t.ar, .int .i64 (k : Int)] 54) = w3 at HT3 HN3 HG3 ⊢
    obtain ⟨x0, x1, x2, x3, x4, x5, x6, x7, x8⟩ := HT3.out.cells
    obtain ⟨f0, f1, f2, f3, f4, f5, f6, f7, f8⟩ := HT3.out.melts
    obtain ⟨y0, y1, y2, y3, y4, y5, y6, y7, y8⟩ := HN3.cells
    clear HN3
    simp only [Tk.goto] at y0 y1 y2 y3 y4 y5 y6 y7 y8
    go_wp2_with fail
    exact bodyPost_ret (out_tok (HT3.out.put9 (t.goto k)) _ _ false 2 3 res_token rfl rfl) rfl ⟨grownBy.set9 HG3.out (Nat.le_refl _) _ _ _ _ _ _ _ _ _, .inr ⟨rfl, t.goto k, rfl⟩⟩
end Go.Proofs.YtdfpalocnijefaaGreatDoor
