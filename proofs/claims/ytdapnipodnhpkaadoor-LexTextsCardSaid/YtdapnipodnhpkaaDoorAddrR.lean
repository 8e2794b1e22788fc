/-
  Layer 3, the program: a column's letters; the reader's small methods.
-/
import Derived.Test.YtdapnipodnhpkaaDoorAddrQ
namespace Go.Proofs.YtdapnipodnhpkaaDoor
open Go.RowKit

theorem enc_one : ∀ m : Nat, m < 26 → Utf8.encode (65 + (m : Int)) = strOfNums [65 + (m : Int)] := by decide +kernel
theorem enc_cap (x : Int) (h0 : 65 ≤ x) (h1 : x ≤ 90) : Utf8.encode x = strOfNums [x] := by
  have := enc_one (x - 65).toNat (by omega)
  rw [show (65 : Int) + ((x - 65).toNat : Int) = x from by omega] at this; exact this
theorem str_app (a b : List Int) (A B : ByteArray) (h : A = strOfNums a) (k : B = strOfNums b) : A ++ B = strOfNums (a ++ b) := by rw [h, k, str_append]

/-- A block that holds a reader. -/
def RdAt (w : World) (b : Nat) (d : Rd) : Prop := w.heap[b]? = some (.cells d.cells 71)
theorem RdAt.lt {w : World} {b : Nat} {d : Rd} (h : RdAt w b d) : b < w.heap.size := (Array.getElem?_eq_some_iff.1 h).1
theorem RdAt.drewN {w : World} {b : Nat} {d : Rd} (h : RdAt w b d) (n : Nat) : RdAt (w.drewN n) b d := h
theorem RdAt.below {w w' : World} {B b : Nat} {d : Rd} (h : RdAt w b d) (hb : Below B w w') (hB : b < B) : RdAt w' b d := by unfold RdAt; rw [hb.block b hB]; exact h
theorem RdAt.facts {w : World} {b : Nat} {d : Rd} (h : RdAt w b d) :
    w.cell? ⟨b, 0, none⟩ = some (.string d.s) ∧ w.cell? ⟨b, 1, none⟩ = some (.int .i64 d.k) ∧ w.cell? ⟨b, 2, none⟩ = some (.string d.sh) ∧ w.cell? ⟨b, 3, none⟩ = some (.int .i64 d.c) ∧ w.cell? ⟨b, 4, none⟩ = some (.int .i64 d.r) ∧ w.cell? ⟨b, 5, none⟩ = some (.bool d.ac) ∧ w.cell? ⟨b, 6, none⟩ = some (.bool d.ar) :=
  ⟨by rw [cell_of_row w b 0 _ _ _ h]; rfl, by rw [cell_of_row w b 1 _ _ _ h]; rfl, by rw [cell_of_row w b 2 _ _ _ h]; rfl, by rw [cell_of_row w b 3 _ _ _ h]; rfl, by rw [cell_of_row w b 4 _ _ _ h]; rfl, by rw [cell_of_row w b 5 _ _ _ h]; rfl, by rw [cell_of_row w b 6 _ _ _ h]; rfl⟩
theorem RdAt.frozen {w : World} {b : Nat} {d : Rd} (h : RdAt w b d) (j : Nat) : w.frozen? ⟨b, j, none⟩ = false := frozen_of_row w b j _ _ h
theorem RdAt.setK {w : World} {b : Nat} {d : Rd} (h : RdAt w b d) (k : Nat) : RdAt (w.setCell ⟨b, 1, none⟩ (.int .i64 (k : Int))) b { d with k := k } := by unfold RdAt; rw [heap_setCell_same w b 1 _ _ _ h]; rfl
theorem RdAt.setSh {w : World} {b : Nat} {d : Rd} (h : RdAt w b d) (s : ByteArray) : RdAt (w.setCell ⟨b, 2, none⟩ (.string s)) b { d with sh := s } := by unfold RdAt; rw [heap_setCell_same w b 2 _ _ _ h]; rfl
theorem RdAt.setC {w : World} {b : Nat} {d : Rd} (h : RdAt w b d) (c : Int) : RdAt (w.setCell ⟨b, 3, none⟩ (.int .i64 c)) b { d with c := c } := by unfold RdAt; rw [heap_setCell_same w b 3 _ _ _ h]; rfl
theorem RdAt.setR {w : World} {b : Nat} {d : Rd} (h : RdAt w b d) (c : Int) : RdAt (w.setCell ⟨b, 4, none⟩ (.int .i64 c)) b { d with r := c } := by unfold RdAt; rw [heap_setCell_same w b 4 _ _ _ h]; rfl
theorem RdAt.setAc {w : World} {b : Nat} {d : Rd} (h : RdAt w b d) (x : Bool) : RdAt (w.setCell ⟨b, 5, none⟩ (.bool x)) b { d with ac := x } := by unfold RdAt; rw [heap_setCell_same w b 5 _ _ _ h]; rfl
theorem RdAt.setAr {w : World} {b : Nat} {d : Rd} (h : RdAt w b d) (x : Bool) : RdAt (w.setCell ⟨b, 6, none⟩ (.bool x)) b { d with ar := x } := by unfold RdAt; rw [heap_setCell_same w b 6 _ _ _ h]; rfl

/-- What a part leaves: the reader behind it, or a false. -/
def Part (o : Option Rd) (b : Nat) (w : World) (e : Ending) (w' : World) : Prop :=
  w.grownBy w' (some b) ∧ ((∃ d', o = some d' ∧ e = .returned (.bool true) ∧ RdAt w' b d') ∨ (o = none ∧ e = .returned (.bool false)))

set_option maxHeartbeats 400000 in
theorem fin_any (b : Nat) (d : Rd) (w : World) (h : RdAt w b d) (_hs : d.s.size ≤ 1000000) (_hk : d.k ≤ d.s.size) :
    Calls Tryd.prog 54 #[.pointer (some ⟨b, 0, none⟩)] w (Part d.fin b w) := by
  obtain ⟨c0, c1, c2, c3, c4, c5, c6⟩ := h.facts
  clear c2 c3 c4 c5 c6
  have HR := Lib.hid h; clear h
  by_cases hk : d.k = d.s.size
  · have hf : d.fin = some d := by unfold Rd.fin; rw [if_pos hk]
    have HF := Lib.hid hf; clear hf
    have hi : ((d.k : Int) == (d.s.size : Int)) = true := beq_iff_eq.2 (by omega)
    go_enter Tryd.func54, Tryd.ntmps54
    go_wp2_with fail
    go_quiet (fail)
    go_wp2_with fail
    go_ret
    exact ⟨grownBy.drewN' (grownBy.refl' _ _) _, .inl ⟨d, HF.out, by simp, HR.out.drewN _⟩⟩
  · have hf : d.fin = none := by unfold Rd.fin; rw [if_neg hk]
    have HF := Lib.hid hf; clear hf
    have hi : ((d.k : Int) == (d.s.size : Int)) = false := beq_eq_false_iff_ne.2 (by omega)
    go_enter Tryd.func54, Tryd.ntmps54
    go_wp2_with fail
    go_quiet (fail)
    go_wp2_with fail
    go_ret
    exact ⟨grownBy.drewN' (grownBy.refl' _ _) _, .inr ⟨HF.out, by simp⟩⟩

theorem rest_get (d : Rd) (h : d.k < d.s.size) : d.rest.head? = some ((d.s[d.k].toNat : Nat) : Int) := by
  unfold Rd.rest; rw [List.head?_drop, sb_at d.s d.k h]
theorem rest_end (d : Rd) (h : d.s.size ≤ d.k) : d.rest = [] := by
  unfold Rd.rest; rw [List.drop_eq_nil_iff, length_sb]; exact h

set_option maxRecDepth 100000 in
set_option maxHeartbeats 400000 in
theorem mark_any (b : Nat) (d : Rd) (w : World) (h : RdAt w b d) (_hs : d.s.size ≤ 1000000) (_hk : d.k ≤ d.s.size) :
    Calls Tryd.prog 63 #[.pointer (some ⟨b, 0, none⟩)] w fun e w' => e = .returned (.bool d.mark) ∧ RdAt w' b { d with k := d.k + (dol d.mark).length } ∧ w.grownBy w' (some b) := by
  obtain ⟨c0, c1, c2, c3, c4, c5, c6⟩ := h.facts
  clear c2 c3 c4 c5 c6
  have f1 := h.frozen 1
  have HR := Lib.hid h; clear h
  by_cases hk : d.k = d.s.size
  · have hf : d.mark = false := by unfold Rd.mark; rw [rest_end d (by omega)]; rfl
    have HF := Lib.hid hf; clear hf
    have hi : ((d.k : Int) == (d.s.size : Int)) = true := beq_iff_eq.2 (by omega)
    go_enter Tryd.func63, Tryd.ntmps63
    go_wp2_with fail
    go_quiet (fail)
    go_wp2_with fail
    go_ret
    rw [HF.out]
    exact ⟨rfl, HR.out.drewN _, grownBy.drewN' (grownBy.refl' _ _) _⟩
  · have hi : ((d.k : Int) == (d.s.size : Int)) = false := beq_eq_false_iff_ne.2 (by omega)
    have hlt : d.k < d.s.size := by omega
    have hki : (d.k : Int) < (d.s.size : Int) := by omega
    obtain ⟨a, ha⟩ : ∃ a : Int, (d.s[d.k].toNat : Int) = a := ⟨_, rfl⟩
    have ha1 : 0 ≤ a ∧ a ≤ 255 := by have := d.s[d.k].toNat_lt; omega
    have hh := rest_get d hlt
    rw [ha] at hh
    by_cases h36 : a = 36
    · have hf : d.mark = true := by unfold Rd.mark; rw [hh, h36]; rfl
      have HF := Lib.hid hf; clear hf hh
      have hj : (a == 36) = true := beq_iff_eq.2 h36
      have hj2 : (a != 36) = false := by rw [bne, hj]; rfl
      clear h36
      go_enter Tryd.func63, Tryd.ntmps63
      go_wp2_with fail
      go_quiet (fail)
      go_wp2_with fail
      go_ret
      rw [HF.out]
      exact ⟨rfl, (HR.out.drewN _).setK (d.k + 1), grownBy.setCell' (grownBy.drewN' (grownBy.refl' _ _) _) _ _⟩
    · have hf : d.mark = false := by unfold Rd.mark; rw [hh, decide_eq_false_iff_not]; intro h; injection h with h; exact h36 h
      have HF := Lib.hid hf; clear hf hh
      have hj : (a == 36) = false := beq_eq_false_iff_ne.2 h36
      have hj2 : (a != 36) = true := by rw [bne, hj]; rfl
      clear h36
      go_enter Tryd.func63, Tryd.ntmps63
      go_wp2_with fail
      go_quiet (fail)
      go_wp2_with fail
      go_ret
      rw [HF.out]
      exact ⟨rfl, HR.out.drewN _, grownBy.drewN' (grownBy.refl' _ _) _⟩

set_option maxHeartbeats 400000 in
theorem absCol_any (b : Nat) (d : Rd) (w : World) (h : RdAt w b d) (_hs : d.s.size ≤ 1000000) (_hk : d.k ≤ d.s.size) :
    Calls Tryd.prog 50 #[.pointer (some ⟨b, 0, none⟩)] w (Part d.absCol b w) := by
  have HR := Lib.hid h; clear h
  go_enter Tryd.func50, Tryd.ntmps50
  go_wp2_with (go_at_call 63; ((with_reducible refine (mark_any b d _ HR.out ?_ ?_).mono ?_); (first | omega | skip); (first | omega | skip); rintro e w1 ⟨rfl, h1, h2⟩; obtain ⟨c0, c1, c2, c3, c4, c5, c6⟩ := h1.facts; have f5 := h1.frozen 5; have H1 := Lib.hid h1; clear h1; have H2 := Lib.hid h2; clear h2))
  go_ret
  exact ⟨grownBy.setCell' H2.out _ _, .inl ⟨_, rfl, rfl, H1.out.setAc _⟩⟩
set_option maxHeartbeats 400000 in
theorem absRow_any (b : Nat) (d : Rd) (w : World) (h : RdAt w b d) (_hs : d.s.size ≤ 1000000) (_hk : d.k ≤ d.s.size) :
    Calls Tryd.prog 52 #[.pointer (some ⟨b, 0, none⟩)] w (Part d.absRow b w) := by
  have HR := Lib.hid h; clear h
  go_enter Tryd.func52, Tryd.ntmps52
  go_wp2_with (go_at_call 63; ((with_reducible refine (mark_any b d _ HR.out ?_ ?_).mono ?_); (first | omega | skip); (first | omega | skip); rintro e w1 ⟨rfl, h1, h2⟩; obtain ⟨c0, c1, c2, c3, c4, c5, c6⟩ := h1.facts; have f6 := h1.frozen 6; have H1 := Lib.hid h1; clear h1; have H2 := Lib.hid h2; clear h2))
  go_ret
  exact ⟨grownBy.setCell' H2.out _ _, .inl ⟨_, rfl, rfl, H1.out.setAr _⟩⟩
end Go.Proofs.YtdapnipodnhpkaaDoor
