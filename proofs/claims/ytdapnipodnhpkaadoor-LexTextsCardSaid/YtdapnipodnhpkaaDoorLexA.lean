/-
  Layer 4, the program: bytes; a reader's block; a token's block.
-/
import Derived.Test.YtdapnipodnhpkaaDoorLexV
import Derived.Test.YtdapnipodnhpkaaDoorAddrS
namespace Go.Proofs.YtdapnipodnhpkaaDoor
open Go.RowKit

def isBl (c : Int) : Bool := decide (c = 32)
/-- What begins a word. -/
def isBeg (c : Int) : Bool := isLet c || decide (c = 36)

set_option maxHeartbeats 400000 in
theorem lexBlank_any (c : Int) (_h0 : 0 ≤ c) (_h1 : c ≤ 255) (w : World) :
    Calls Tryd.prog 19 #[.int .u8 c] w fun e w' => e = .returned (.bool (isBl c)) ∧ w = w' := by
  go_enter Tryd.func19, Tryd.ntmps19
  go_wp2
  all_goals go_ret
  all_goals exact ⟨ret_bool (by unfold isBl; first | rfl | (symm; rw [decide_eq_true_iff]; omega) | (symm; rw [decide_eq_false_iff_not]; omega) | (rw [decide_eq_decide]; omega)), rfl⟩

set_option maxHeartbeats 400000 in
theorem lexDigit_any (c : Int) (_h0 : 0 ≤ c) (_h1 : c ≤ 255) (w : World) :
    Calls Tryd.prog 28 #[.int .u8 c] w fun e w' => e = .returned (.bool (isNum c)) ∧ w = w' := by
  go_enter Tryd.func28, Tryd.ntmps28
  go_wp2
  all_goals go_ret
  all_goals exact ⟨ret_bool (by unfold isNum; first | rfl | (symm; rw [decide_eq_true_iff]; omega) | (symm; rw [decide_eq_false_iff_not]; omega) | (rw [decide_eq_decide]; omega)), rfl⟩

set_option maxHeartbeats 400000 in
theorem lexCapital_any (c : Int) (_h0 : 0 ≤ c) (_h1 : c ≤ 255) (w : World) :
    Calls Tryd.prog 39 #[.int .u8 c] w fun e w' => e = .returned (.bool (isCap c)) ∧ w = w' := by
  go_enter Tryd.func39, Tryd.ntmps39
  go_wp2
  all_goals go_ret
  all_goals exact ⟨ret_bool (by unfold isCap; first | rfl | (symm; rw [decide_eq_true_iff]; omega) | (symm; rw [decide_eq_false_iff_not]; omega) | (rw [decide_eq_decide]; omega)), rfl⟩

theorem isBeg_cap {c : Int} (h : isCap c = true) : isBeg c = true := by unfold isBeg; rw [isLet_cap h]; rfl
theorem isBeg_nocap {c : Int} (h : isCap c = false) : isBeg c = decide (97 ≤ c ∧ c ≤ 122 ∨ c = 36) := by unfold isBeg; rw [isLet_nocap h]; simp
theorem isWord_beg {c : Int} : isWord c = (isBeg c || (isNum c || decide (c = 33))) := by
  unfold isWord isBeg; rw [show decide (c = 36 ∨ c = 33) = (decide (c = 36) || decide (c = 33)) from by simp]
  cases isLet c <;> cases isNum c <;> cases decide (c = 36) <;> simp

set_option maxHeartbeats 400000 in
theorem beginsWord_any (c : Int) (_h0 : 0 ≤ c) (_h1 : c ≤ 255) (w : World) :
    Calls Tryd.prog 32 #[.int .u8 c] w fun e w' => e = .returned (.bool (isBeg c)) ∧ w = w' := by
  by_cases hc : isCap c = true
  · have HL := Lib.hid (isBeg_cap hc)
    go_enter Tryd.func32, Tryd.ntmps32
    go_wp2_with (go_at_call 39; ((with_reducible refine (lexCapital_any _ ?_ ?_ _).mono ?_); (first | omega | skip); (first | omega | skip); rintro e w' ⟨rfl, rfl⟩))
    all_goals go_ret
    all_goals exact ⟨ret_bool (by rw [HL.out]), rfl⟩
  · have hc' : isCap c = false := by simpa using hc
    have HL := Lib.hid (isBeg_nocap hc'); clear hc
    go_enter Tryd.func32, Tryd.ntmps32
    go_wp2_with (go_at_call 39; ((with_reducible refine (lexCapital_any _ ?_ ?_ _).mono ?_); (first | omega | skip); (first | omega | skip); rintro e w' ⟨rfl, rfl⟩))
    all_goals go_ret
    all_goals exact ⟨ret_bool (by rw [HL.out]; first | rfl | (symm; rw [decide_eq_true_iff]; omega) | (symm; rw [decide_eq_false_iff_not]; omega) | (rw [Bool.eq_iff_iff]; simp only [Bool.or_eq_true, decide_eq_true_iff, beq_iff_eq]; omega)), rfl⟩

set_option maxHeartbeats 400000 in
theorem isOfWord_any (c : Int) (_h0 : 0 ≤ c) (_h1 : c ≤ 255) (w : World) :
    Calls Tryd.prog 40 #[.int .u8 c] w fun e w' => e = .returned (.bool (isWord c)) ∧ w = w' := by
  have HW := Lib.hid (isWord_beg (c := c))
  cases hb : isBeg c
  · cases hn : isNum c
    · rw [hb, hn] at HW
      go_enter Tryd.func40, Tryd.ntmps40
      go_wp2_with (first
        | (go_at_call 32; ((with_reducible refine (beginsWord_any _ ?_ ?_ _).mono ?_); (first | omega | skip); (first | omega | skip); rintro e w' ⟨rfl, rfl⟩; rw [hb]))
        | (go_at_call 28; ((with_reducible refine (lexDigit_any _ ?_ ?_ _).mono ?_); (first | omega | skip); (first | omega | skip); rintro e w' ⟨rfl, rfl⟩; rw [hn])))
      all_goals go_ret
      all_goals exact ⟨ret_bool (by rw [HW.out]; first | rfl | (rw [Bool.eq_iff_iff]; simp only [Bool.or_eq_true, Bool.and_eq_true, Bool.false_or, decide_eq_true_iff, beq_iff_eq])), rfl⟩
    · rw [hb, hn] at HW
      go_enter Tryd.func40, Tryd.ntmps40
      go_wp2_with (first
        | (go_at_call 32; ((with_reducible refine (beginsWord_any _ ?_ ?_ _).mono ?_); (first | omega | skip); (first | omega | skip); rintro e w' ⟨rfl, rfl⟩; rw [hb]))
        | (go_at_call 28; ((with_reducible refine (lexDigit_any _ ?_ ?_ _).mono ?_); (first | omega | skip); (first | omega | skip); rintro e w' ⟨rfl, rfl⟩; rw [hn])))
      all_goals go_ret
      all_goals exact ⟨ret_bool (by rw [HW.out]; rfl), rfl⟩
  · rw [hb] at HW
    go_enter Tryd.func40, Tryd.ntmps40
    go_wp2_with (first
      | (go_at_call 32; ((with_reducible refine (beginsWord_any _ ?_ ?_ _).mono ?_); (first | omega | skip); (first | omega | skip); rintro e w' ⟨rfl, rfl⟩; rw [hb])))
    all_goals go_ret
    all_goals exact ⟨ret_bool (by rw [HW.out]; rfl), rfl⟩

/-- A block that holds a reader of formulas. -/
def LxAt (w : World) (b : Nat) (s : ByteArray) (k : Nat) : Prop := w.heap[b]? = some (.cells #[.string s, .int .i64 (k : Int)] 47)
theorem LxAt.lt {w : World} {b : Nat} {s : ByteArray} {k : Nat} (h : LxAt w b s k) : b < w.heap.size := (Array.getElem?_eq_some_iff.1 h).1
theorem LxAt.drewN {w : World} {b : Nat} {s : ByteArray} {k : Nat} (h : LxAt w b s k) (n : Nat) : LxAt (w.drewN n) b s k := h
theorem LxAt.below {w w' : World} {B b : Nat} {s : ByteArray} {k : Nat} (h : LxAt w b s k) (hb : Below B w w') (hB : b < B) : LxAt w' b s k := by unfold LxAt; rw [hb.block b hB]; exact h
theorem LxAt.facts {w : World} {b : Nat} {s : ByteArray} {k : Nat} (h : LxAt w b s k) : w.cell? ⟨b, 0, none⟩ = some (.string s) ∧ w.cell? ⟨b, 1, none⟩ = some (.int .i64 (k : Int)) :=
  ⟨by rw [cell_of_row w b 0 _ _ _ h]; rfl, by rw [cell_of_row w b 1 _ _ _ h]; rfl⟩
theorem LxAt.frozen {w : World} {b : Nat} {s : ByteArray} {k : Nat} (h : LxAt w b s k) (j : Nat) : w.frozen? ⟨b, j, none⟩ = false := frozen_of_row w b j _ _ h
theorem LxAt.setK {w : World} {b : Nat} {s : ByteArray} {k : Nat} (h : LxAt w b s k) (m : Nat) : LxAt (w.setCell ⟨b, 1, none⟩ (.int .i64 (m : Int))) b s m := by unfold LxAt; rw [heap_setCell_same w b 1 _ _ _ h]; rfl
theorem LxAt.setNext {w : World} {b : Nat} {s : ByteArray} {k : Nat} (h : LxAt w b s k) : LxAt (w.setCell ⟨b, 1, none⟩ (.int .i64 ((k : Int) + 1))) b s (k + 1) := h.setK (k + 1)
theorem LxAt.new (w : World) (s : ByteArray) : LxAt (w.alloc (.cells #[.string s, .int .i64 0] 47)) w.heap.size s 0 := (Go.MapKept.heap_alloc w _).1

/-- A token as a value. -/
def tokA (t : Tk) : Array Value := #[.int .i64 t.kind, .string t.text, .int .i64 t.num, .string t.sh, .int .i64 t.c, .int .i64 t.r, .bool t.ac, .bool t.ar, .int .i64 t.pos]
def TkAt (w : World) (b : Nat) (t : Tk) : Prop := w.heap[b]? = some (.cells (tokA t) 34)
theorem TkAt.lt {w : World} {b : Nat} {t : Tk} (h : TkAt w b t) : b < w.heap.size := (Array.getElem?_eq_some_iff.1 h).1
theorem TkAt.below {w w' : World} {B b : Nat} {t : Tk} (h : TkAt w b t) (hb : Below B w w') (hB : b < B) : TkAt w' b t := by unfold TkAt; rw [hb.block b hB]; exact h
theorem TkAt.drewN {w : World} {b : Nat} {t : Tk} (h : TkAt w b t) (n : Nat) : TkAt (w.drewN n) b t := h
theorem TkAt.frozen {w : World} {b : Nat} {t : Tk} (h : TkAt w b t) (j : Nat) : w.frozen? ⟨b, j, none⟩ = false := frozen_of_row w b j _ _ h
theorem TkAt.grown {w w' : World} {b c : Nat} {t : Tk} (h : TkAt w b t) (hg : w.grownBy w' (some c)) (hne : b ≠ c) : TkAt w' b t := by
  unfold TkAt; rw [hg.block b h.lt (by intro e; exact hne (Option.some.inj e))]; exact h
theorem TkAt.new (w : World) (t : Tk) : TkAt (w.alloc (.cells (tokA t) 34)) w.heap.size t := (Go.MapKept.heap_alloc w _).1
theorem tok_size : (Tryd.prog.info? 34).map (·.size) = some 9 := by kernel_rfl
theorem tok_one (t : Tk) : ∀ v ∈ (tokA t).toList, v.oneCell' = true := by
  intro v hv
  simp only [tokA, List.mem_cons, List.not_mem_nil, or_false] at hv
  rcases hv with rfl | rfl | rfl | rfl | rfl | rfl | rfl | rfl | rfl <;> rfl
end Go.Proofs.YtdapnipodnhpkaaDoor
