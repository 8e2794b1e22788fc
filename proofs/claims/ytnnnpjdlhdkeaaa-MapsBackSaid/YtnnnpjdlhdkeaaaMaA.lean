/-
  Layer 11, what maps hold in memory.
-/
import Derived.Test.YtnnnpjdlhdkeaaaMaV
import Derived.Test.YtnnnpjdlhdkeaaaBkH
import Derived.Test.YtnnnpjdlhdkeaaaStr
import Derived.Test.YtnnnpjdlhdkeaaaOwnAt
import Derived.Test.YtnnnpjdlhdkeaaaHeld
import Derived.Test.YtnnnpjdlhdkeaaaPost
import Derived.Deep.OwnRows
namespace Go.Proofs.Ytnnnpjdlhdkeaaa
open Go.RowKit

theorem Elem.pl : Elem Try.prog 22 3 1 8 := ⟨Try.underlying22, ⟨.int .i64 0, by kernel_rfl, rfl⟩, by decide⟩
/-- Numbers that read as these. -/
abbrev IR (w : World) (B : Nat) (A : Option Addr) (n cap : Nat) (xs : List Int) : Prop := SE (encInt .i64) w B (.slice A n cap) xs
theorem ir_at {w : World} {B : Nat} {A : Option Addr} {n cap : Nat} {xs : List Int} (h : IR w B A n cap xs) {i : Nat} (hi : i < n) :
    ∃ pb po, A = some ⟨pb, po, none⟩ ∧ pb < B ∧ w.cell? ⟨pb, po + i, none⟩ = some (.int .i64 (xs.getD i 0)) := by
  have hl := h.len.1
  obtain ⟨pb, po, h1, h2, h3⟩ := h.at (getD_some xs i (by omega))
  exact ⟨pb, po, h1, h2, by have := h3 0 _ rfl; rwa [Nat.mul_one, Nat.add_zero] at this⟩
/-- A block that holds a map, or what a map became. -/
def PrAt (t : TypeId) (w : World) (b : Nat) (v : Value) (nw : Int) : Prop := w.heap[b]? = some (.cells #[v, .int .i64 nw] t)
theorem PrAt.new (t : TypeId) (w : World) (v : Value) (nw : Int) : PrAt t (w.alloc (.cells #[v, .int .i64 nw] t)) w.heap.size v nw := (Go.MapKept.heap_alloc w _).1
theorem PrAt.lt {t : TypeId} {w : World} {b : Nat} {v : Value} {nw : Int} (h : PrAt t w b v nw) : b < w.heap.size := (Array.getElem?_eq_some_iff.1 h).1
theorem PrAt.keep {t : TypeId} {w w' : World} {b : Nat} {v : Value} {nw : Int} (h : PrAt t w b v nw) (hk : w'.heap[b]? = w.heap[b]?) : PrAt t w' b v nw := by unfold PrAt; rw [hk]; exact h
theorem PrAt.below {t : TypeId} {w w' : World} {b B : Nat} {v : Value} {nw : Int} (h : PrAt t w b v nw) (hb : Below B w w') (hB : b < B) : PrAt t w' b v nw := h.keep (hb.block b hB)
theorem PrAt.over {t : TypeId} {w w' : World} {b : Nat} {v : Value} {nw : Int} (h : PrAt t w b v nw) (hb : Below w.heap.size w w') : PrAt t w' b v nw := h.below hb h.lt
theorem PrAt.cells {t : TypeId} {w : World} {b : Nat} {v : Value} {nw : Int} (h : PrAt t w b v nw) : w.cell? ⟨b, 0, none⟩ = some v ∧ w.cell? ⟨b, 1, none⟩ = some (.int .i64 nw) :=
  ⟨by rw [cell_of_row w b 0 _ _ _ h]; rfl, by rw [cell_of_row w b 1 _ _ _ h]; rfl⟩
theorem PrAt.melts {t : TypeId} {w : World} {b : Nat} {v : Value} {nw : Int} (h : PrAt t w b v nw) : w.frozen? ⟨b, 0, none⟩ = false ∧ w.frozen? ⟨b, 1, none⟩ = false :=
  ⟨frozen_of_row w b 0 _ _ h, frozen_of_row w b 1 _ _ h⟩
theorem PrAt.put0 {t : TypeId} {w : World} {b : Nat} {v : Value} {nw : Int} (h : PrAt t w b v nw) (u : Value) : PrAt t (w.setCell ⟨b, 0, none⟩ u) b u nw := by
  unfold PrAt; rw [heap_setCell_same w b 0 _ _ _ h]; rfl
theorem PrAt.put1 {t : TypeId} {w : World} {b : Nat} {v : Value} {nw : Int} (h : PrAt t w b v nw) (m : Int) : PrAt t (w.setCell ⟨b, 1, none⟩ (.int .i64 m)) b v m := by
  unfold PrAt; rw [heap_setCell_same w b 1 _ _ _ h]; rfl
theorem PrAt.other {t : TypeId} {w : World} {b : Nat} {v : Value} {nw : Int} (h : PrAt t w b v nw) (a : Addr) (u : Value) (hne : b ≠ a.block) : PrAt t (w.setCell a u) b v nw := by
  unfold PrAt; rw [heap_setCell_other w a b u hne]; exact h
theorem below_pr (t : TypeId) (w : World) (v : Value) (nw : Int) : Below w.heap.size w (w.alloc (.cells #[v, .int .i64 nw] t)) := (Below.refl _ _).alloc (Nat.le_refl _) _
theorem run_mki (n : Nat) (hn : n ≤ 2000000) (w : World) : (Instr.makeSlice 22 (.int .i64 (n : Int)) (.int .i64 (n : Int))).run Try.prog w = .ok (.slice (some ⟨w.heap.size, 0, none⟩) n n) (w.alloc (.cells (madeCells #[.int .i64 0] n) 3)) := by
  exact run_make_row' 22 3 (.int .i64 0) 8 Try.underlying22 (by kernel_rfl) rfl .i64 .i64 n (by omega) (by omega) w
end Go.Proofs.Ytnnnpjdlhdkeaaa
