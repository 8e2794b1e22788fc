/-
  Values in blocks.
-/
import Derived.Test.YtolhmemiknpeaaaGreatDoorVaU
import Derived.Test.YtolhmemiknpeaaaGreatDoorHeld
import Derived.Laws.ResultCell
namespace Go.Proofs.YtolhmemiknpeaaaGreatDoor
open Go.RowKit

/-- A block that holds a value. -/
def VlAt (w : World) (b : Nat) (v : Vl) : Prop := w.heap[b]? = some (.cells #[.int .i64 v.k, .int .i64 v.n, .string v.s] 28)
theorem VlAt.new (w : World) (v : Vl) : VlAt (w.alloc (.cells #[.int .i64 v.k, .int .i64 v.n, .string v.s] 28)) w.heap.size v := (Go.MapKept.heap_alloc w _).1
theorem VlAt.zero (w : World) : VlAt (w.alloc (.cells #[.int .i64 0, .int .i64 0, .string ⟨#[]⟩] 28)) w.heap.size Vl.none := VlAt.new w Vl.none
theorem vl_size : (Tryz.prog.info? 28).map (·.size) = some 3 := by kernel_rfl
theorem vl_one (v : Vl) : ∀ u ∈ (#[.int .i64 v.k, .int .i64 v.n, .string v.s] : Array Value).toList, u.oneCell' = true := by
  intro u hu
  simp only [List.mem_cons, List.not_mem_nil, or_false] at hu
  rcases hu with rfl | rfl | rfl <;> rfl
theorem out_vl {w : World} {b : Nat} {v : Vl} (h : VlAt w b v) (fn : Func) (tmps : Array Value) (s : Tmp) (hf : fn.results = #[.cell s 28]) (hp : tmps.getD s undef = .pointer (some ⟨b, 0, none⟩)) :
    (results fn tmps).run Tryz.prog w = .ok (.agg #[.int .i64 v.k, .int .i64 v.n, .string v.s]) w :=
  results_cell_row hf tmps w b _ _ _ _ hp h Tryz.underlying28 rfl vl_size
theorem VlAt.lt {w : World} {b : Nat} {v : Vl} (h : VlAt w b v) : b < w.heap.size := (Array.getElem?_eq_some_iff.1 h).1
theorem VlAt.below {w w' : World} {b B : Nat} {v : Vl} (h : VlAt w b v) (hb : Below B w w') (hB : b < B) : VlAt w' b v := by unfold VlAt; rw [hb.block b hB]; exact h
theorem VlAt.over {w w' : World} {b : Nat} {v : Vl} (h : VlAt w b v) (hb : Below w.heap.size w w') : VlAt w' b v := h.below hb h.lt
theorem VlAt.cells {w : World} {b : Nat} {v : Vl} (h : VlAt w b v) : w.cell? ⟨b, 0, none⟩ = some (.int .i64 v.k) ∧ w.cell? ⟨b, 1, none⟩ = some (.int .i64 v.n) ∧ w.cell? ⟨b, 2, none⟩ = some (.string v.s) :=
  ⟨by rw [cell_of_row w b 0 _ _ _ h]; rfl, by rw [cell_of_row w b 1 _ _ _ h]; rfl, by rw [cell_of_row w b 2 _ _ _ h]; rfl⟩
theorem VlAt.melts {w : World} {b : Nat} {v : Vl} (h : VlAt w b v) : w.frozen? ⟨b, 0, none⟩ = false ∧ w.frozen? ⟨b, 1, none⟩ = false ∧ w.frozen? ⟨b, 2, none⟩ = false := ⟨frozen_of_row w b 0 _ _ h, frozen_of_row w b 1 _ _ h, frozen_of_row w b 2 _ _ h⟩
theorem VlAt.put3 {w : World} {b : Nat} {v0 : Vl} (h : VlAt w b v0) (v : Vl) : VlAt (((w.setCell ⟨b, 0, none⟩ (.int .i64 v.k)).setCell ⟨b, 1, none⟩ (.int .i64 v.n)).setCell ⟨b, 2, none⟩ (.string v.s)) b v := by
  have h1 : (w.setCell ⟨b, 0, none⟩ (.int .i64 v.k)).heap[b]? = some (.cells #[.int .i64 v.k, .int .i64 v0.n, .string v0.s] 28) := by rw [heap_setCell_same w b 0 _ _ _ h]; rfl
  have h2 : ((w.setCell ⟨b, 0, none⟩ (.int .i64 v.k)).setCell ⟨b, 1, none⟩ (.int .i64 v.n)).heap[b]? = some (.cells #[.int .i64 v.k, .int .i64 v.n, .string v0.s] 28) := by rw [heap_setCell_same _ b 1 _ _ _ h1]; rfl
  unfold VlAt; rw [heap_setCell_same _ b 2 _ _ _ h2]; rfl
theorem belowV3 {w w1 : World} {B z : Nat} (h : Below B w w1) (hz : B ≤ z) (v : Vl) : Below B w (((w1.setCell ⟨z, 0, none⟩ (.int .i64 v.k)).setCell ⟨z, 1, none⟩ (.int .i64 v.n)).setCell ⟨z, 2, none⟩ (.string v.s)) :=
  ((h.setCell hz _).setCell hz _).setCell hz _
theorem below_vl (w : World) (v : Vl) : Below w.heap.size w (w.alloc (.cells #[.int .i64 v.k, .int .i64 v.n, .string v.s] 28)) := (Below.refl _ _).alloc (Nat.le_refl _) _
theorem below_z (w : World) : Below w.heap.size w (w.alloc (.cells #[.int .i64 0, .int .i64 0, .string ⟨#[]⟩] 28)) := (Below.refl _ _).alloc (Nat.le_refl _) _
theorem dec_beq (x y : Int) : decide (x = y) = (x == y) := by rw [Bool.beq_eq_decide_eq]
end Go.Proofs.YtolhmemiknpeaaaGreatDoor
