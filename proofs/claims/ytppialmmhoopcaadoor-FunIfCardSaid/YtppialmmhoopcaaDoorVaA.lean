/-
  Layer 7, the program: values in blocks; small functions.
-/
import Derived.Test.YtppialmmhoopcaaDoorVaU
import Derived.Test.YtppialmmhoopcaaDoorItoa
import Derived.Test.YtppialmmhoopcaaDoorHeld
import Derived.Laws.ResultCell
namespace Go.Proofs.YtppialmmhoopcaaDoor
open Go.RowKit

/-- A block that holds a value. -/
def VlAt (w : World) (b : Nat) (v : Vl) : Prop := w.heap[b]? = some (.cells #[.int .i64 v.k, .int .i64 v.n, .string v.s] 31)
theorem VlAt.new (w : World) (v : Vl) : VlAt (w.alloc (.cells #[.int .i64 v.k, .int .i64 v.n, .string v.s] 31)) w.heap.size v := (Go.MapKept.heap_alloc w _).1
theorem VlAt.zero (w : World) : VlAt (w.alloc (.cells #[.int .i64 0, .int .i64 0, .string ⟨#[]⟩] 31)) w.heap.size Vl.none := VlAt.new w Vl.none
theorem vl_size : (Tryd.prog.info? 31).map (·.size) = some 3 := by kernel_rfl
theorem vl_one (v : Vl) : ∀ u ∈ (#[.int .i64 v.k, .int .i64 v.n, .string v.s] : Array Value).toList, u.oneCell' = true := by
  intro u hu
  simp only [List.mem_cons, List.not_mem_nil, or_false] at hu
  rcases hu with rfl | rfl | rfl <;> rfl
theorem out_vl {w : World} {b : Nat} {v : Vl} (h : VlAt w b v) (fn : Func) (tmps : Array Value) (s : Tmp) (hf : fn.results = #[.cell s 31]) (hp : tmps.getD s undef = .pointer (some ⟨b, 0, none⟩)) :
    (results fn tmps).run Tryd.prog w = .ok (.agg #[.int .i64 v.k, .int .i64 v.n, .string v.s]) w :=
  results_cell_row hf tmps w b _ _ _ _ hp h Tryd.underlying31 rfl vl_size
theorem VlAt.lt {w : World} {b : Nat} {v : Vl} (h : VlAt w b v) : b < w.heap.size := (Array.getElem?_eq_some_iff.1 h).1
theorem VlAt.below {w w' : World} {b B : Nat} {v : Vl} (h : VlAt w b v) (hb : Below B w w') (hB : b < B) : VlAt w' b v := by unfold VlAt; rw [hb.block b hB]; exact h
theorem VlAt.over {w w' : World} {b : Nat} {v : Vl} (h : VlAt w b v) (hb : Below w.heap.size w w') : VlAt w' b v := h.below hb h.lt
theorem VlAt.cells {w : World} {b : Nat} {v : Vl} (h : VlAt w b v) : w.cell? ⟨b, 0, none⟩ = some (.int .i64 v.k) ∧ w.cell? ⟨b, 1, none⟩ = some (.int .i64 v.n) ∧ w.cell? ⟨b, 2, none⟩ = some (.string v.s) :=
  ⟨by rw [cell_of_row w b 0 _ _ _ h]; rfl, by rw [cell_of_row w b 1 _ _ _ h]; rfl, by rw [cell_of_row w b 2 _ _ _ h]; rfl⟩
theorem VlAt.melts {w : World} {b : Nat} {v : Vl} (h : VlAt w b v) : w.frozen? ⟨b, 0, none⟩ = false ∧ w.frozen? ⟨b, 1, none⟩ = false ∧ w.frozen? ⟨b, 2, none⟩ = false := ⟨frozen_of_row w b 0 _ _ h, frozen_of_row w b 1 _ _ h, frozen_of_row w b 2 _ _ h⟩
theorem VlAt.put3 {w : World} {b : Nat} {v0 : Vl} (h : VlAt w b v0) (v : Vl) : VlAt (((w.setCell ⟨b, 0, none⟩ (.int .i64 v.k)).setCell ⟨b, 1, none⟩ (.int .i64 v.n)).setCell ⟨b, 2, none⟩ (.string v.s)) b v := by
  have h1 : (w.setCell ⟨b, 0, none⟩ (.int .i64 v.k)).heap[b]? = some (.cells #[.int .i64 v.k, .int .i64 v0.n, .string v0.s] 31) := by rw [heap_setCell_same w b 0 _ _ _ h]; rfl
  have h2 : ((w.setCell ⟨b, 0, none⟩ (.int .i64 v.k)).setCell ⟨b, 1, none⟩ (.int .i64 v.n)).heap[b]? = some (.cells #[.int .i64 v.k, .int .i64 v.n, .string v0.s] 31) := by rw [heap_setCell_same _ b 1 _ _ _ h1]; rfl
  unfold VlAt; rw [heap_setCell_same _ b 2 _ _ _ h2]; rfl
theorem belowV3 {w w1 : World} {B z : Nat} (h : Below B w w1) (hz : B ≤ z) (v : Vl) : Below B w (((w1.setCell ⟨z, 0, none⟩ (.int .i64 v.k)).setCell ⟨z, 1, none⟩ (.int .i64 v.n)).setCell ⟨z, 2, none⟩ (.string v.s)) :=
  ((h.setCell hz _).setCell hz _).setCell hz _
theorem below_vl (w : World) (v : Vl) : Below w.heap.size w (w.alloc (.cells #[.int .i64 v.k, .int .i64 v.n, .string v.s] 31)) := (Below.refl _ _).alloc (Nat.le_refl _) _
theorem below_z (w : World) : Below w.heap.size w (w.alloc (.cells #[.int .i64 0, .int .i64 0, .string ⟨#[]⟩] 31)) := (Below.refl _ _).alloc (Nat.le_refl _) _
theorem dec_beq (x y : Int) : decide (x = y) = (x == y) := by rw [Bool.beq_eq_decide_eq]
theorem res_fault : Tryd.f58.results = #[.cell 2 31] := by kernel_rfl
theorem res_number : Tryd.f88.results = #[.cell 2 31] := by kernel_rfl
theorem res_vtext : Tryd.f82.results = #[.cell 2 31] := by kernel_rfl
theorem res_vtruth : Tryd.f80.results = #[.cell 2 31] := by kernel_rfl
set_option maxRecDepth 100000 in
set_option maxHeartbeats 1600000 in
theorem fault_any (n : Int) (w : World) : Calls Tryd.prog 58 #[.int .i64 n] w fun e w' => e = .returned (.agg #[.int .i64 (Vl.err n).k, .int .i64 (Vl.err n).n, .string (Vl.err n).s]) ∧ Below w.heap.size w w' := by
  have HN := Lib.hid (VlAt.new w (Vl.err n))
  have HB := Lib.hid (below_vl w (Vl.err n))
  go_enter Tryd.func58, Tryd.ntmps58
  go_wp2_with fail
  exact bodyPost_ret (out_vl HN.out _ _ 2 res_fault rfl) rfl ⟨rfl, HB.out⟩
set_option maxRecDepth 100000 in
set_option maxHeartbeats 1600000 in
theorem number_any (n : Int) (w : World) : Calls Tryd.prog 88 #[.int .i64 n] w fun e w' => e = .returned (.agg #[.int .i64 (Vl.num n).k, .int .i64 (Vl.num n).n, .string (Vl.num n).s]) ∧ Below w.heap.size w w' := by
  have HN := Lib.hid (VlAt.new w (Vl.num n))
  have HB := Lib.hid (below_vl w (Vl.num n))
  go_enter Tryd.func88, Tryd.ntmps88
  go_wp2_with fail
  exact bodyPost_ret (out_vl HN.out _ _ 2 res_number rfl) rfl ⟨rfl, HB.out⟩
set_option maxRecDepth 100000 in
set_option maxHeartbeats 1600000 in
theorem vtext_any (s : ByteArray) (w : World) : Calls Tryd.prog 82 #[.string s] w fun e w' => e = .returned (.agg #[.int .i64 (Vl.text s).k, .int .i64 (Vl.text s).n, .string (Vl.text s).s]) ∧ Below w.heap.size w w' := by
  have HN := Lib.hid (VlAt.new w (Vl.text s))
  have HB := Lib.hid (below_vl w (Vl.text s))
  go_enter Tryd.func82, Tryd.ntmps82
  go_wp2_with fail
  exact bodyPost_ret (out_vl HN.out _ _ 2 res_vtext rfl) rfl ⟨rfl, HB.out⟩
set_option maxRecDepth 100000 in
set_option maxHeartbeats 1600000 in
theorem vtruth_false (w : World) : Calls Tryd.prog 80 #[.bool false] w fun e w' => e = .returned (.agg #[.int .i64 (Vl.truth false).k, .int .i64 (Vl.truth false).n, .string (Vl.truth false).s]) ∧ Below w.heap.size w w' := by
  have HN := Lib.hid ((VlAt.new w (Vl.truth false)).over ((Below.refl _ _).alloc (Nat.le_refl _) (.cells #[.int .i64 (Vl.truth false).k, .int .i64 (Vl.truth false).n, .string (Vl.truth false).s] 31)))
  have HB := Lib.hid ((below_vl w (Vl.truth false)).alloc (below_vl w (Vl.truth false)).size (.cells #[.int .i64 (Vl.truth false).k, .int .i64 (Vl.truth false).n, .string (Vl.truth false).s] 31))
  go_enter Tryd.func80, Tryd.ntmps80
  go_wp2_with fail
  exact bodyPost_ret (out_vl HN.out _ _ 2 res_vtruth rfl) rfl ⟨rfl, HB.out⟩
set_option maxRecDepth 100000 in
set_option maxHeartbeats 1600000 in
theorem vtruth_true (w : World) : Calls Tryd.prog 80 #[.bool true] w fun e w' => e = .returned (.agg #[.int .i64 (Vl.truth true).k, .int .i64 (Vl.truth true).n, .string (Vl.truth true).s]) ∧ Below w.heap.size w w' := by
  have HN := Lib.hid ((VlAt.new w (Vl.truth true)).over ((Below.refl _ _).alloc (Nat.le_refl _) (.cells #[.int .i64 (Vl.truth true).k, .int .i64 (Vl.truth true).n, .string (Vl.truth true).s] 31)))
  have HB := Lib.hid ((below_vl w (Vl.truth true)).alloc (below_vl w (Vl.truth true)).size (.cells #[.int .i64 (Vl.truth true).k, .int .i64 (Vl.truth true).n, .string (Vl.truth true).s] 31))
  go_enter Tryd.func80, Tryd.ntmps80
  go_wp2_with fail
  exact bodyPost_ret (out_vl HN.out _ _ 2 res_vtruth rfl) rfl ⟨rfl, HB.out⟩
theorem vtruth_any (b : Bool) (w : World) : Calls Tryd.prog 80 #[.bool b] w fun e w' => e = .returned (.agg #[.int .i64 (Vl.truth b).k, .int .i64 (Vl.truth b).n, .string (Vl.truth b).s]) ∧ Below w.heap.size w w' := by
  cases b with
  | false => exact vtruth_false w
  | true => exact vtruth_true w
set_option maxRecDepth 100000 in
set_option maxHeartbeats 1600000 in
theorem isError_any (v : Vl) (w : World) : Calls Tryd.prog 56 #[.agg #[.int .i64 v.k, .int .i64 v.n, .string v.s]] w fun e w' => e = .returned (.bool (decide (v.k = 4))) ∧ Below w.heap.size w w' := by
  have HB := Lib.hid (below_vl w v)
  go_enter Tryd.func56, Tryd.ntmps56
  go_wp2_with fail
  all_goals go_ret
  all_goals exact ⟨by first | rfl | rw [dec_beq], HB.out⟩
set_option maxRecDepth 100000 in
set_option maxHeartbeats 1600000 in
theorem int_any (v : Vl) (w : World) : Calls Tryd.prog 47 #[.agg #[.int .i64 v.k, .int .i64 v.n, .string v.s]] w fun e w' => e = .returned (.tuple #[.int .i64 (intV v), .bool (isInt v)]) ∧ Below w.heap.size w w' := by
  have HB := Lib.hid (below_vl w v)
  have hi : intV v = if v.k = 1 then v.n else 0 := rfl
  have hb : isInt v = decide (v.k = 0 ∨ v.k = 1) := rfl
  have HI := Lib.hid hi; have HJ := Lib.hid hb
  clear hi hb
  by_cases h0 : v.k = 0
  · have e0 : (v.k == 0) = true := beq_iff_eq.2 h0
    have H0 := Lib.hid h0; clear h0
    go_enter Tryd.func47, Tryd.ntmps47
    go_wp2_with fail
    all_goals go_ret2
    all_goals exact ⟨by rw [HI.out, HJ.out, H0.out]; rfl, HB.out⟩
  · have e0 : (v.k == 0) = false := beq_eq_false_iff_ne.2 h0
    have H0 := Lib.hid h0; clear h0
    by_cases h1 : v.k = 1
    · have e1 : (v.k == 1) = true := beq_iff_eq.2 h1
      have H1 := Lib.hid h1; clear h1
      go_enter Tryd.func47, Tryd.ntmps47
      go_wp2_with fail
      all_goals go_ret2
      all_goals exact ⟨by rw [HI.out, HJ.out, if_pos H1.out, decide_eq_true (.inr H1.out)]; rfl, HB.out⟩
    · have e1 : (v.k == 1) = false := beq_eq_false_iff_ne.2 h1
      have H1 := Lib.hid h1; clear h1
      go_enter Tryd.func47, Tryd.ntmps47
      go_wp2_with fail
      all_goals go_ret2
      all_goals exact ⟨by rw [HI.out, HJ.out, if_neg H1.out, decide_eq_false (fun h => h.elim H0.out H1.out)]; rfl, HB.out⟩
end Go.Proofs.YtppialmmhoopcaaDoor
