/-
  Layer 15, the program: the walk's steps.
-/
import Derived.Test.YtnimmpidplfnnaaLcD
import Derived.Test.YtnimmpidplfnnaaAppAt
import Derived.Test.YtnimmpidplfnnaaOwnX
namespace Go.Proofs.Ytnimmpidplfnnaa
open Go.RowKit

theorem Elem.num : Elem Try.prog 25 3 1 8 := ⟨Try.underlying25, ⟨.int .i64 0, by kernel_rfl, rfl⟩, by decide⟩
theorem LcT.lift {w w' : World} {B tb : Nat} {a b : List ByteArray} (h : LcT w B tb a b) (hb : Below w.heap.size w w') : LcT w' B tb a b := by
  obtain ⟨ga, gb, bl, r, na, nb, h1, h2, h3, h4, h5, h6, h7, h8⟩ := h
  exact ⟨ga, gb, bl, r, na, nb, (hb.block _ h1.lt).trans h1, h2.below hb, h3.keep (hb.block _ h3.lt), h4.keep (hb.block _ h4.lt), h5, h6, h7, h8⟩
/-- The walk, as it lies in block wb: what was taken lies behind it. -/
structure WkI (w : World) (wb tb i j : Nat) (vx vy : Value) (xs ys : List Int) : Prop where
  at_ : w.heap[wb]? = some (.cells #[.pointer (some ⟨tb, 0, none⟩), .int .i64 (i : Int), .int .i64 (j : Int), vx, vy] 41)
  ox : Own (encInt .i64) 3 w (wb + 1) vx xs
  oy : Own (encInt .i64) 3 w (wb + 1) vy ys
  ap : ∀ g, vx.ownBlock = some g → vy.ownBlock ≠ some g
theorem WkI.lt {w : World} {wb tb i j : Nat} {vx vy : Value} {xs ys : List Int} (h : WkI w wb tb i j vx vy xs ys) : wb < w.heap.size := (Array.getElem?_eq_some_iff.1 h.at_).1
theorem WkI.cells {w : World} {wb tb i j : Nat} {vx vy : Value} {xs ys : List Int} (h : WkI w wb tb i j vx vy xs ys) : w.cell? ⟨wb, 0, none⟩ = some (.pointer (some ⟨tb, 0, none⟩)) ∧ w.cell? ⟨wb, 1, none⟩ = some (.int .i64 (i : Int)) ∧ w.cell? ⟨wb, 2, none⟩ = some (.int .i64 (j : Int)) ∧ w.cell? ⟨wb, 3, none⟩ = some vx ∧ w.cell? ⟨wb, 4, none⟩ = some vy :=
  ⟨cell_of_row w wb 0 _ _ _ h.at_, cell_of_row w wb 1 _ _ _ h.at_, cell_of_row w wb 2 _ _ _ h.at_, cell_of_row w wb 3 _ _ _ h.at_, cell_of_row w wb 4 _ _ _ h.at_⟩
theorem WkI.melts {w : World} {wb tb i j : Nat} {vx vy : Value} {xs ys : List Int} (h : WkI w wb tb i j vx vy xs ys) (k : Nat) : w.frozen? ⟨wb, k, none⟩ = false := frozen_of_row w wb k _ _ h.at_
theorem WkI.drew {w : World} {wb tb i j : Nat} {vx vy : Value} {xs ys : List Int} (h : WkI w wb tb i j vx vy xs ys) : WkI w.drew wb tb i j vx vy xs ys := ⟨h.at_, h.ox, h.oy, h.ap⟩
theorem own_setCell {α : Type} {size : Nat} {E : Enc α size} {e : TypeId} {w : World} {base b o : Nat} {v u : Value} {xs : List α} (h : Own E e w base v xs) (hb : b < base) : Own E e (w.setCell ⟨b, o, none⟩ u) base v xs :=
  h.keep fun g hg _ _ => heap_setCell_other _ _ _ _ (by show g ≠ b; omega)
theorem WkI.setI {w : World} {wb tb i j : Nat} {vx vy : Value} {xs ys : List Int} (h : WkI w wb tb i j vx vy xs ys) (k : Nat) : WkI (w.setCell ⟨wb, 1, none⟩ (.int .i64 (k : Int))) wb tb k j vx vy xs ys :=
  ⟨by rw [heap_setCell_same w wb 1 _ _ _ h.at_]; rfl, own_setCell h.ox (by omega), own_setCell h.oy (by omega), h.ap⟩
theorem WkI.setJ {w : World} {wb tb i j : Nat} {vx vy : Value} {xs ys : List Int} (h : WkI w wb tb i j vx vy xs ys) (k : Nat) : WkI (w.setCell ⟨wb, 2, none⟩ (.int .i64 (k : Int))) wb tb i k vx vy xs ys :=
  ⟨by rw [heap_setCell_same w wb 2 _ _ _ h.at_]; rfl, own_setCell h.ox (by omega), own_setCell h.oy (by omega), h.ap⟩
set_option maxRecDepth 100000 in
set_option maxHeartbeats 1600000 in
theorem passA_any (w : World) (wb tb i j : Nat) (vx vy : Value) (xs ys : List Int) (h : WkI w wb tb i j vx vy xs ys) (hi : i ≤ 1000) :
    Calls Try.prog 24 #[.pointer (some ⟨wb, 0, none⟩)] w fun e w' => (∃ v, e = .returned v) ∧ WkI w' wb tb (i + 1) j vx vy xs ys ∧ Below wb w w' := by
  obtain ⟨x0, x1, x2, x3, x4⟩ := h.cells
  have m1 := h.melts 1
  have i1 : IntKind.i64.wrap ((i : Int) + 1) = (i : Int) + 1 := by rw [IntKind.wrap_i64]; omega
  have hS := h.setI (i + 1)
  rw [Int.natCast_add, Int.natCast_one] at hS
  have HS := Lib.hid hS
  clear h hS
  go_enter Try.func24, Try.ntmps24
  go_wp2_with fail
  first | (refine bodyPost_end (results_none rfl _ _ _) rfl ?_) | (refine bodyPost_ret (results_none rfl _ _ _) rfl ?_)
  exact ⟨⟨_, rfl⟩, HS.out, (Below.refl wb w).setCell (Nat.le_refl _) _⟩
set_option maxRecDepth 100000 in
set_option maxHeartbeats 1600000 in
theorem passB_any (w : World) (wb tb i j : Nat) (vx vy : Value) (xs ys : List Int) (h : WkI w wb tb i j vx vy xs ys) (hi : j ≤ 1000) :
    Calls Try.prog 25 #[.pointer (some ⟨wb, 0, none⟩)] w fun e w' => (∃ v, e = .returned v) ∧ WkI w' wb tb i (j + 1) vx vy xs ys ∧ Below wb w w' := by
  obtain ⟨x0, x1, x2, x3, x4⟩ := h.cells
  have m1 := h.melts 2
  have i1 : IntKind.i64.wrap ((j : Int) + 1) = (j : Int) + 1 := by rw [IntKind.wrap_i64]; omega
  have hS := h.setJ (j + 1)
  rw [Int.natCast_add, Int.natCast_one] at hS
  have HS := Lib.hid hS
  clear h hS
  go_enter Try.func25, Try.ntmps25
  go_wp2_with fail
  first | (refine bodyPost_end (results_none rfl _ _ _) rfl ?_) | (refine bodyPost_ret (results_none rfl _ _ _) rfl ?_)
  exact ⟨⟨_, rfl⟩, HS.out, (Below.refl wb w).setCell (Nat.le_refl _) _⟩
/-- One more place, in the first row. -/
theorem WkI.putX {w w2 : World} {wb tb i j : Nat} {vx vy v' : Value} {xs ys zs : List Int} (h : WkI w wb tb i j vx vy xs ys) (hg : w.grownBy w2 vx.ownBlock) (ho : Own (encInt .i64) 3 w2 (wb + 1) v' zs) (hv : v'.ownBlock = vx.ownBlock ∨ ∃ g, v'.ownBlock = some g ∧ w.heap.size ≤ g) : WkI (w2.setCell ⟨wb, 3, none⟩ v') wb tb i j v' vy zs ys := by
  have hwb : w2.heap[wb]? = w.heap[wb]? := hg.block wb h.lt (fun e => by have := (h.ox.lies e.symm).1; omega)
  refine ⟨by rw [heap_setCell_same w2 wb 3 _ _ _ (hwb.trans h.at_)]; rfl, own_setCell ho (by omega), own_setCell (h.oy.keep fun g h1 h2 h3 => hg.block g h2 (fun e => h.ap g e.symm h3)) (by omega), fun g hg2 hy => ?_⟩
  rcases hv with e | ⟨k, e, hk⟩
  · exact h.ap g (e ▸ hg2) hy
  · rw [e] at hg2; injection hg2 with hg2; have := h.oy.less hy; omega
theorem WkI.putY {w w2 : World} {wb tb i j : Nat} {vx vy v' : Value} {xs ys zs : List Int} (h : WkI w wb tb i j vx vy xs ys) (hg : w.grownBy w2 vy.ownBlock) (ho : Own (encInt .i64) 3 w2 (wb + 1) v' zs) (hv : v'.ownBlock = vy.ownBlock ∨ ∃ g, v'.ownBlock = some g ∧ w.heap.size ≤ g) : WkI (w2.setCell ⟨wb, 4, none⟩ v') wb tb i j vx v' xs zs := by
  have hwb : w2.heap[wb]? = w.heap[wb]? := hg.block wb h.lt (fun e => by have := (h.oy.lies e.symm).1; omega)
  refine ⟨by rw [heap_setCell_same w2 wb 4 _ _ _ (hwb.trans h.at_)]; rfl, own_setCell (h.ox.keep fun g h1 h2 h3 => hg.block g h2 (fun e => h.ap g h3 e.symm)) (by omega), own_setCell ho (by omega), fun g hg2 hy => ?_⟩
  rcases hv with e | ⟨k, e, hk⟩
  · exact h.ap g hg2 (e ▸ hy)
  · rw [e] at hy; injection hy with hy; have := h.ox.less hg2; omega
theorem WkI.alloc {w : World} {wb tb i j : Nat} {vx vy : Value} {xs ys : List Int} (h : WkI w wb tb i j vx vy xs ys) (o : Obj) : WkI (w.alloc o) wb tb i j vx vy xs ys :=
  ⟨(Below.heap_alloc _ _ _ h.lt).trans h.at_, h.ox.alloc o, h.oy.alloc o, h.ap⟩
set_option maxRecDepth 100000 in
set_option maxHeartbeats 8000000 in
theorem takeBoth_any (w : World) (wb tb i j : Nat) (vx vy : Value) (xs ys : List Int) (h : WkI w wb tb i j vx vy xs ys) (hi : i ≤ 1000) (hj : j ≤ 1000) (hx : xs.length ≤ 1000) (hy : ys.length ≤ 1000) :
    Calls Try.prog 23 #[.pointer (some ⟨wb, 0, none⟩)] w fun e w' => (∃ v, e = .returned v) ∧ (∃ vx' vy', WkI w' wb tb (i + 1) (j + 1) vx' vy' (xs ++ [(i : Int)]) (ys ++ [(j : Int)])) ∧ Below wb w w' := by
  obtain ⟨x0, x1, x2, x3, x4⟩ := h.cells
  have i1 : IntKind.i64.wrap ((i : Int) + 1) = (i : Int) + 1 := by rw [IntKind.wrap_i64]; omega
  have j1 : IntKind.i64.wrap ((j : Int) + 1) = (j : Int) + 1 := by rw [IntKind.wrap_i64]; omega
  have HH := Lib.hid h
  have HB0 := Lib.hid (Below.refl wb w)
  clear h
  go_enter Try.func23, Try.ntmps23
  go_upto_region 0 with (fail)
  go_upto_region 0 with (fail)
  have hA := (HH.out.alloc (.cells #[.int .i64 (i : Int)] 3)).drew
  have y0 := hA.cells.2.2.2.1
  have HBA := Lib.hid (show Below wb w (w.alloc (.cells #[.int .i64 (i : Int)] 3)).drew from (HB0.out.alloc (by have := HH.out.lt; omega) _).drew)
  have HA := Lib.hid hA
  clear hA
  go_region_law (refine step_app_at Elem.num (encInt .i64) rfl (.tmp 6) (.tmp 11) rfl (wb + 1) vx xs ?_ HA.out.ox ⟨w.heap.size, 0, none⟩ 1 1 [(i : Int)] ?_ rfl ?_ ?_ ?_ ?_ ?_; go_simp; go_simp; exact cells_new (w := w) _ _ _ rfl; omega; (unfold maxLen; omega); (have := HA.out.lt; omega); intro v' w2 h1 h2 h3; have HP0 := Lib.hid (HA.out.putX h2 h1 (h3.imp id (fun e => ⟨_, e, Nat.le_refl _⟩))); have hwb : w2.heap[wb]? = w.heap[wb]? := (h2.block wb HA.out.lt (fun e => by have := (HA.out.ox.lies e.symm).1; omega)).trans (Below.heap_alloc _ _ _ HH.out.lt); have q0 := frozen_of_row w2 wb 3 _ _ (hwb.trans HH.out.at_); have z0 := cell_of_row w2 wb 3 _ _ _ (hwb.trans HH.out.at_); have HBN0 := Lib.hid (HBA.out.trans (Below.grown (Below.refl wb _) h2 (by have := HA.out.lt; omega) (fun k e => by have := (HA.out.ox.lies e).1; omega))); obtain ⟨g0, c0, rfl, -⟩ := h1.some (by simp); clear h1 h2 h3 hwb)
  all_goals
    simp only [List.length_append, List.length_singleton] at HP0
    have HBS0 := Lib.hid (HBN0.out.setCell (p := ⟨wb, 3, none⟩) (Nat.le_refl _) (.slice (some ⟨g0, 0, none⟩) (xs.length + 1) c0))
    obtain ⟨w3, hw⟩ : ∃ wz, w2.setCell ⟨wb, 3, none⟩ (.slice (some ⟨g0, 0, none⟩) (xs.length + 1) c0) = wz := ⟨_, rfl⟩
    rw [hw] at HP0 HBS0 ⊢
    clear hw x0 x1 x2 x3 x4 y0 q0 z0 HBA HA HBN0
    obtain ⟨x0, x1, x2, x3, x4⟩ := HP0.out.cells
    go_upto_region 1 with (fail)
    have hA := (HP0.out.alloc (.cells #[.int .i64 (j : Int)] 3)).drew
    have y1 := hA.cells.2.2.2.2
    have HBA := Lib.hid (show Below wb w (w3.alloc (.cells #[.int .i64 (j : Int)] 3)).drew from (HBS0.out.alloc (by have := HP0.out.lt; omega) _).drew)
    have HA := Lib.hid hA
    clear hA
    go_region_law (refine step_app_at Elem.num (encInt .i64) rfl (.tmp 19) (.tmp 24) rfl (wb + 1) vy ys ?_ HA.out.oy ⟨w3.heap.size, 0, none⟩ 1 1 [(j : Int)] ?_ rfl ?_ ?_ ?_ ?_ ?_; go_simp; go_simp; exact cells_new (w := w3) _ _ _ rfl; omega; (unfold maxLen; omega); (have := HA.out.lt; omega); intro v' w4 h1 h2 h3; have HP1 := Lib.hid (HA.out.putY h2 h1 (h3.imp id (fun e => ⟨_, e, Nat.le_refl _⟩))); have hwb : w4.heap[wb]? = w3.heap[wb]? := (h2.block wb HA.out.lt (fun e => by have := (HA.out.oy.lies e.symm).1; omega)).trans (Below.heap_alloc _ _ _ HP0.out.lt); have q1 := frozen_of_row w4 wb 4 _ _ (hwb.trans HP0.out.at_); have z1 := cell_of_row w4 wb 4 _ _ _ (hwb.trans HP0.out.at_); have HBN1 := Lib.hid (HBA.out.trans (Below.grown (Below.refl wb _) h2 (by have := HA.out.lt; omega) (fun k e => by have := (HA.out.oy.lies e).1; omega))); obtain ⟨g1, c1, rfl, -⟩ := h1.some (by simp); clear h1 h2 h3 hwb)
    all_goals
      simp only [List.length_append, List.length_singleton] at HP1
      have HBS1 := Lib.hid (HBN1.out.setCell (p := ⟨wb, 4, none⟩) (Nat.le_refl _) (.slice (some ⟨g1, 0, none⟩) (ys.length + 1) c1))
      obtain ⟨w5, hw⟩ : ∃ wz, w4.setCell ⟨wb, 4, none⟩ (.slice (some ⟨g1, 0, none⟩) (ys.length + 1) c1) = wz := ⟨_, rfl⟩
      rw [hw] at HP1 HBS1 ⊢
      clear hw x0 x1 x2 x3 x4 y1 q1 z1 HBA HA HBN1
      obtain ⟨x0, x1, x2, x3, x4⟩ := HP1.out.cells
      have m1 := HP1.out.melts 1
      have HI := Lib.hid (HP1.out.setI (i + 1))
      have m2 := HI.out.melts 2
      have HJ := Lib.hid (HI.out.setJ (j + 1))
      obtain ⟨-, -, u2, -, -⟩ := HI.out.cells
      rw [Int.natCast_add, Int.natCast_one] at HI HJ m2 u2
      rw [Int.natCast_add, Int.natCast_one] at HJ
      have HBE := Lib.hid ((HBS1.out.setCell (p := ⟨wb, 1, none⟩) (Nat.le_refl _) (.int .i64 ((i : Int) + 1))).setCell (p := ⟨wb, 2, none⟩) (Nat.le_refl _) (.int .i64 ((j : Int) + 1)))
      go_wp2_with fail
      first | (refine bodyPost_end (results_none rfl _ _ _) rfl ?_) | (refine bodyPost_ret (results_none rfl _ _ _) rfl ?_)
      exact ⟨⟨_, rfl⟩, ⟨_, _, HJ.out⟩, HBE.out⟩
end Go.Proofs.Ytnimmpidplfnnaa
