/-
  Layer 8, the law: arguments; the example.
-/
import Derived.Test.YtolhmemiknpeaaaGreatDoorFuJ
import Derived.Deep.DeepCutAuto
namespace Go.Proofs.YtolhmemiknpeaaaGreatDoor
open Go.RowKit

/-- A value that stands alone, as an argument. -/
def agOne (x : Vl) (v : Value) : Ag := ⟨false, 0, [x], v⟩
def flat3 (l : List Ag) : List Value := l.flatMap (fun a => [.bool a.r, .int .i64 a.c, a.v])
theorem flat3_at : ∀ (l : List Ag) (i j : Nat) (a : Ag), l[i]? = some a → j < 3 → (flat3 l)[i * 3 + j]? = [Value.bool a.r, .int .i64 a.c, a.v][j]?
  | [], i, j, a, h, _ => by simp at h
  | b :: t, 0, j, a, h, hj => by
    simp only [List.getElem?_cons_zero, Option.some.injEq] at h
    subst h
    show ([Value.bool b.r, .int .i64 b.c, b.v] ++ flat3 t)[0 * 3 + j]? = _
    rw [Nat.zero_mul, Nat.zero_add, List.getElem?_append_left (by simpa using hj)]
  | b :: t, i + 1, j, a, h, hj => by
    rw [List.getElem?_cons_succ] at h
    show ([Value.bool b.r, .int .i64 b.c, b.v] ++ flat3 t)[(i + 1) * 3 + j]? = _
    rw [List.getElem?_append_right (by simp; omega)]
    rw [← flat3_at t i j a h hj]
    congr 1
    simp; omega
theorem sa_new (w : World) (C : Array Value) (t : TypeId) (ags : List Ag) (n z : Nat) (hz : w.heap.size = z) (hn : ags.length = n) (hC : C.toList = flat3 ags) (hs : ∀ a ∈ ags, SV w w.heap.size a.v a.vs) : SA (w.alloc (.cells C t)) (w.alloc (.cells C t)).heap.size (.slice (some ⟨z, 0, none⟩) n n) ags := by
  subst hz
  have hsz : (w.alloc (.cells C t)).heap.size = w.heap.size + 1 := World.size_alloc _ _
  refine ⟨⟨_, n, by rw [hn], .inr ⟨w.heap.size, 0, rfl, by omega, fun i a hi => ?_⟩⟩, fun a ha => ((hs a ha).below (Aft.alloc w _) (Nat.le_refl _)).mono (by omega)⟩
  have hc : ∀ j, j < 3 → (w.alloc (.cells C t)).cell? ⟨w.heap.size, i * 3 + j, none⟩ = [Value.bool a.r, .int .i64 a.c, a.v][j]? := fun j hj => by
    rw [cell_of_row _ w.heap.size (i * 3 + j) C t _ (Go.MapKept.heap_alloc w _).1, ← Array.getElem?_toList, hC, flat3_at ags i j a hi hj]
  have c0 := hc 0 (by omega); have c1 := hc 1 (by omega); have c2 := hc 2 (by omega)
  simp only [Nat.zero_add]
  exact ⟨c0, c1, c2⟩
theorem ag_size : (Tryz.prog.info? 32).map (·.size) = some 3 := by kernel_rfl
theorem out_ag {w : World} {b : Nat} {r : Bool} {c : Int} {v : Value} (h : AgAt w b r c v) (fn : Func) (tmps : Array Value) (s : Tmp) (hf : fn.results = #[.cell s 32]) (hp : tmps.getD s undef = .pointer (some ⟨b, 0, none⟩)) :
    (results fn tmps).run Tryz.prog w = .ok (.agg #[.bool r, .int .i64 c, v]) w :=
  results_cell_row hf tmps w b _ _ _ _ hp h Tryz.underlying32 rfl ag_size
theorem res_one : Tryz.f8.results = #[.cell 2 32] := by kernel_rfl
/-- What 'one' tells. -/
def OneIs (w : World) (e : Ending) (x : Vl) : Prop := ∃ v, e = .returned (.agg #[.bool false, .int .i64 0, v]) ∧ (∃ g, v = .slice (some ⟨g, 0, none⟩) 1 1) ∧ SV w w.heap.size v [x]
theorem sv_one (w : World) (x : Vl) (t : TypeId) : SV (w.alloc (.cells #[.int .i64 x.k, .int .i64 x.n, .string x.s] t)) (w.alloc (.cells #[.int .i64 x.k, .int .i64 x.n, .string x.s] t)).heap.size (.slice (some ⟨w.heap.size, 0, none⟩) 1 1) [x] := by
  have h := (Go.MapKept.heap_alloc w (.cells #[.int .i64 x.k, .int .i64 x.n, .string x.s] t)).1
  refine ⟨_, 1, rfl, .inr ⟨w.heap.size, 0, rfl, by rw [World.size_alloc]; omega, fun i y hi => ?_⟩⟩
  cases i with
  | zero =>
    simp only [List.getElem?_cons_zero, Option.some.injEq] at hi
    subst hi
    exact ⟨by rw [cell_of_row _ _ _ _ _ _ h]; rfl, by rw [cell_of_row _ _ _ _ _ _ h]; rfl, by rw [cell_of_row _ _ _ _ _ _ h]; rfl⟩
  | succ i => simp at hi
set_option maxRecDepth 100000 in
set_option maxHeartbeats 1600000 in
theorem one_any (x : Vl) (w : World) : Calls Tryz.prog 8 #[.agg #[.int .i64 x.k, .int .i64 x.n, .string x.s]] w fun e w' => OneIs w' e x ∧ Aft w w' := by
  have hs1 : (w.alloc (.cells #[.int .i64 x.k, .int .i64 x.n, .string x.s] 28)).heap.size = w.heap.size + 1 := World.size_alloc _ _
  have hs2 : ((w.alloc (.cells #[.int .i64 x.k, .int .i64 x.n, .string x.s] 28)).alloc (.cells #[.bool false, .int .i64 0, .slice none 0 0] 32)).heap.size = w.heap.size + 2 := by rw [World.size_alloc, hs1]
  have hx : VlAt ((w.alloc (.cells #[.int .i64 x.k, .int .i64 x.n, .string x.s] 28)).alloc (.cells #[.bool false, .int .i64 0, .slice none 0 0] 32)) w.heap.size x := (VlAt.new w x).over (Aft.alloc _ _)
  have hag : ((w.alloc (.cells #[.int .i64 x.k, .int .i64 x.n, .string x.s] 28)).alloc (.cells #[.bool false, .int .i64 0, .slice none 0 0] 32)).heap[w.heap.size + 1]? = some (.cells #[.bool false, .int .i64 0, .slice none 0 0] 32) := by
    have := (Go.MapKept.heap_alloc (w.alloc (.cells #[.int .i64 x.k, .int .i64 x.n, .string x.s] 28)) (.cells #[.bool false, .int .i64 0, .slice none 0 0] 32)).1
    rwa [hs1] at this
  have hb := (Aft.alloc w (.cells #[.int .i64 x.k, .int .i64 x.n, .string x.s] 28)).trans (Aft.alloc (w.alloc (.cells #[.int .i64 x.k, .int .i64 x.n, .string x.s] 28)) (.cells #[.bool false, .int .i64 0, .slice none 0 0] 32))
  have HB := Lib.hid hb; have HX := Lib.hid hx; have HAG := Lib.hid hag
  clear hb hx hag
  go_enter Tryz.func8, Tryz.ntmps8
  go_upto_region 1 with (fail)
  generalize hq : w.heap.size = q at HX HAG hs1 hs2 ⊢
  generalize ((w.alloc (.cells #[.int .i64 x.k, .int .i64 x.n, .string x.s] 28)).alloc (.cells #[.bool false, .int .i64 0, .slice none 0 0] 32)) = w2 at HX HAG HB hs2 ⊢
  obtain ⟨x0, x1, x2⟩ := HX.out.cells
  have m0 := frozen_of_row w2 (q + 1) 0 _ _ HAG.out
  have m1 := frozen_of_row w2 (q + 1) 1 _ _ HAG.out
  have m2 := frozen_of_row w2 (q + 1) 2 _ _ HAG.out
  have a0 := cell_of_row w2 (q + 1) 0 _ _ _ HAG.out
  have a1 := cell_of_row w2 (q + 1) 1 _ _ _ HAG.out
  have a2 := cell_of_row w2 (q + 1) 2 _ _ _ HAG.out
  simp at a0 a1 a2
  go_wp2_with fail
  have g1 : (w2.setCell ⟨q + 1, 0, none⟩ (.bool false)).heap[q + 1]? = some (.cells #[.bool false, .int .i64 0, .slice none 0 0] 32) := by rw [heap_setCell_same w2 (q + 1) 0 _ _ _ HAG.out]; rfl
  have g2 : ((w2.setCell ⟨q + 1, 0, none⟩ (.bool false)).setCell ⟨q + 1, 1, none⟩ (.int .i64 0)).heap[q + 1]? = some (.cells #[.bool false, .int .i64 0, .slice none 0 0] 32) := by rw [heap_setCell_same _ (q + 1) 1 _ _ _ g1]; rfl
  have g3 : AgAt (((w2.setCell ⟨q + 1, 0, none⟩ (.bool false)).setCell ⟨q + 1, 1, none⟩ (.int .i64 0)).setCell ⟨q + 1, 2, none⟩ (.slice (some ⟨q + 2, 0, none⟩) 1 1)) (q + 1) false 0 (.slice (some ⟨q + 2, 0, none⟩) 1 1) := by
    unfold AgAt; rw [heap_setCell_same _ (q + 1) 2 _ _ _ g2]; rfl
  have hqw : w.heap.size ≤ q + 1 := by omega
  have hb3 : Below w.heap.size w (((w2.setCell ⟨q + 1, 0, none⟩ (.bool false)).setCell ⟨q + 1, 1, none⟩ (.int .i64 0)).setCell ⟨q + 1, 2, none⟩ (.slice (some ⟨q + 2, 0, none⟩) 1 1)) := ((Below.setCell HB.out hqw _).setCell hqw _).setCell hqw _
  have hs3 : (((w2.setCell ⟨q + 1, 0, none⟩ (.bool false)).setCell ⟨q + 1, 1, none⟩ (.int .i64 0)).setCell ⟨q + 1, 2, none⟩ (.slice (some ⟨q + 2, 0, none⟩) 1 1)).heap.size = q + 2 := by rw [World.size_setCell, World.size_setCell, World.size_setCell]; exact hs2
  generalize (((w2.setCell ⟨q + 1, 0, none⟩ (.bool false)).setCell ⟨q + 1, 1, none⟩ (.int .i64 0)).setCell ⟨q + 1, 2, none⟩ (.slice (some ⟨q + 2, 0, none⟩) 1 1)) = w3 at g3 hb3 hs3 ⊢
  have hsv := sv_one w3 x 28
  rw [hs3] at hsv
  exact bodyPost_ret (out_ag (g3.over (Aft.alloc w3 (.cells #[.int .i64 x.k, .int .i64 x.n, .string x.s] 28))) _ _ 2 res_one rfl) rfl ⟨⟨_, rfl, ⟨_, rfl⟩, hsv⟩, hb3.alloc hb3.size _⟩
end Go.Proofs.YtolhmemiknpeaaaGreatDoor
