/-
  What every law's row asks behind its walk: the answer true; the arguments read as they did. One lemma for all laws, whatever their parameters.
-/
import Derived.Test.YtopedodhilbooaaDoorCards
import Derived.Test.YtopedodhilbooaaDoorTie
import Derived.Test.YtopedodhilbooaaDoorShaF
import Derived.ProofKit
import Derived.OpenShut
import Derived.Deep.DeepHandedRow
import Derived.Lib.LaidTab
namespace Go.Proofs.YtopedodhilbooaaDoor
open Go.ChangeShapes Go.WideShapes Go.ChangeAt Go.RowKit

theorem laidMet_tail {P : Program} {x : String × DataW Unit} {l : List (String × DataW Unit)} {w : World} (h : laidMet P (x :: l) w) : laidMet P l w := by
  obtain ⟨ps, h1, h2, h3⟩ := h
  obtain ⟨n, d⟩ := x
  obtain ⟨g, t, cs, fuel, p, q, _, _, _, _, hq, rfl⟩ := h1
  exact ⟨q, hq, (List.nodup_append.1 h2).2.1, fun b off hm => h3 b off (List.mem_append_right _ hm)⟩

/-- Whatever was there below the old heap's end reads as it did. -/
theorem trodAll_below {H : Type} {enc : TypeId × Value → H} {P : Program} (hl : laidOutB P = true) {W W' : World} (hb : Below W.heap.size W W') :
    ∀ (ts : List TypeId) (vs : List Value) (ds : List (DataW H)) (p : List MemPlace), (ts.all fun t => P.readableRec t && decide (t < P.types.size)) = true → (∀ x ∈ p, x.block < W.heap.size) →
      DataW.TrodAll enc P W 0 (fun _ => true) true ts vs ds p → DataW.TrodAll enc P W' 0 (fun b => decide (b < W.heap.size)) true ts vs ds p := by
  intro ts
  induction ts with
  | nil =>
    intro vs ds p _ _ h
    obtain ⟨rfl, rfl, rfl⟩ := trodAll_nil h
    exact trodAll_mk0
  | cons t ts ih =>
    intro vs ds p ht hlt h
    obtain ⟨v, vs', d, ds', p1, q1, rfl, rfl, rfl, h0, hr⟩ := trodAll_cons h
    rw [List.all_cons, Bool.and_eq_true, Bool.and_eq_true, decide_eq_true_eq] at ht
    exact trodAll_cons_mk (Below.trod hl ht.1.1 ht.1.2 h0 hb (fun x hx => hlt x (List.mem_append_left _ hx))) (ih vs' ds' q1 ht.2 (fun x hx => hlt x (List.mem_append_right _ hx)) hr)

/-- A variable's block with other cells: for a witness's world. -/
def setTab (cs : Array Value) : Obj → Obj
  | .cells _ t frozen => .cells cs t frozen
  | o => o

theorem own : ownKnob Tryd.prog.godebug = none := by kernel_rfl
theorem laidOut : laidOutB Tryd.prog = true := by kernel_rfl
theorem g0 : Tryd.prog.globalNamed "chequer/sha.startState" = some 0 := by kernel_rfl
theorem g1 : Tryd.prog.globalNamed "chequer/sha.roundNumbers" = some 1 := by kernel_rfl
theorem g0t : (Tryd.prog.globals[0]?).map (·.type) = some 39 := by kernel_rfl
theorem g1t : (Tryd.prog.globals[1]?).map (·.type) = some 56 := by kernel_rfl
theorem c8 : Tryd.prog.cellsOf 39 = 8 := by kernel_rfl
theorem c64 : Tryd.prog.cellsOf 56 = 64 := by kernel_rfl
theorem c1 : Tryd.prog.cellsOf 38 = 1 := by kernel_rfl
/-- What a row's list of sha's two tables gives. -/
theorem tables {W : World} (h : laidMetH Tryd.prog [("chequer/sha.startState", Rows.laid_chequer_sha_startState), ("chequer/sha.roundNumbers", Rows.laid_chequer_sha_roundNumbers)] W) : Tables W := by
  have h1 : laidMet Tryd.prog [("chequer/sha.startState", Rows.laid_chequer_sha_startState), ("chequer/sha.roundNumbers", Rows.laid_chequer_sha_roundNumbers)] W := h
  have t0 : Lib.TabIs Tryd.prog W "chequer/sha.startState" .u32 iv := Lib.tabIs_of_head g0 g0t Tryd.underlying39 Tryd.underlying38 c1 c8 h1
  have t1 : Lib.TabIs Tryd.prog W "chequer/sha.roundNumbers" .u32 kn := Lib.tabIs_of_head g1 g1t Tryd.underlying56 Tryd.underlying38 c1 c64 (laidMet_tail h1)
  have e0 : ∀ j, j < 8 → W.cell? ⟨0, j, none⟩ = some (.int .u32 (iv.getD j 0)) := fun j hj => t0.cell g0 j hj
  have e1 : ∀ j, j < 64 → W.cell? ⟨1, j, none⟩ = some (.int .u32 (kn.getD j 0)) := fun j hj => t1.cell g1 j hj
  exact ⟨block_lt_of_cell (e0 0 (by omega)), block_lt_of_cell (e1 0 (by omega)), e0, e1⟩
/-- A WORLD FOR THE WITNESS: the settled one, the tables holding what their initialisers lay. -/
noncomputable def laidWorld (os : Os) : World :=
  { World.holding Tryd.prog os ⟨#[], #[], []⟩ with heap := ((World.holding Tryd.prog os ⟨#[], #[], []⟩).heap.modify 0 (setTab (U iv).toArray)).modify 1 (setTab (U kn).toArray) }

/-- THE CLOSING: the law answers true and has left what was there. -/
theorem law_post {H : Type} {enc : TypeId × Value → H} {f : Func} {s : ChangeSpec} {W W' : World} {args : Array Value} {ds gs : List (DataW H)} {before : List MemPlace} (hl : laidOutB Tryd.prog = true)
    (hparams : (f.params.toList.all fun t => Tryd.prog.readableRec t && decide (t < Tryd.prog.types.size)) = true) (hres : f.resultTypes = #[4])
    (hvars : s.vars = []) (hfn : s.fn H (ds ++ gs) = { results := [.lit (.bool true)], args := ds })
    (hW : DataW.Whole enc Tryd.prog f.params.toList s.vars false W args.toList ds gs before) (hlt : ∀ x ∈ before, x.block < W.heap.size) (hb : Below W.heap.size W W') :
    s.post enc Tryd.prog f false true false false W args (.bool true) W' := by
  have hW0 := hW
  obtain ⟨p, q, hA, hV, rfl, _, _⟩ := hW
  refine ⟨ds, gs, p ++ q, [], p, [], hW0, ?_, ?_, ?_, hb.frame _, fun h => by cases h⟩
  · rw [hfn, hres]
    exact trodAll_cons_mk (shut_bool Tryd.underlying4 true) trodAll_mk0
  · rw [hfn]
    exact trodAll_below hl hb _ _ _ _ hparams (fun x hx => hlt x (List.mem_append_left _ hx)) hA
  · rw [hvars, hfn]; rfl
end Go.Proofs.YtopedodhilbooaaDoor
