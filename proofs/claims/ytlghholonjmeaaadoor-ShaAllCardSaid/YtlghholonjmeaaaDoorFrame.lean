/-
  What a law over sha's tables asks: the tables' facts, a world for the witness.
-/
import Derived.Test.YtlghholonjmeaaaDoorCards
import Derived.Test.YtlghholonjmeaaaDoorTie
import Derived.Test.YtlghholonjmeaaaDoorShaF
import Derived.Test.YtlghholonjmeaaaDoorPost
import Derived.ProofKit
import Derived.OpenShut
import Derived.Deep.DeepHandedRow
import Derived.Lib.LaidTab
namespace Go.Proofs.YtlghholonjmeaaaDoor
open Go.ChangeShapes Go.WideShapes Go.ChangeAt Go.RowKit

theorem laidMet_tail {P : Program} {x : String × DataW Unit} {l : List (String × DataW Unit)} {w : World} (h : laidMet P (x :: l) w) : laidMet P l w := by
  obtain ⟨ps, h1, h2, h3⟩ := h
  obtain ⟨n, d⟩ := x
  obtain ⟨g, t, cs, fuel, p, q, _, _, _, _, hq, rfl⟩ := h1
  exact ⟨q, hq, (List.nodup_append.1 h2).2.1, fun b off hm => h3 b off (List.mem_append_right _ hm)⟩

/-- A variable's block with other cells: for a witness's world. -/
def setTab (cs : Array Value) : Obj → Obj
  | .cells _ t frozen => .cells cs t frozen
  | o => o

theorem g0 : Tryd.prog.globalNamed "chequer/sha.startState" = some 0 := by kernel_rfl
theorem g1 : Tryd.prog.globalNamed "chequer/sha.roundNumbers" = some 1 := by kernel_rfl
theorem g0t : (Tryd.prog.globals[0]?).map (·.type) = some 39 := by kernel_rfl
theorem g1t : (Tryd.prog.globals[1]?).map (·.type) = some 56 := by kernel_rfl
theorem c8 : Tryd.prog.cellsOf 39 = 8 := by kernel_rfl
theorem c64 : Tryd.prog.cellsOf 56 = 64 := by kernel_rfl
theorem c1 : Tryd.prog.cellsOf 38 = 1 := by kernel_rfl
/-- What a row's list of sha's two tables gives. -/
theorem tables {W : World} (h : laidMetH Tryd.prog [("chequer/sha.startState", Rows.laid_chequer_sha_startState), ("chequer/sha.roundNumbers", Rows.laid_chequer_sha_roundNumbers)] W) : Tables W := by
  have h1 : laidMet Tryd.prog [("chequer/sha.startState", Rows.laid_chequer_sha_startState), ("chequer/sha.roundNumbers", Rows.laid_chequer_sha_roundNumbers)] W := h
  have t0 : Lib.TabIs Tryd.prog W "chequer/sha.startState" .u32 iv := Lib.tabIs_of_head g0 g0t Tryd.underlying39 Tryd.underlying38 c1 c8 h1
  have t1 : Lib.TabIs Tryd.prog W "chequer/sha.roundNumbers" .u32 kn := Lib.tabIs_of_head g1 g1t Tryd.underlying56 Tryd.underlying38 c1 c64 (laidMet_tail h1)
  have e0 : ∀ j, j < 8 → W.cell? ⟨0, j, none⟩ = some (.int .u32 (iv.getD j 0)) := fun j hj => t0.cell g0 j hj
  have e1 : ∀ j, j < 64 → W.cell? ⟨1, j, none⟩ = some (.int .u32 (kn.getD j 0)) := fun j hj => t1.cell g1 j hj
  exact ⟨block_lt_of_cell (e0 0 (by omega)), block_lt_of_cell (e1 0 (by omega)), e0, e1⟩
/-- A WORLD FOR THE WITNESS: the settled one, the tables holding what their initialisers lay. -/
noncomputable def laidWorld (os : Os) : World :=
  { World.holding Tryd.prog os ⟨#[], #[], []⟩ with heap := ((World.holding Tryd.prog os ⟨#[], #[], []⟩).heap.modify 0 (setTab (U iv).toArray)).modify 1 (setTab (U kn).toArray) }

end Go.Proofs.YtlghholonjmeaaaDoor
