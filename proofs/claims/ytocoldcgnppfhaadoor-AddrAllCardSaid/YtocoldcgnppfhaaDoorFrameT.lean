/-
  What a law over strconv's tables asks: the table's fact, a world for the witness.
-/
import Derived.Test.YtocoldcgnppfhaaDoorCards
import Derived.Test.YtocoldcgnppfhaaDoorTie
import Derived.Test.YtocoldcgnppfhaaDoorAddrX
import Derived.Test.YtocoldcgnppfhaaDoorPost
import Derived.ProofKit
import Derived.OpenShut
import Derived.Deep.DeepHandedRow
import Derived.Lib.LaidTab
namespace Go.Proofs.YtocoldcgnppfhaaDoor
open Go.ChangeShapes Go.WideShapes Go.ChangeAt Go.RowKit

theorem laidMet_tail {P : Program} {x : String × DataW Unit} {l : List (String × DataW Unit)} {w : World} (h : laidMet P (x :: l) w) : laidMet P l w := by
  obtain ⟨ps, h1, h2, h3⟩ := h
  obtain ⟨n, d⟩ := x
  obtain ⟨g, t, cs, fuel, p, q, _, _, _, _, hq, rfl⟩ := h1
  exact ⟨q, hq, (List.nodup_append.1 h2).2.1, fun b off hm => h3 b off (List.mem_append_right _ hm)⟩
/-- A variable's block with other cells: for a witness's world. -/
def setTab (cs : Array Value) : Obj → Obj
  | .cells _ t frozen => .cells cs t frozen
  | o => o
/-- A datum's cells. -/
def litCell : DataW Unit → Value
  | .lit (.int k n) => .int k n
  | _ => undef
def litCells : DataW Unit → Array Value
  | .agg l => (l.map litCell).toArray
  | _ => #[]
theorem gTab_t : (Tryd.prog.globals[1]?).map (·.type) = some 54 := by kernel_rfl
theorem cTab20 : Tryd.prog.cellsOf 54 = 20 := by kernel_rfl
theorem cTab1 : Tryd.prog.cellsOf 45 = 1 := by kernel_rfl
/-- What a row's list of the three tables gives. -/
theorem tables {W : World} (h : laidMetH Tryd.prog [("math/bits.deBruijn32tab", Rows.laid_math_bits_deBruijn32tab), ("math/bits.deBruijn64tab", Rows.laid_math_bits_deBruijn64tab), ("internal/strconv.uint64pow10", Rows.laid_internal_strconv_uint64pow10)] W) : Tab W := by
  have h1 : laidMet Tryd.prog [("math/bits.deBruijn32tab", Rows.laid_math_bits_deBruijn32tab), ("math/bits.deBruijn64tab", Rows.laid_math_bits_deBruijn64tab), ("internal/strconv.uint64pow10", Rows.laid_internal_strconv_uint64pow10)] W := h
  exact Lib.tabIs_of_head gTab gTab_t Tryd.underlying54 Tryd.underlying45 cTab1 cTab20 (laidMet_tail (laidMet_tail h1))
/-- A WORLD FOR THE WITNESS: the settled one, the tables holding what their initialisers lay. -/
noncomputable def laidWorld (os : Os) : World :=
  { World.holding Tryd.prog os ⟨#[], #[], []⟩ with heap := (((World.holding Tryd.prog os ⟨#[], #[], []⟩).heap.modify 2 (setTab (litCells Rows.laid_math_bits_deBruijn32tab))).modify 3 (setTab (litCells Rows.laid_math_bits_deBruijn64tab))).modify 1 (setTab (litCells Rows.laid_internal_strconv_uint64pow10)) }
end Go.Proofs.YtocoldcgnppfhaaDoor
