/-
  Layer 6, the program: slices.Backward over parts: what a range over it goes through: what needs no more than that (parted off).
-/
import Derived.RangeFuncNested
import Derived.RangeFuncBound
import Derived.RangeFuncCalls
import Derived.RangeFuncLeaves
import Derived.Shelf.Abstract
import Derived.WalkKit
import Derived.OwnWalkIn
import Derived.TacticsInMore
import Derived.LoopNIn
import Derived.LoopIn
import Derived.Test.YtnimmpidplfnnaaOwnG
namespace Go.Proofs.Ytnimmpidplfnnaa
open Go.RowKit Go.Shelf
attribute [local go_sem] Oper.semAt_some

/-- Two blocks that stay. -/
def Twos (x y : Nat) (w w' : World) : Prop := w'.heap[x]? = w.heap[x]? ∧ w'.heap[y]? = w.heap[y]?
theorem Twos.refl (x y : Nat) (w : World) : Twos x y w w := ⟨rfl, rfl⟩
theorem Twos.trans {x y : Nat} {a b c : World} (h : Twos x y a b) (k : Twos x y b c) : Twos x y a c := ⟨k.1.trans h.1, k.2.trans h.2⟩
theorem Twos.cell1 {x y : Nat} {w w' : World} (h : Twos x y w w') (j : Nat) : w'.cell? ⟨x, j, none⟩ = w.cell? ⟨x, j, none⟩ := World.cell?_of_block (a := ⟨x, j, none⟩) h.1
theorem Twos.cell2 {x y : Nat} {w w' : World} (h : Twos x y w w') (j : Nat) : w'.cell? ⟨y, j, none⟩ = w.cell? ⟨y, j, none⟩ := World.cell?_of_block (a := ⟨y, j, none⟩) h.2
theorem twosK_b {w : World} {x y : Nat} (hx : x < w.heap.size) (hy : y < w.heap.size) (W : World) (l : Nat) (o o' : Obj) (hl : w.heap.size ≤ l) (h : W.heap[l]? = some o) (_ : o.isCells = false) (_ : o.isWalk = false) : Twos x y W (W.putObj l o') := by
  have hlt := (Array.getElem?_eq_some_iff.1 h).1
  have hg := grownBy_putObj' W l o'
  exact ⟨hg.block x (by omega) (fun e => by have := Option.some.inj e; omega), hg.block y (by omega) (fun e => by have := Option.some.inj e; omega)⟩
end Go.Proofs.Ytnimmpidplfnnaa
