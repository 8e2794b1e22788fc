/-
  DERIVED. GIVEN WITH THE SEED: THE CARDS: each row of YtnahgpjglooclaaGreatDoorRows.lean that lists a variable, with what it lists TIED to the program's text (the seventh form; the later family's looks); each row that meets fmt, with fmt's text TOLD by the authors' own Lean function (tested against real Go, not proved from fmt's source: count such statements apart). THE CARD IS WHAT COUNTS. Prove the row's statement (the work); the ties are given (YtnahgpjglooclaaGreatDoorTie.lean); close each card by the builder's one call (the guide's Derived/Test/ToyasCard.lean, 'card_holds'). Laid BY PROGRAM, IN A SANDBOX (cutbox-door.mjs). By AI agents, Wed Nov 11 2026. No macro, syntax, notation, axiom, sorry.
-/
import Derived.Test.YtnahgpjglooclaaGreatDoorRows
import GoSem.ClaimSeven
namespace Go.Proofs.YtnahgpjglooclaaGreatDoor
namespace Rows

/-- THE TIED CARD OF 'chequerlaw13.DepsRow'. -/
def depsRowCard : Claim7 := { stood := { row := depsRowRow, standIns := [], harness := (true, "2e9fd90f99ea4f7e56f9c0a49b3f03a4ece05b87dd5a35a910146c3135200357"), looks := true }, kinds := [], alts := [], laidByText := true, laidKinds := [.data, .data, .data, .data, .sentinel, .sentinel, .data, .data, .data, .pinned], laidTests := true, laidLooks := .later }
def DepsRowCardSaid : Prop := Claim7.holds Tryz.pinned (.plain (OpenSpec.ofChange depsRowSpec)) depsRowCard

/-- THE SECOND FORM's CARD OF 'chequerlaw13.DepsRow'. -/
def depsRowUptoCard : Claim7 := { stood := { row := depsRowUptoRow, standIns := [], harness := (true, "2e9fd90f99ea4f7e56f9c0a49b3f03a4ece05b87dd5a35a910146c3135200357"), looks := true }, kinds := [], alts := [], laidByText := true, laidKinds := [.data, .data, .data, .data, .sentinel, .sentinel, .data, .data, .data, .pinned], laidTests := true, laidLooks := .later }
def DepsRowUptoCardSaid : Prop := Claim7.holds Tryz.pinned (.plain (OpenSpec.upto depsRowSpec)) depsRowUptoCard
end Rows
end Go.Proofs.YtnahgpjglooclaaGreatDoor
