/-
  DERIVED. GIVEN WITH THE SEED: THE CARDS: each row of YtbplbjmmfgjdjaaGreatDoorRows.lean that lists a variable, with what it lists TIED to the program's text (the seventh form; the later family's looks); each row that meets fmt, with fmt's text TOLD by the authors' own Lean function (tested against real Go, not proved from fmt's source: count such statements apart). THE CARD IS WHAT COUNTS. Prove the row's statement (the work); the ties are given (YtbplbjmmfgjdjaaGreatDoorTie.lean); close each card by the builder's one call (the guide's Derived/Test/ToyasCard.lean, 'card_holds'). Laid BY PROGRAM, IN A SANDBOX (cutbox-door.mjs). By AI agents, Wed Nov 11 2026. No macro, syntax, notation, axiom, sorry.
-/
import Derived.Test.YtbplbjmmfgjdjaaGreatDoorRows
import GoSem.ClaimSeven
namespace Go.Proofs.YtbplbjmmfgjdjaaGreatDoor
namespace Rows

/-- THE TIED CARD OF 'chequerlaw12.MoveMade'. -/
def moveMadeCard : Claim7 := { stood := { row := moveMadeRow, standIns := [], harness := (true, "b1a56aa81d46cf72c04a851b849572f10ac84b945f04e1fb7ffc3a764c6e8f7d"), looks := true }, kinds := [], alts := [], laidByText := true, laidKinds := [.data, .data, .data, .data, .sentinel, .sentinel, .data, .data, .data, .pinned], laidTests := true, laidLooks := .later }
def MoveMadeCardSaid : Prop := Claim7.holds Tryz.pinned (.plain (OpenSpec.ofChange moveMadeSpec)) moveMadeCard

/-- THE SECOND FORM's CARD OF 'chequerlaw12.MoveMade'. -/
def moveMadeUptoCard : Claim7 := { stood := { row := moveMadeUptoRow, standIns := [], harness := (true, "b1a56aa81d46cf72c04a851b849572f10ac84b945f04e1fb7ffc3a764c6e8f7d"), looks := true }, kinds := [], alts := [], laidByText := true, laidKinds := [.data, .data, .data, .data, .sentinel, .sentinel, .data, .data, .data, .pinned], laidTests := true, laidLooks := .later }
def MoveMadeUptoCardSaid : Prop := Claim7.holds Tryz.pinned (.plain (OpenSpec.upto moveMadeSpec)) moveMadeUptoCard
end Rows
end Go.Proofs.YtbplbjmmfgjdjaaGreatDoor
