/-
  DERIVED. GIVEN WITH THE SEED: THE CARDS: each row of YtaobhjliflomaaaGreatDoorRows.lean that lists a variable, with what it lists TIED to the program's text (the seventh form; the later family's looks); each row that meets fmt, with fmt's text TOLD by the authors' own Lean function (tested against real Go, not proved from fmt's source: count such statements apart). THE CARD IS WHAT COUNTS. Prove the row's statement (the work); the ties are given (YtaobhjliflomaaaGreatDoorTie.lean); close each card by the builder's one call (the guide's Derived/Test/ToyasCard.lean, 'card_holds'). Laid BY PROGRAM, IN A SANDBOX (cutbox-door.mjs). By AI agents, Wed Nov 11 2026. No macro, syntax, notation, axiom, sorry.
-/
import Derived.Test.YtaobhjliflomaaaGreatDoorRows
import GoSem.ClaimSeven
namespace Go.Proofs.YtaobhjliflomaaaGreatDoor
namespace Rows

/-- THE TIED CARD OF 'chequerlaw12.MoveStays'. -/
def moveStaysCard : Claim7 := { stood := { row := moveStaysRow, standIns := [], harness := (true, "c82b9a8a4688d94ec1ebfb61506f20e6dcf5ac3a9041f94fc3ce0bfca795513a"), looks := true }, kinds := [], alts := [], laidByText := true, laidKinds := [.data, .data, .data, .data, .sentinel, .sentinel, .data, .data, .data, .pinned], laidTests := true, laidLooks := .later }
def MoveStaysCardSaid : Prop := Claim7.holds Tryz.pinned (.plain (OpenSpec.ofChange moveStaysSpec)) moveStaysCard

/-- THE TIED CARD OF 'chequerlaw12.MoveTwice'. -/
def moveTwiceCard : Claim7 := { stood := { row := moveTwiceRow, standIns := [], harness := (true, "c82b9a8a4688d94ec1ebfb61506f20e6dcf5ac3a9041f94fc3ce0bfca795513a"), looks := true }, kinds := [], alts := [], laidByText := true, laidKinds := [.data, .data, .data, .data, .sentinel, .sentinel, .data, .data, .data, .pinned], laidTests := true, laidLooks := .later }
def MoveTwiceCardSaid : Prop := Claim7.holds Tryz.pinned (.plain (OpenSpec.ofChange moveTwiceSpec)) moveTwiceCard

/-- THE SECOND FORM's CARD OF 'chequerlaw12.MoveStays'. -/
def moveStaysUptoCard : Claim7 := { stood := { row := moveStaysUptoRow, standIns := [], harness := (true, "c82b9a8a4688d94ec1ebfb61506f20e6dcf5ac3a9041f94fc3ce0bfca795513a"), looks := true }, kinds := [], alts := [], laidByText := true, laidKinds := [.data, .data, .data, .data, .sentinel, .sentinel, .data, .data, .data, .pinned], laidTests := true, laidLooks := .later }
def MoveStaysUptoCardSaid : Prop := Claim7.holds Tryz.pinned (.plain (OpenSpec.upto moveStaysSpec)) moveStaysUptoCard

/-- THE SECOND FORM's CARD OF 'chequerlaw12.MoveTwice'. -/
def moveTwiceUptoCard : Claim7 := { stood := { row := moveTwiceUptoRow, standIns := [], harness := (true, "c82b9a8a4688d94ec1ebfb61506f20e6dcf5ac3a9041f94fc3ce0bfca795513a"), looks := true }, kinds := [], alts := [], laidByText := true, laidKinds := [.data, .data, .data, .data, .sentinel, .sentinel, .data, .data, .data, .pinned], laidTests := true, laidLooks := .later }
def MoveTwiceUptoCardSaid : Prop := Claim7.holds Tryz.pinned (.plain (OpenSpec.upto moveTwiceSpec)) moveTwiceUptoCard
end Rows
end Go.Proofs.YtaobhjliflomaaaGreatDoor
