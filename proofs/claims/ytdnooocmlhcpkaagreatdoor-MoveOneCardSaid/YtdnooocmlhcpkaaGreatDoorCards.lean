/-
  DERIVED. GIVEN WITH THE SEED: THE CARDS: each row of YtdnooocmlhcpkaaGreatDoorRows.lean that lists a variable, with what it lists TIED to the program's text (the seventh form; the later family's looks); each row that meets fmt, with fmt's text TOLD by the authors' own Lean function (tested against real Go, not proved from fmt's source: count such statements apart). THE CARD IS WHAT COUNTS. Prove the row's statement (the work); the ties are given (YtdnooocmlhcpkaaGreatDoorTie.lean); close each card by the builder's one call (the guide's Derived/Test/ToyasCard.lean, 'card_holds'). Laid BY PROGRAM, IN A SANDBOX (cutbox-door.mjs). By AI agents, Wed Nov 11 2026. No macro, syntax, notation, axiom, sorry.
-/
import Derived.Test.YtdnooocmlhcpkaaGreatDoorRows
import GoSem.ClaimSeven
namespace Go.Proofs.YtdnooocmlhcpkaaGreatDoor
namespace Rows

/-- THE TIED CARD OF 'chequerlaw10.BookMade'. -/
def bookMadeCard : Claim7 := { stood := { row := bookMadeRow, standIns := [], harness := (true, "4e7b71f2f8ddbe7f9e4df8afab075c7e660a2e547169a1725060d1489898b47b"), looks := true }, kinds := [], alts := [], laidByText := true, laidKinds := [.data, .data, .data, .data, .sentinel, .sentinel, .data, .data, .data, .pinned], laidTests := true, laidLooks := .later }
def BookMadeCardSaid : Prop := Claim7.holds Tryz.pinned (.plain (OpenSpec.ofChange bookMadeSpec)) bookMadeCard

/-- THE TIED CARD OF 'chequerlaw12.MoveAll'. -/
def moveAllCard : Claim7 := { stood := { row := moveAllRow, standIns := [], harness := (true, "4e7b71f2f8ddbe7f9e4df8afab075c7e660a2e547169a1725060d1489898b47b"), looks := true }, kinds := [], alts := [], laidByText := true, laidKinds := [.data, .data, .data, .data, .sentinel, .sentinel, .data, .data, .data, .pinned], laidTests := true, laidLooks := .later }
def MoveAllCardSaid : Prop := Claim7.holds Tryz.pinned (.plain (OpenSpec.ofChange moveAllSpec)) moveAllCard

/-- THE TIED CARD OF 'chequerlaw12.MoveMade'. -/
def moveMadeCard : Claim7 := { stood := { row := moveMadeRow, standIns := [], harness := (true, "4e7b71f2f8ddbe7f9e4df8afab075c7e660a2e547169a1725060d1489898b47b"), looks := true }, kinds := [], alts := [], laidByText := true, laidKinds := [.data, .data, .data, .data, .sentinel, .sentinel, .data, .data, .data, .pinned], laidTests := true, laidLooks := .later }
def MoveMadeCardSaid : Prop := Claim7.holds Tryz.pinned (.plain (OpenSpec.ofChange moveMadeSpec)) moveMadeCard

/-- THE TIED CARD OF 'chequerlaw12.MoveStays'. -/
def moveStaysCard : Claim7 := { stood := { row := moveStaysRow, standIns := [], harness := (true, "4e7b71f2f8ddbe7f9e4df8afab075c7e660a2e547169a1725060d1489898b47b"), looks := true }, kinds := [], alts := [], laidByText := true, laidKinds := [.data, .data, .data, .data, .sentinel, .sentinel, .data, .data, .data, .pinned], laidTests := true, laidLooks := .later }
def MoveStaysCardSaid : Prop := Claim7.holds Tryz.pinned (.plain (OpenSpec.ofChange moveStaysSpec)) moveStaysCard

/-- THE TIED CARD OF 'chequerlaw12.MoveOne'. -/
def moveOneCard : Claim7 := { stood := { row := moveOneRow, standIns := [], harness := (true, "4e7b71f2f8ddbe7f9e4df8afab075c7e660a2e547169a1725060d1489898b47b"), looks := true }, kinds := [], alts := [], laidByText := true, laidKinds := [.data, .data, .data, .data, .sentinel, .sentinel, .data, .data, .data, .pinned], laidTests := true, laidLooks := .later }
def MoveOneCardSaid : Prop := Claim7.holds Tryz.pinned (.plain (OpenSpec.ofChange moveOneSpec)) moveOneCard

/-- THE TIED CARD OF 'chequerlaw12.MoveTwice'. -/
def moveTwiceCard : Claim7 := { stood := { row := moveTwiceRow, standIns := [], harness := (true, "4e7b71f2f8ddbe7f9e4df8afab075c7e660a2e547169a1725060d1489898b47b"), looks := true }, kinds := [], alts := [], laidByText := true, laidKinds := [.data, .data, .data, .data, .sentinel, .sentinel, .data, .data, .data, .pinned], laidTests := true, laidLooks := .later }
def MoveTwiceCardSaid : Prop := Claim7.holds Tryz.pinned (.plain (OpenSpec.ofChange moveTwiceSpec)) moveTwiceCard

/-- THE SECOND FORM's CARD OF 'chequerlaw10.BookMade'. -/
def bookMadeUptoCard : Claim7 := { stood := { row := bookMadeUptoRow, standIns := [], harness := (true, "4e7b71f2f8ddbe7f9e4df8afab075c7e660a2e547169a1725060d1489898b47b"), looks := true }, kinds := [], alts := [], laidByText := true, laidKinds := [.data, .data, .data, .data, .sentinel, .sentinel, .data, .data, .data, .pinned], laidTests := true, laidLooks := .later }
def BookMadeUptoCardSaid : Prop := Claim7.holds Tryz.pinned (.plain (OpenSpec.upto bookMadeSpec)) bookMadeUptoCard

/-- THE SECOND FORM's CARD OF 'chequerlaw12.MoveAll'. -/
def moveAllUptoCard : Claim7 := { stood := { row := moveAllUptoRow, standIns := [], harness := (true, "4e7b71f2f8ddbe7f9e4df8afab075c7e660a2e547169a1725060d1489898b47b"), looks := true }, kinds := [], alts := [], laidByText := true, laidKinds := [.data, .data, .data, .data, .sentinel, .sentinel, .data, .data, .data, .pinned], laidTests := true, laidLooks := .later }
def MoveAllUptoCardSaid : Prop := Claim7.holds Tryz.pinned (.plain (OpenSpec.upto moveAllSpec)) moveAllUptoCard

/-- THE SECOND FORM's CARD OF 'chequerlaw12.MoveMade'. -/
def moveMadeUptoCard : Claim7 := { stood := { row := moveMadeUptoRow, standIns := [], harness := (true, "4e7b71f2f8ddbe7f9e4df8afab075c7e660a2e547169a1725060d1489898b47b"), looks := true }, kinds := [], alts := [], laidByText := true, laidKinds := [.data, .data, .data, .data, .sentinel, .sentinel, .data, .data, .data, .pinned], laidTests := true, laidLooks := .later }
def MoveMadeUptoCardSaid : Prop := Claim7.holds Tryz.pinned (.plain (OpenSpec.upto moveMadeSpec)) moveMadeUptoCard

/-- THE SECOND FORM's CARD OF 'chequerlaw12.MoveStays'. -/
def moveStaysUptoCard : Claim7 := { stood := { row := moveStaysUptoRow, standIns := [], harness := (true, "4e7b71f2f8ddbe7f9e4df8afab075c7e660a2e547169a1725060d1489898b47b"), looks := true }, kinds := [], alts := [], laidByText := true, laidKinds := [.data, .data, .data, .data, .sentinel, .sentinel, .data, .data, .data, .pinned], laidTests := true, laidLooks := .later }
def MoveStaysUptoCardSaid : Prop := Claim7.holds Tryz.pinned (.plain (OpenSpec.upto moveStaysSpec)) moveStaysUptoCard

/-- THE SECOND FORM's CARD OF 'chequerlaw12.MoveOne'. -/
def moveOneUptoCard : Claim7 := { stood := { row := moveOneUptoRow, standIns := [], harness := (true, "4e7b71f2f8ddbe7f9e4df8afab075c7e660a2e547169a1725060d1489898b47b"), looks := true }, kinds := [], alts := [], laidByText := true, laidKinds := [.data, .data, .data, .data, .sentinel, .sentinel, .data, .data, .data, .pinned], laidTests := true, laidLooks := .later }
def MoveOneUptoCardSaid : Prop := Claim7.holds Tryz.pinned (.plain (OpenSpec.upto moveOneSpec)) moveOneUptoCard

/-- THE SECOND FORM's CARD OF 'chequerlaw12.MoveTwice'. -/
def moveTwiceUptoCard : Claim7 := { stood := { row := moveTwiceUptoRow, standIns := [], harness := (true, "4e7b71f2f8ddbe7f9e4df8afab075c7e660a2e547169a1725060d1489898b47b"), looks := true }, kinds := [], alts := [], laidByText := true, laidKinds := [.data, .data, .data, .data, .sentinel, .sentinel, .data, .data, .data, .pinned], laidTests := true, laidLooks := .later }
def MoveTwiceUptoCardSaid : Prop := Claim7.holds Tryz.pinned (.plain (OpenSpec.upto moveTwiceSpec)) moveTwiceUptoCard
end Rows
end Go.Proofs.YtdnooocmlhcpkaaGreatDoor
