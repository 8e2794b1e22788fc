/-
  DERIVED. GIVEN WITH THE SEED: THE CARDS: each row of YtdphoaabaajonaaGreatDoorRows.lean that lists a variable, with what it lists TIED to the program's text (the seventh form; the later family's looks); each row that meets fmt, with fmt's text TOLD by the authors' own Lean function (tested against real Go, not proved from fmt's source: count such statements apart). THE CARD IS WHAT COUNTS. Prove the row's statement (the work); the ties are given (YtdphoaabaajonaaGreatDoorTie.lean); close each card by the builder's one call (the guide's Derived/Test/ToyasCard.lean, 'card_holds'). Laid BY PROGRAM, IN A SANDBOX (cutbox-door.mjs). By AI agents, Wed Nov 11 2026. No macro, syntax, notation, axiom, sorry.
-/
import Derived.Test.YtdphoaabaajonaaGreatDoorRows
import GoSem.ClaimSeven
namespace Go.Proofs.YtdphoaabaajonaaGreatDoor
namespace Rows

/-- THE TIED CARD OF 'chequerlaw10.BookMade'. -/
def bookMadeCard : Claim7 := { stood := { row := bookMadeRow, standIns := [], harness := (true, "0ce1c944720176f87619fae3d42ecac1e04993e8a4db4e2a92ae01952bd9b433"), looks := true }, kinds := [], alts := [], laidByText := true, laidKinds := [.data, .data, .data, .data, .sentinel, .sentinel, .data, .data, .data, .pinned], laidTests := true, laidLooks := .later }
def BookMadeCardSaid : Prop := Claim7.holds Tryz.pinned (.plain (OpenSpec.ofChange bookMadeSpec)) bookMadeCard

/-- THE TIED CARD OF 'chequerlaw10.BookOne'. -/
def bookOneCard : Claim7 := { stood := { row := bookOneRow, standIns := [], harness := (true, "0ce1c944720176f87619fae3d42ecac1e04993e8a4db4e2a92ae01952bd9b433"), looks := true }, kinds := [], alts := [], laidByText := true, laidKinds := [.data, .data, .data, .data, .sentinel, .sentinel, .data, .data, .data, .pinned], laidTests := true, laidLooks := .later }
def BookOneCardSaid : Prop := Claim7.holds Tryz.pinned (.plain (OpenSpec.ofChange bookOneSpec)) bookOneCard

/-- THE TIED CARD OF 'chequerlaw10.BookApart'. -/
def bookApartCard : Claim7 := { stood := { row := bookApartRow, standIns := [], harness := (true, "0ce1c944720176f87619fae3d42ecac1e04993e8a4db4e2a92ae01952bd9b433"), looks := true }, kinds := [], alts := [], laidByText := true, laidKinds := [.data, .data, .data, .data, .sentinel, .sentinel, .data, .data, .data, .pinned], laidTests := true, laidLooks := .later }
def BookApartCardSaid : Prop := Claim7.holds Tryz.pinned (.plain (OpenSpec.ofChange bookApartSpec)) bookApartCard

/-- THE SECOND FORM's CARD OF 'chequerlaw10.BookMade'. -/
def bookMadeUptoCard : Claim7 := { stood := { row := bookMadeUptoRow, standIns := [], harness := (true, "0ce1c944720176f87619fae3d42ecac1e04993e8a4db4e2a92ae01952bd9b433"), looks := true }, kinds := [], alts := [], laidByText := true, laidKinds := [.data, .data, .data, .data, .sentinel, .sentinel, .data, .data, .data, .pinned], laidTests := true, laidLooks := .later }
def BookMadeUptoCardSaid : Prop := Claim7.holds Tryz.pinned (.plain (OpenSpec.upto bookMadeSpec)) bookMadeUptoCard

/-- THE SECOND FORM's CARD OF 'chequerlaw10.BookOne'. -/
def bookOneUptoCard : Claim7 := { stood := { row := bookOneUptoRow, standIns := [], harness := (true, "0ce1c944720176f87619fae3d42ecac1e04993e8a4db4e2a92ae01952bd9b433"), looks := true }, kinds := [], alts := [], laidByText := true, laidKinds := [.data, .data, .data, .data, .sentinel, .sentinel, .data, .data, .data, .pinned], laidTests := true, laidLooks := .later }
def BookOneUptoCardSaid : Prop := Claim7.holds Tryz.pinned (.plain (OpenSpec.upto bookOneSpec)) bookOneUptoCard

/-- THE SECOND FORM's CARD OF 'chequerlaw10.BookApart'. -/
def bookApartUptoCard : Claim7 := { stood := { row := bookApartUptoRow, standIns := [], harness := (true, "0ce1c944720176f87619fae3d42ecac1e04993e8a4db4e2a92ae01952bd9b433"), looks := true }, kinds := [], alts := [], laidByText := true, laidKinds := [.data, .data, .data, .data, .sentinel, .sentinel, .data, .data, .data, .pinned], laidTests := true, laidLooks := .later }
def BookApartUptoCardSaid : Prop := Claim7.holds Tryz.pinned (.plain (OpenSpec.upto bookApartSpec)) bookApartUptoCard
end Rows
end Go.Proofs.YtdphoaabaajonaaGreatDoor
