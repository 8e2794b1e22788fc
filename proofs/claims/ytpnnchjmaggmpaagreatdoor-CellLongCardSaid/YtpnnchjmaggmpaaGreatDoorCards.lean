/-
  DERIVED. GIVEN WITH THE SEED: THE CARDS: each row of YtpnnchjmaggmpaaGreatDoorRows.lean that lists a variable, with what it lists TIED to the program's text (the seventh form; the later family's looks); each row that meets fmt, with fmt's text TOLD by the authors' own Lean function (tested against real Go, not proved from fmt's source: count such statements apart). THE CARD IS WHAT COUNTS. Prove the row's statement (the work); the ties are given (YtpnnchjmaggmpaaGreatDoorTie.lean); close each card by the builder's one call (the guide's Derived/Test/ToyasCard.lean, 'card_holds'). Laid BY PROGRAM, IN A SANDBOX (cutbox-door.mjs). By AI agents, Wed Nov 11 2026. No macro, syntax, notation, axiom, sorry.
-/
import Derived.Test.YtpnnchjmaggmpaaGreatDoorRows
import GoSem.ClaimSeven
namespace Go.Proofs.YtpnnchjmaggmpaaGreatDoor
namespace Rows

/-- THE TIED CARD OF 'chequerlaw6.ShowMade'. -/
def showMadeCard : Claim7 := { stood := { row := showMadeRow, standIns := [], harness := (true, "8342c21c940cf27b2c14a4fa168a8c565fe6902052ab86a3fbbf8efe4d8ca80b"), looks := true }, kinds := [], alts := [], laidByText := true, laidKinds := [.data, .data, .data, .data, .sentinel, .sentinel, .data, .data, .data, .pinned], laidTests := true, laidLooks := .later }
def ShowMadeCardSaid : Prop := Claim7.holds Tryz.pinned (.plain (OpenSpec.ofChange showMadeSpec)) showMadeCard

/-- THE TIED CARD OF 'chequerlaw6.ShowLeast'. -/
def showLeastCard : Claim7 := { stood := { row := showLeastRow, standIns := [], harness := (true, "8342c21c940cf27b2c14a4fa168a8c565fe6902052ab86a3fbbf8efe4d8ca80b"), looks := true }, kinds := [], alts := [], laidByText := true, laidKinds := [.data, .data, .data, .data, .sentinel, .sentinel, .data, .data, .data, .pinned], laidTests := true, laidLooks := .later }
def ShowLeastCardSaid : Prop := Claim7.holds Tryz.pinned (.plain (OpenSpec.ofChange showLeastSpec)) showLeastCard

/-- THE TIED CARD OF 'chequerlaw9.CellStays'. -/
def cellStaysCard : Claim7 := { stood := { row := cellStaysRow, standIns := [], harness := (true, "8342c21c940cf27b2c14a4fa168a8c565fe6902052ab86a3fbbf8efe4d8ca80b"), looks := true }, kinds := [], alts := [], laidByText := true, laidKinds := [.data, .data, .data, .data, .sentinel, .sentinel, .data, .data, .data, .pinned], laidTests := true, laidLooks := .later }
def CellStaysCardSaid : Prop := Claim7.holds Tryz.pinned (.plain (OpenSpec.ofChange cellStaysSpec)) cellStaysCard

/-- THE TIED CARD OF 'chequerlaw9.CellNumbers'. -/
def cellNumbersCard : Claim7 := { stood := { row := cellNumbersRow, standIns := [], harness := (true, "8342c21c940cf27b2c14a4fa168a8c565fe6902052ab86a3fbbf8efe4d8ca80b"), looks := true }, kinds := [], alts := [], laidByText := true, laidKinds := [.data, .data, .data, .data, .sentinel, .sentinel, .data, .data, .data, .pinned], laidTests := true, laidLooks := .later }
def CellNumbersCardSaid : Prop := Claim7.holds Tryz.pinned (.plain (OpenSpec.ofChange cellNumbersSpec)) cellNumbersCard

/-- THE TIED CARD OF 'chequerlaw9.CellTexts'. -/
def cellTextsCard : Claim7 := { stood := { row := cellTextsRow, standIns := [], harness := (true, "8342c21c940cf27b2c14a4fa168a8c565fe6902052ab86a3fbbf8efe4d8ca80b"), looks := true }, kinds := [], alts := [], laidByText := true, laidKinds := [.data, .data, .data, .data, .sentinel, .sentinel, .data, .data, .data, .pinned], laidTests := true, laidLooks := .later }
def CellTextsCardSaid : Prop := Claim7.holds Tryz.pinned (.plain (OpenSpec.ofChange cellTextsSpec)) cellTextsCard

/-- THE TIED CARD OF 'chequerlaw9.CellLong'. -/
def cellLongCard : Claim7 := { stood := { row := cellLongRow, standIns := [], harness := (true, "8342c21c940cf27b2c14a4fa168a8c565fe6902052ab86a3fbbf8efe4d8ca80b"), looks := true }, kinds := [], alts := [], laidByText := true, laidKinds := [.data, .data, .data, .data, .sentinel, .sentinel, .data, .data, .data, .pinned], laidTests := true, laidLooks := .later }
def CellLongCardSaid : Prop := Claim7.holds Tryz.pinned (.plain (OpenSpec.ofChange cellLongSpec)) cellLongCard

/-- THE SECOND FORM's CARD OF 'chequerlaw6.ShowMade'. -/
def showMadeUptoCard : Claim7 := { stood := { row := showMadeUptoRow, standIns := [], harness := (true, "8342c21c940cf27b2c14a4fa168a8c565fe6902052ab86a3fbbf8efe4d8ca80b"), looks := true }, kinds := [], alts := [], laidByText := true, laidKinds := [.data, .data, .data, .data, .sentinel, .sentinel, .data, .data, .data, .pinned], laidTests := true, laidLooks := .later }
def ShowMadeUptoCardSaid : Prop := Claim7.holds Tryz.pinned (.plain (OpenSpec.upto showMadeSpec)) showMadeUptoCard

/-- THE SECOND FORM's CARD OF 'chequerlaw6.ShowLeast'. -/
def showLeastUptoCard : Claim7 := { stood := { row := showLeastUptoRow, standIns := [], harness := (true, "8342c21c940cf27b2c14a4fa168a8c565fe6902052ab86a3fbbf8efe4d8ca80b"), looks := true }, kinds := [], alts := [], laidByText := true, laidKinds := [.data, .data, .data, .data, .sentinel, .sentinel, .data, .data, .data, .pinned], laidTests := true, laidLooks := .later }
def ShowLeastUptoCardSaid : Prop := Claim7.holds Tryz.pinned (.plain (OpenSpec.upto showLeastSpec)) showLeastUptoCard

/-- THE SECOND FORM's CARD OF 'chequerlaw9.CellStays'. -/
def cellStaysUptoCard : Claim7 := { stood := { row := cellStaysUptoRow, standIns := [], harness := (true, "8342c21c940cf27b2c14a4fa168a8c565fe6902052ab86a3fbbf8efe4d8ca80b"), looks := true }, kinds := [], alts := [], laidByText := true, laidKinds := [.data, .data, .data, .data, .sentinel, .sentinel, .data, .data, .data, .pinned], laidTests := true, laidLooks := .later }
def CellStaysUptoCardSaid : Prop := Claim7.holds Tryz.pinned (.plain (OpenSpec.upto cellStaysSpec)) cellStaysUptoCard

/-- THE SECOND FORM's CARD OF 'chequerlaw9.CellNumbers'. -/
def cellNumbersUptoCard : Claim7 := { stood := { row := cellNumbersUptoRow, standIns := [], harness := (true, "8342c21c940cf27b2c14a4fa168a8c565fe6902052ab86a3fbbf8efe4d8ca80b"), looks := true }, kinds := [], alts := [], laidByText := true, laidKinds := [.data, .data, .data, .data, .sentinel, .sentinel, .data, .data, .data, .pinned], laidTests := true, laidLooks := .later }
def CellNumbersUptoCardSaid : Prop := Claim7.holds Tryz.pinned (.plain (OpenSpec.upto cellNumbersSpec)) cellNumbersUptoCard

/-- THE SECOND FORM's CARD OF 'chequerlaw9.CellTexts'. -/
def cellTextsUptoCard : Claim7 := { stood := { row := cellTextsUptoRow, standIns := [], harness := (true, "8342c21c940cf27b2c14a4fa168a8c565fe6902052ab86a3fbbf8efe4d8ca80b"), looks := true }, kinds := [], alts := [], laidByText := true, laidKinds := [.data, .data, .data, .data, .sentinel, .sentinel, .data, .data, .data, .pinned], laidTests := true, laidLooks := .later }
def CellTextsUptoCardSaid : Prop := Claim7.holds Tryz.pinned (.plain (OpenSpec.upto cellTextsSpec)) cellTextsUptoCard

/-- THE SECOND FORM's CARD OF 'chequerlaw9.CellLong'. -/
def cellLongUptoCard : Claim7 := { stood := { row := cellLongUptoRow, standIns := [], harness := (true, "8342c21c940cf27b2c14a4fa168a8c565fe6902052ab86a3fbbf8efe4d8ca80b"), looks := true }, kinds := [], alts := [], laidByText := true, laidKinds := [.data, .data, .data, .data, .sentinel, .sentinel, .data, .data, .data, .pinned], laidTests := true, laidLooks := .later }
def CellLongUptoCardSaid : Prop := Claim7.holds Tryz.pinned (.plain (OpenSpec.upto cellLongSpec)) cellLongUptoCard
end Rows
end Go.Proofs.YtpnnchjmaggmpaaGreatDoor
