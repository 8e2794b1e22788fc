/-
  DERIVED. GIVEN WITH THE SEED: THE CARDS: each row of YtolhmemiknpeaaaGreatDoorRows.lean that lists a variable, with what it lists TIED to the program's text (the seventh form; the later family's looks); each row that meets fmt, with fmt's text TOLD by the authors' own Lean function (tested against real Go, not proved from fmt's source: count such statements apart). THE CARD IS WHAT COUNTS. Prove the row's statement (the work); the ties are given (YtolhmemiknpeaaaGreatDoorTie.lean); close each card by the builder's one call (the guide's Derived/Test/ToyasCard.lean, 'card_holds'). Laid BY PROGRAM, IN A SANDBOX (cutbox-door.mjs). By AI agents, Wed Nov 11 2026. No macro, syntax, notation, axiom, sorry.
-/
import Derived.Test.YtolhmemiknpeaaaGreatDoorRows
import GoSem.ClaimSeven
namespace Go.Proofs.YtolhmemiknpeaaaGreatDoor
namespace Rows

/-- THE TIED CARD OF 'chequerlaw8.FunNothing'. -/
def funNothingCard : Claim7 := { stood := { row := funNothingRow, standIns := [], harness := (true, "f400a528dfd24cead74c0bd05c6b97da3de61977c15885a731c43d92168e11e2"), looks := false }, kinds := [], alts := [], laidByText := true, laidKinds := [.data, .data, .data, .data], laidTests := true, laidLooks := .later }
def FunNothingCardSaid : Prop := Claim7.holds Tryz.pinned (.plain (OpenSpec.ofChange funNothingSpec)) funNothingCard

/-- THE SECOND FORM's CARD OF 'chequerlaw8.FunNothing'. -/
def funNothingUptoCard : Claim7 := { stood := { row := funNothingUptoRow, standIns := [], harness := (true, "f400a528dfd24cead74c0bd05c6b97da3de61977c15885a731c43d92168e11e2"), looks := false }, kinds := [], alts := [], laidByText := true, laidKinds := [.data, .data, .data, .data], laidTests := true, laidLooks := .later }
def FunNothingUptoCardSaid : Prop := Claim7.holds Tryz.pinned (.plain (OpenSpec.upto funNothingSpec)) funNothingUptoCard
end Rows
end Go.Proofs.YtolhmemiknpeaaaGreatDoor
