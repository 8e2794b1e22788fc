/-
  DERIVED. GIVEN WITH THE SEED: THE CARDS: each row of YtolhmemiknpeaaaDoorRows.lean that lists a variable, with what it lists TIED to the program's text (the seventh form; the later family's looks); each row that meets fmt, with fmt's text TOLD by the authors' own Lean function (tested against real Go, not proved from fmt's source: count such statements apart). THE CARD IS WHAT COUNTS. Prove the row's statement (the work); the ties are given (YtolhmemiknpeaaaDoorTie.lean); close each card by the builder's one call (the guide's Derived/Test/ToyasCard.lean, 'card_holds'). Laid BY PROGRAM, IN A SANDBOX (cutbox-door.mjs). By AI agents, Wed Nov 11 2026. No macro, syntax, notation, axiom, sorry.
-/
import Derived.Test.YtolhmemiknpeaaaDoorRows
import GoSem.ClaimSeven
namespace Go.Proofs.YtolhmemiknpeaaaDoor
namespace Rows

/-- THE TIED CARD OF 'chequerlaw8.FunTexts'. -/
def funTextsCard : Claim7 := { stood := { row := funTextsRow, standIns := [], harness := (true, "f01a2424e4467ab22b424fd314d272f4a203b2a1138cb0387af9f26c1678bf1b"), looks := false }, kinds := [], alts := [], laidByText := true, laidKinds := [.data, .data, .data, .data], laidTests := true, laidLooks := .later }
def FunTextsCardSaid : Prop := Claim7.holds Tryd.pinned (.plain (OpenSpec.ofChange funTextsSpec)) funTextsCard

/-- THE SECOND FORM's CARD OF 'chequerlaw8.FunTexts'. -/
def funTextsUptoCard : Claim7 := { stood := { row := funTextsUptoRow, standIns := [], harness := (true, "f01a2424e4467ab22b424fd314d272f4a203b2a1138cb0387af9f26c1678bf1b"), looks := false }, kinds := [], alts := [], laidByText := true, laidKinds := [.data, .data, .data, .data], laidTests := true, laidLooks := .later }
def FunTextsUptoCardSaid : Prop := Claim7.holds Tryd.pinned (.plain (OpenSpec.upto funTextsSpec)) funTextsUptoCard
end Rows
end Go.Proofs.YtolhmemiknpeaaaDoor
