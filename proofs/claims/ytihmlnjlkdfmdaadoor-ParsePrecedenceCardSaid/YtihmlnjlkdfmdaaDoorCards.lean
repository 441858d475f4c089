/-
  DERIVED. GIVEN WITH THE SEED: THE CARDS: each row of YtihmlnjlkdfmdaaDoorRows.lean that lists a variable, with what it lists TIED to the program's text (the seventh form; the later family's looks); each row that meets fmt, with fmt's text TOLD by the authors' own Lean function (tested against real Go, not proved from fmt's source: count such statements apart). THE CARD IS WHAT COUNTS. Prove the row's statement (the work); the ties are given (YtihmlnjlkdfmdaaDoorTie.lean); close each card by the builder's one call (the guide's Derived/Test/ToyasCard.lean, 'card_holds'). Laid BY PROGRAM, IN A SANDBOX (cutbox-door.mjs). By AI agents, Wed Nov 11 2026. No macro, syntax, notation, axiom, sorry.
-/
import Derived.Test.YtihmlnjlkdfmdaaDoorRows
import GoSem.ClaimSeven
namespace Go.Proofs.YtihmlnjlkdfmdaaDoor
namespace Rows

/-- THE TIED CARD OF 'interleavelaw02.ParsePrecedence'. -/
def parsePrecedenceCard : Claim7 := { stood := { row := parsePrecedenceRow, standIns := [], harness := (true, "80dedd17571f9ed76a06fa20a8cf0f46d079a12a3582b9198016963a53aa9b4c"), looks := true }, kinds := [], alts := [], laidByText := true, laidKinds := [.data, .data, .data, .sentinel, .sentinel], laidTests := true, laidLooks := .later }
def ParsePrecedenceCardSaid : Prop := Claim7.holds Tryd.pinned (.plain (OpenSpec.ofChange parsePrecedenceSpec)) parsePrecedenceCard

/-- THE SECOND FORM's CARD OF 'interleavelaw02.ParsePrecedence'. -/
def parsePrecedenceUptoCard : Claim7 := { stood := { row := parsePrecedenceUptoRow, standIns := [], harness := (true, "80dedd17571f9ed76a06fa20a8cf0f46d079a12a3582b9198016963a53aa9b4c"), looks := true }, kinds := [], alts := [], laidByText := true, laidKinds := [.data, .data, .data, .sentinel, .sentinel], laidTests := true, laidLooks := .later }
def ParsePrecedenceUptoCardSaid : Prop := Claim7.holds Tryd.pinned (.plain (OpenSpec.upto parsePrecedenceSpec)) parsePrecedenceUptoCard
end Rows
end Go.Proofs.YtihmlnjlkdfmdaaDoor
