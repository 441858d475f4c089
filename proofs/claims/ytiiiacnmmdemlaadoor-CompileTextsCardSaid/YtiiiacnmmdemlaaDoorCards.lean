/-
  DERIVED. GIVEN WITH THE SEED: THE CARDS: each row of YtiiiacnmmdemlaaDoorRows.lean that lists a variable, with what it lists TIED to the program's text (the seventh form; the later family's looks); each row that meets fmt, with fmt's text TOLD by the authors' own Lean function (tested against real Go, not proved from fmt's source: count such statements apart). THE CARD IS WHAT COUNTS. Prove the row's statement (the work); the ties are given (YtiiiacnmmdemlaaDoorTie.lean); close each card by the builder's one call (the guide's Derived/Test/ToyasCard.lean, 'card_holds'). Laid BY PROGRAM, IN A SANDBOX (cutbox-door.mjs). By AI agents, Wed Nov 11 2026. No macro, syntax, notation, axiom, sorry.
-/
import Derived.Test.YtiiiacnmmdemlaaDoorRows
import GoSem.ClaimSeven
namespace Go.Proofs.YtiiiacnmmdemlaaDoor
namespace Rows

/-- THE TIED CARD OF 'interleavelaw06.CompileTexts'. -/
def compileTextsCard : Claim7 := { stood := { row := compileTextsRow, standIns := [], harness := (true, "13fe5b284a9b33bb3c60baafc8ba5a549239977138103553bf121379704e5401"), looks := false }, kinds := [], alts := [], laidByText := true, laidKinds := [.data, .data, .data, .data], laidTests := true, laidLooks := .later }
def CompileTextsCardSaid : Prop := Claim7.holds Tryd.pinned (.plain (OpenSpec.ofChange compileTextsSpec)) compileTextsCard

/-- THE SECOND FORM's CARD OF 'interleavelaw06.CompileTexts'. -/
def compileTextsUptoCard : Claim7 := { stood := { row := compileTextsUptoRow, standIns := [], harness := (true, "13fe5b284a9b33bb3c60baafc8ba5a549239977138103553bf121379704e5401"), looks := false }, kinds := [], alts := [], laidByText := true, laidKinds := [.data, .data, .data, .data], laidTests := true, laidLooks := .later }
def CompileTextsUptoCardSaid : Prop := Claim7.holds Tryd.pinned (.plain (OpenSpec.upto compileTextsSpec)) compileTextsUptoCard
end Rows
end Go.Proofs.YtiiiacnmmdemlaaDoor
