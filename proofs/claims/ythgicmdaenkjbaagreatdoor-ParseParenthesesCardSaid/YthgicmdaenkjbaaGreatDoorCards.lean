/-
  DERIVED. GIVEN WITH THE SEED: THE CARDS: each row of YthgicmdaenkjbaaGreatDoorRows.lean that lists a variable, with what it lists TIED to the program's text (the seventh form; the later family's looks); each row that meets fmt, with fmt's text TOLD by the authors' own Lean function (tested against real Go, not proved from fmt's source: count such statements apart). THE CARD IS WHAT COUNTS. Prove the row's statement (the work); the ties are given (YthgicmdaenkjbaaGreatDoorTie.lean); close each card by the builder's one call (the guide's Derived/Test/ToyasCard.lean, 'card_holds'). Laid BY PROGRAM, IN A SANDBOX (cutbox-door.mjs). By AI agents, Wed Nov 11 2026. No macro, syntax, notation, axiom, sorry.
-/
import Derived.Test.YthgicmdaenkjbaaGreatDoorRows
import GoSem.ClaimSeven
namespace Go.Proofs.YthgicmdaenkjbaaGreatDoor
namespace Rows

/-- THE TIED CARD OF 'interleavelaw02.ParseReads'. -/
def parseReadsCard : Claim7 := { stood := { row := parseReadsRow, standIns := [], harness := (true, "ef28f4b6da0643a0ad5322af7e05dbde13ca4b07acd0c67fe4f55f97d194be74"), looks := true }, kinds := [], alts := [], laidByText := true, laidKinds := [.data, .data, .data, .sentinel, .sentinel, .data], laidTests := true, laidLooks := .later }
def ParseReadsCardSaid : Prop := Claim7.holds Tryz.pinned (.plain (OpenSpec.ofChange parseReadsSpec)) parseReadsCard

/-- THE TIED CARD OF 'interleavelaw02.ParseSpoilt'. -/
def parseSpoiltCard : Claim7 := { stood := { row := parseSpoiltRow, standIns := [], harness := (true, "ef28f4b6da0643a0ad5322af7e05dbde13ca4b07acd0c67fe4f55f97d194be74"), looks := true }, kinds := [], alts := [], laidByText := true, laidKinds := [.data, .data, .data, .sentinel, .sentinel, .data], laidTests := true, laidLooks := .later }
def ParseSpoiltCardSaid : Prop := Claim7.holds Tryz.pinned (.plain (OpenSpec.ofChange parseSpoiltSpec)) parseSpoiltCard

/-- THE TIED CARD OF 'interleavelaw02.ParseExprSpoilt'. -/
def parseExprSpoiltCard : Claim7 := { stood := { row := parseExprSpoiltRow, standIns := [], harness := (true, "ef28f4b6da0643a0ad5322af7e05dbde13ca4b07acd0c67fe4f55f97d194be74"), looks := true }, kinds := [], alts := [], laidByText := true, laidKinds := [.data, .data, .data, .sentinel, .sentinel, .data], laidTests := true, laidLooks := .later }
def ParseExprSpoiltCardSaid : Prop := Claim7.holds Tryz.pinned (.plain (OpenSpec.ofChange parseExprSpoiltSpec)) parseExprSpoiltCard

/-- THE TIED CARD OF 'interleavelaw02.ParseShapesNear'. -/
def parseShapesNearCard : Claim7 := { stood := { row := parseShapesNearRow, standIns := [], harness := (true, "ef28f4b6da0643a0ad5322af7e05dbde13ca4b07acd0c67fe4f55f97d194be74"), looks := true }, kinds := [], alts := [], laidByText := true, laidKinds := [.data, .data, .data, .sentinel, .sentinel, .data], laidTests := true, laidLooks := .later }
def ParseShapesNearCardSaid : Prop := Claim7.holds Tryz.pinned (.plain (OpenSpec.ofChange parseShapesNearSpec)) parseShapesNearCard

/-- THE TIED CARD OF 'interleavelaw02.ParseResults'. -/
def parseResultsCard : Claim7 := { stood := { row := parseResultsRow, standIns := [], harness := (true, "ef28f4b6da0643a0ad5322af7e05dbde13ca4b07acd0c67fe4f55f97d194be74"), looks := true }, kinds := [], alts := [], laidByText := true, laidKinds := [.data, .data, .data, .sentinel, .sentinel, .data], laidTests := true, laidLooks := .later }
def ParseResultsCardSaid : Prop := Claim7.holds Tryz.pinned (.plain (OpenSpec.ofChange parseResultsSpec)) parseResultsCard

/-- THE TIED CARD OF 'interleavelaw02.ParseTexts'. -/
def parseTextsCard : Claim7 := { stood := { row := parseTextsRow, standIns := [], harness := (true, "ef28f4b6da0643a0ad5322af7e05dbde13ca4b07acd0c67fe4f55f97d194be74"), looks := true }, kinds := [], alts := [], laidByText := true, laidKinds := [.data, .data, .data, .sentinel, .sentinel], laidTests := true, laidLooks := .later }
def ParseTextsCardSaid : Prop := Claim7.holds Tryz.pinned (.plain (OpenSpec.ofChange parseTextsSpec)) parseTextsCard

/-- THE TIED CARD OF 'interleavelaw02.ParseParentheses'. -/
def parseParenthesesCard : Claim7 := { stood := { row := parseParenthesesRow, standIns := [], harness := (true, "ef28f4b6da0643a0ad5322af7e05dbde13ca4b07acd0c67fe4f55f97d194be74"), looks := true }, kinds := [], alts := [], laidByText := true, laidKinds := [.data, .data, .data, .sentinel, .sentinel, .data], laidTests := true, laidLooks := .later }
def ParseParenthesesCardSaid : Prop := Claim7.holds Tryz.pinned (.plain (OpenSpec.ofChange parseParenthesesSpec)) parseParenthesesCard

/-- THE TIED CARD OF 'interleavelaw04.CheckLoose'. -/
def checkLooseCard : Claim7 := { stood := { row := checkLooseRow, standIns := [], harness := (true, "ef28f4b6da0643a0ad5322af7e05dbde13ca4b07acd0c67fe4f55f97d194be74"), looks := true }, kinds := [], alts := [], laidByText := true, laidKinds := [.data], laidTests := true, laidLooks := .later }
def CheckLooseCardSaid : Prop := Claim7.holds Tryz.pinned (.plain (OpenSpec.ofChange checkLooseSpec)) checkLooseCard

/-- THE TIED CARD OF 'interleavelaw04.CheckNames'. -/
def checkNamesCard : Claim7 := { stood := { row := checkNamesRow, standIns := [], harness := (true, "ef28f4b6da0643a0ad5322af7e05dbde13ca4b07acd0c67fe4f55f97d194be74"), looks := true }, kinds := [], alts := [], laidByText := true, laidKinds := [.data, .data, .data, .sentinel, .sentinel, .data], laidTests := true, laidLooks := .later }
def CheckNamesCardSaid : Prop := Claim7.holds Tryz.pinned (.plain (OpenSpec.ofChange checkNamesSpec)) checkNamesCard

/-- THE TIED CARD OF 'interleavelaw04.CheckNesting'. -/
def checkNestingCard : Claim7 := { stood := { row := checkNestingRow, standIns := [], harness := (true, "ef28f4b6da0643a0ad5322af7e05dbde13ca4b07acd0c67fe4f55f97d194be74"), looks := true }, kinds := [], alts := [], laidByText := true, laidKinds := [.data, .data, .data, .sentinel, .sentinel, .data], laidTests := true, laidLooks := .later }
def CheckNestingCardSaid : Prop := Claim7.holds Tryz.pinned (.plain (OpenSpec.ofChange checkNestingSpec)) checkNestingCard

/-- THE TIED CARD OF 'interleavelaw04.CheckOnce'. -/
def checkOnceCard : Claim7 := { stood := { row := checkOnceRow, standIns := [], harness := (true, "ef28f4b6da0643a0ad5322af7e05dbde13ca4b07acd0c67fe4f55f97d194be74"), looks := true }, kinds := [], alts := [], laidByText := true, laidKinds := [.data, .data, .data, .sentinel, .sentinel, .data], laidTests := true, laidLooks := .later }
def CheckOnceCardSaid : Prop := Claim7.holds Tryz.pinned (.plain (OpenSpec.ofChange checkOnceSpec)) checkOnceCard

/-- THE TIED CARD OF 'interleavelaw04.CheckMade'. -/
def checkMadeCard : Claim7 := { stood := { row := checkMadeRow, standIns := [], harness := (true, "ef28f4b6da0643a0ad5322af7e05dbde13ca4b07acd0c67fe4f55f97d194be74"), looks := true }, kinds := [], alts := [], laidByText := true, laidKinds := [.data], laidTests := true, laidLooks := .later }
def CheckMadeCardSaid : Prop := Claim7.holds Tryz.pinned (.plain (OpenSpec.ofChange checkMadeSpec)) checkMadeCard

/-- THE SECOND FORM's CARD OF 'interleavelaw02.ParseReads'. -/
def parseReadsUptoCard : Claim7 := { stood := { row := parseReadsUptoRow, standIns := [], harness := (true, "ef28f4b6da0643a0ad5322af7e05dbde13ca4b07acd0c67fe4f55f97d194be74"), looks := true }, kinds := [], alts := [], laidByText := true, laidKinds := [.data, .data, .data, .sentinel, .sentinel, .data], laidTests := true, laidLooks := .later }
def ParseReadsUptoCardSaid : Prop := Claim7.holds Tryz.pinned (.plain (OpenSpec.upto parseReadsSpec)) parseReadsUptoCard

/-- THE SECOND FORM's CARD OF 'interleavelaw02.ParseSpoilt'. -/
def parseSpoiltUptoCard : Claim7 := { stood := { row := parseSpoiltUptoRow, standIns := [], harness := (true, "ef28f4b6da0643a0ad5322af7e05dbde13ca4b07acd0c67fe4f55f97d194be74"), looks := true }, kinds := [], alts := [], laidByText := true, laidKinds := [.data, .data, .data, .sentinel, .sentinel, .data], laidTests := true, laidLooks := .later }
def ParseSpoiltUptoCardSaid : Prop := Claim7.holds Tryz.pinned (.plain (OpenSpec.upto parseSpoiltSpec)) parseSpoiltUptoCard

/-- THE SECOND FORM's CARD OF 'interleavelaw02.ParseExprSpoilt'. -/
def parseExprSpoiltUptoCard : Claim7 := { stood := { row := parseExprSpoiltUptoRow, standIns := [], harness := (true, "ef28f4b6da0643a0ad5322af7e05dbde13ca4b07acd0c67fe4f55f97d194be74"), looks := true }, kinds := [], alts := [], laidByText := true, laidKinds := [.data, .data, .data, .sentinel, .sentinel, .data], laidTests := true, laidLooks := .later }
def ParseExprSpoiltUptoCardSaid : Prop := Claim7.holds Tryz.pinned (.plain (OpenSpec.upto parseExprSpoiltSpec)) parseExprSpoiltUptoCard

/-- THE SECOND FORM's CARD OF 'interleavelaw02.ParseShapesNear'. -/
def parseShapesNearUptoCard : Claim7 := { stood := { row := parseShapesNearUptoRow, standIns := [], harness := (true, "ef28f4b6da0643a0ad5322af7e05dbde13ca4b07acd0c67fe4f55f97d194be74"), looks := true }, kinds := [], alts := [], laidByText := true, laidKinds := [.data, .data, .data, .sentinel, .sentinel, .data], laidTests := true, laidLooks := .later }
def ParseShapesNearUptoCardSaid : Prop := Claim7.holds Tryz.pinned (.plain (OpenSpec.upto parseShapesNearSpec)) parseShapesNearUptoCard

/-- THE SECOND FORM's CARD OF 'interleavelaw02.ParseResults'. -/
def parseResultsUptoCard : Claim7 := { stood := { row := parseResultsUptoRow, standIns := [], harness := (true, "ef28f4b6da0643a0ad5322af7e05dbde13ca4b07acd0c67fe4f55f97d194be74"), looks := true }, kinds := [], alts := [], laidByText := true, laidKinds := [.data, .data, .data, .sentinel, .sentinel, .data], laidTests := true, laidLooks := .later }
def ParseResultsUptoCardSaid : Prop := Claim7.holds Tryz.pinned (.plain (OpenSpec.upto parseResultsSpec)) parseResultsUptoCard

/-- THE SECOND FORM's CARD OF 'interleavelaw02.ParseTexts'. -/
def parseTextsUptoCard : Claim7 := { stood := { row := parseTextsUptoRow, standIns := [], harness := (true, "ef28f4b6da0643a0ad5322af7e05dbde13ca4b07acd0c67fe4f55f97d194be74"), looks := true }, kinds := [], alts := [], laidByText := true, laidKinds := [.data, .data, .data, .sentinel, .sentinel], laidTests := true, laidLooks := .later }
def ParseTextsUptoCardSaid : Prop := Claim7.holds Tryz.pinned (.plain (OpenSpec.upto parseTextsSpec)) parseTextsUptoCard

/-- THE SECOND FORM's CARD OF 'interleavelaw02.ParseParentheses'. -/
def parseParenthesesUptoCard : Claim7 := { stood := { row := parseParenthesesUptoRow, standIns := [], harness := (true, "ef28f4b6da0643a0ad5322af7e05dbde13ca4b07acd0c67fe4f55f97d194be74"), looks := true }, kinds := [], alts := [], laidByText := true, laidKinds := [.data, .data, .data, .sentinel, .sentinel, .data], laidTests := true, laidLooks := .later }
def ParseParenthesesUptoCardSaid : Prop := Claim7.holds Tryz.pinned (.plain (OpenSpec.upto parseParenthesesSpec)) parseParenthesesUptoCard

/-- THE SECOND FORM's CARD OF 'interleavelaw04.CheckLoose'. -/
def checkLooseUptoCard : Claim7 := { stood := { row := checkLooseUptoRow, standIns := [], harness := (true, "ef28f4b6da0643a0ad5322af7e05dbde13ca4b07acd0c67fe4f55f97d194be74"), looks := true }, kinds := [], alts := [], laidByText := true, laidKinds := [.data], laidTests := true, laidLooks := .later }
def CheckLooseUptoCardSaid : Prop := Claim7.holds Tryz.pinned (.plain (OpenSpec.upto checkLooseSpec)) checkLooseUptoCard

/-- THE SECOND FORM's CARD OF 'interleavelaw04.CheckNames'. -/
def checkNamesUptoCard : Claim7 := { stood := { row := checkNamesUptoRow, standIns := [], harness := (true, "ef28f4b6da0643a0ad5322af7e05dbde13ca4b07acd0c67fe4f55f97d194be74"), looks := true }, kinds := [], alts := [], laidByText := true, laidKinds := [.data, .data, .data, .sentinel, .sentinel, .data], laidTests := true, laidLooks := .later }
def CheckNamesUptoCardSaid : Prop := Claim7.holds Tryz.pinned (.plain (OpenSpec.upto checkNamesSpec)) checkNamesUptoCard

/-- THE SECOND FORM's CARD OF 'interleavelaw04.CheckNesting'. -/
def checkNestingUptoCard : Claim7 := { stood := { row := checkNestingUptoRow, standIns := [], harness := (true, "ef28f4b6da0643a0ad5322af7e05dbde13ca4b07acd0c67fe4f55f97d194be74"), looks := true }, kinds := [], alts := [], laidByText := true, laidKinds := [.data, .data, .data, .sentinel, .sentinel, .data], laidTests := true, laidLooks := .later }
def CheckNestingUptoCardSaid : Prop := Claim7.holds Tryz.pinned (.plain (OpenSpec.upto checkNestingSpec)) checkNestingUptoCard

/-- THE SECOND FORM's CARD OF 'interleavelaw04.CheckOnce'. -/
def checkOnceUptoCard : Claim7 := { stood := { row := checkOnceUptoRow, standIns := [], harness := (true, "ef28f4b6da0643a0ad5322af7e05dbde13ca4b07acd0c67fe4f55f97d194be74"), looks := true }, kinds := [], alts := [], laidByText := true, laidKinds := [.data, .data, .data, .sentinel, .sentinel, .data], laidTests := true, laidLooks := .later }
def CheckOnceUptoCardSaid : Prop := Claim7.holds Tryz.pinned (.plain (OpenSpec.upto checkOnceSpec)) checkOnceUptoCard

/-- THE SECOND FORM's CARD OF 'interleavelaw04.CheckMade'. -/
def checkMadeUptoCard : Claim7 := { stood := { row := checkMadeUptoRow, standIns := [], harness := (true, "ef28f4b6da0643a0ad5322af7e05dbde13ca4b07acd0c67fe4f55f97d194be74"), looks := true }, kinds := [], alts := [], laidByText := true, laidKinds := [.data], laidTests := true, laidLooks := .later }
def CheckMadeUptoCardSaid : Prop := Claim7.holds Tryz.pinned (.plain (OpenSpec.upto checkMadeSpec)) checkMadeUptoCard
end Rows
end Go.Proofs.YthgicmdaenkjbaaGreatDoor
