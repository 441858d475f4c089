/-
  DERIVED. GIVEN WITH THE SEED: THE CARDS: each row of YteekcepbogndlaaGreatDoorRows.lean that lists a variable, with what it lists TIED to the program's text (the seventh form; the later family's looks); each row that meets fmt, with fmt's text TOLD by the authors' own Lean function (tested against real Go, not proved from fmt's source: count such statements apart). THE CARD IS WHAT COUNTS. Prove the row's statement (the work); the ties are given (YteekcepbogndlaaGreatDoorTie.lean); close each card by the builder's one call (the guide's Derived/Test/ToyasCard.lean, 'card_holds'). Laid BY PROGRAM, IN A SANDBOX (cutbox-door.mjs). By AI agents, Wed Nov 11 2026. No macro, syntax, notation, axiom, sorry.
-/
import Derived.Test.YteekcepbogndlaaGreatDoorRows
import GoSem.ClaimSeven
namespace Go.Proofs.YteekcepbogndlaaGreatDoor
namespace Rows

/-- THE TIED CARD OF 'interleavelaw02.ParseReads'. -/
def parseReadsCard : Claim7 := { stood := { row := parseReadsRow, standIns := [], harness := (true, "d874d4320dc4816d40f7b42759ccbee3b639a04602562ecc0f5df457c762f36f"), looks := true }, kinds := [], alts := [], laidByText := true, laidKinds := [.data, .data, .data, .sentinel, .sentinel, .data], laidTests := true, laidLooks := .later }
def ParseReadsCardSaid : Prop := Claim7.holds Tryz.pinned (.plain (OpenSpec.ofChange parseReadsSpec)) parseReadsCard

/-- THE TIED CARD OF 'interleavelaw02.ParseExprReads'. -/
def parseExprReadsCard : Claim7 := { stood := { row := parseExprReadsRow, standIns := [], harness := (true, "d874d4320dc4816d40f7b42759ccbee3b639a04602562ecc0f5df457c762f36f"), looks := true }, kinds := [], alts := [], laidByText := true, laidKinds := [.data, .data, .data, .sentinel, .sentinel, .data], laidTests := true, laidLooks := .later }
def ParseExprReadsCardSaid : Prop := Claim7.holds Tryz.pinned (.plain (OpenSpec.ofChange parseExprReadsSpec)) parseExprReadsCard

/-- THE TIED CARD OF 'interleavelaw02.ParseSpoilt'. -/
def parseSpoiltCard : Claim7 := { stood := { row := parseSpoiltRow, standIns := [], harness := (true, "d874d4320dc4816d40f7b42759ccbee3b639a04602562ecc0f5df457c762f36f"), looks := true }, kinds := [], alts := [], laidByText := true, laidKinds := [.data, .data, .data, .sentinel, .sentinel, .data], laidTests := true, laidLooks := .later }
def ParseSpoiltCardSaid : Prop := Claim7.holds Tryz.pinned (.plain (OpenSpec.ofChange parseSpoiltSpec)) parseSpoiltCard

/-- THE TIED CARD OF 'interleavelaw02.ParseExprSpoilt'. -/
def parseExprSpoiltCard : Claim7 := { stood := { row := parseExprSpoiltRow, standIns := [], harness := (true, "d874d4320dc4816d40f7b42759ccbee3b639a04602562ecc0f5df457c762f36f"), looks := true }, kinds := [], alts := [], laidByText := true, laidKinds := [.data, .data, .data, .sentinel, .sentinel, .data], laidTests := true, laidLooks := .later }
def ParseExprSpoiltCardSaid : Prop := Claim7.holds Tryz.pinned (.plain (OpenSpec.ofChange parseExprSpoiltSpec)) parseExprSpoiltCard

/-- THE TIED CARD OF 'interleavelaw02.ParseShapesNear'. -/
def parseShapesNearCard : Claim7 := { stood := { row := parseShapesNearRow, standIns := [], harness := (true, "d874d4320dc4816d40f7b42759ccbee3b639a04602562ecc0f5df457c762f36f"), looks := true }, kinds := [], alts := [], laidByText := true, laidKinds := [.data, .data, .data, .sentinel, .sentinel, .data], laidTests := true, laidLooks := .later }
def ParseShapesNearCardSaid : Prop := Claim7.holds Tryz.pinned (.plain (OpenSpec.ofChange parseShapesNearSpec)) parseShapesNearCard

/-- THE TIED CARD OF 'interleavelaw02.ParseShapes'. -/
def parseShapesCard : Claim7 := { stood := { row := parseShapesRow, standIns := [], harness := (true, "d874d4320dc4816d40f7b42759ccbee3b639a04602562ecc0f5df457c762f36f"), looks := true }, kinds := [], alts := [], laidByText := true, laidKinds := [.data, .data, .data, .sentinel, .sentinel, .data], laidTests := true, laidLooks := .later }
def ParseShapesCardSaid : Prop := Claim7.holds Tryz.pinned (.plain (OpenSpec.ofChange parseShapesSpec)) parseShapesCard

/-- THE TIED CARD OF 'interleavelaw02.ParseShapesExpr'. -/
def parseShapesExprCard : Claim7 := { stood := { row := parseShapesExprRow, standIns := [], harness := (true, "d874d4320dc4816d40f7b42759ccbee3b639a04602562ecc0f5df457c762f36f"), looks := true }, kinds := [], alts := [], laidByText := true, laidKinds := [.data, .data, .data, .sentinel, .sentinel, .data], laidTests := true, laidLooks := .later }
def ParseShapesExprCardSaid : Prop := Claim7.holds Tryz.pinned (.plain (OpenSpec.ofChange parseShapesExprSpec)) parseShapesExprCard

/-- THE TIED CARD OF 'interleavelaw02.ParseResults'. -/
def parseResultsCard : Claim7 := { stood := { row := parseResultsRow, standIns := [], harness := (true, "d874d4320dc4816d40f7b42759ccbee3b639a04602562ecc0f5df457c762f36f"), looks := true }, kinds := [], alts := [], laidByText := true, laidKinds := [.data, .data, .data, .sentinel, .sentinel, .data], laidTests := true, laidLooks := .later }
def ParseResultsCardSaid : Prop := Claim7.holds Tryz.pinned (.plain (OpenSpec.ofChange parseResultsSpec)) parseResultsCard

/-- THE TIED CARD OF 'interleavelaw02.ParseTexts'. -/
def parseTextsCard : Claim7 := { stood := { row := parseTextsRow, standIns := [], harness := (true, "d874d4320dc4816d40f7b42759ccbee3b639a04602562ecc0f5df457c762f36f"), looks := true }, kinds := [], alts := [], laidByText := true, laidKinds := [.data, .data, .data, .sentinel, .sentinel], laidTests := true, laidLooks := .later }
def ParseTextsCardSaid : Prop := Claim7.holds Tryz.pinned (.plain (OpenSpec.ofChange parseTextsSpec)) parseTextsCard

/-- THE TIED CARD OF 'interleavelaw02.ParseParentheses'. -/
def parseParenthesesCard : Claim7 := { stood := { row := parseParenthesesRow, standIns := [], harness := (true, "d874d4320dc4816d40f7b42759ccbee3b639a04602562ecc0f5df457c762f36f"), looks := true }, kinds := [], alts := [], laidByText := true, laidKinds := [.data, .data, .data, .sentinel, .sentinel, .data], laidTests := true, laidLooks := .later }
def ParseParenthesesCardSaid : Prop := Claim7.holds Tryz.pinned (.plain (OpenSpec.ofChange parseParenthesesSpec)) parseParenthesesCard

/-- THE TIED CARD OF 'interleavelaw02.ParseComparisons'. -/
def parseComparisonsCard : Claim7 := { stood := { row := parseComparisonsRow, standIns := [], harness := (true, "d874d4320dc4816d40f7b42759ccbee3b639a04602562ecc0f5df457c762f36f"), looks := true }, kinds := [], alts := [], laidByText := true, laidKinds := [.data, .data, .data, .sentinel, .sentinel, .data], laidTests := true, laidLooks := .later }
def ParseComparisonsCardSaid : Prop := Claim7.holds Tryz.pinned (.plain (OpenSpec.ofChange parseComparisonsSpec)) parseComparisonsCard

/-- THE SECOND FORM's CARD OF 'interleavelaw02.ParseReads'. -/
def parseReadsUptoCard : Claim7 := { stood := { row := parseReadsUptoRow, standIns := [], harness := (true, "d874d4320dc4816d40f7b42759ccbee3b639a04602562ecc0f5df457c762f36f"), looks := true }, kinds := [], alts := [], laidByText := true, laidKinds := [.data, .data, .data, .sentinel, .sentinel, .data], laidTests := true, laidLooks := .later }
def ParseReadsUptoCardSaid : Prop := Claim7.holds Tryz.pinned (.plain (OpenSpec.upto parseReadsSpec)) parseReadsUptoCard

/-- THE SECOND FORM's CARD OF 'interleavelaw02.ParseExprReads'. -/
def parseExprReadsUptoCard : Claim7 := { stood := { row := parseExprReadsUptoRow, standIns := [], harness := (true, "d874d4320dc4816d40f7b42759ccbee3b639a04602562ecc0f5df457c762f36f"), looks := true }, kinds := [], alts := [], laidByText := true, laidKinds := [.data, .data, .data, .sentinel, .sentinel, .data], laidTests := true, laidLooks := .later }
def ParseExprReadsUptoCardSaid : Prop := Claim7.holds Tryz.pinned (.plain (OpenSpec.upto parseExprReadsSpec)) parseExprReadsUptoCard

/-- THE SECOND FORM's CARD OF 'interleavelaw02.ParseSpoilt'. -/
def parseSpoiltUptoCard : Claim7 := { stood := { row := parseSpoiltUptoRow, standIns := [], harness := (true, "d874d4320dc4816d40f7b42759ccbee3b639a04602562ecc0f5df457c762f36f"), looks := true }, kinds := [], alts := [], laidByText := true, laidKinds := [.data, .data, .data, .sentinel, .sentinel, .data], laidTests := true, laidLooks := .later }
def ParseSpoiltUptoCardSaid : Prop := Claim7.holds Tryz.pinned (.plain (OpenSpec.upto parseSpoiltSpec)) parseSpoiltUptoCard

/-- THE SECOND FORM's CARD OF 'interleavelaw02.ParseExprSpoilt'. -/
def parseExprSpoiltUptoCard : Claim7 := { stood := { row := parseExprSpoiltUptoRow, standIns := [], harness := (true, "d874d4320dc4816d40f7b42759ccbee3b639a04602562ecc0f5df457c762f36f"), looks := true }, kinds := [], alts := [], laidByText := true, laidKinds := [.data, .data, .data, .sentinel, .sentinel, .data], laidTests := true, laidLooks := .later }
def ParseExprSpoiltUptoCardSaid : Prop := Claim7.holds Tryz.pinned (.plain (OpenSpec.upto parseExprSpoiltSpec)) parseExprSpoiltUptoCard

/-- THE SECOND FORM's CARD OF 'interleavelaw02.ParseShapesNear'. -/
def parseShapesNearUptoCard : Claim7 := { stood := { row := parseShapesNearUptoRow, standIns := [], harness := (true, "d874d4320dc4816d40f7b42759ccbee3b639a04602562ecc0f5df457c762f36f"), looks := true }, kinds := [], alts := [], laidByText := true, laidKinds := [.data, .data, .data, .sentinel, .sentinel, .data], laidTests := true, laidLooks := .later }
def ParseShapesNearUptoCardSaid : Prop := Claim7.holds Tryz.pinned (.plain (OpenSpec.upto parseShapesNearSpec)) parseShapesNearUptoCard

/-- THE SECOND FORM's CARD OF 'interleavelaw02.ParseShapes'. -/
def parseShapesUptoCard : Claim7 := { stood := { row := parseShapesUptoRow, standIns := [], harness := (true, "d874d4320dc4816d40f7b42759ccbee3b639a04602562ecc0f5df457c762f36f"), looks := true }, kinds := [], alts := [], laidByText := true, laidKinds := [.data, .data, .data, .sentinel, .sentinel, .data], laidTests := true, laidLooks := .later }
def ParseShapesUptoCardSaid : Prop := Claim7.holds Tryz.pinned (.plain (OpenSpec.upto parseShapesSpec)) parseShapesUptoCard

/-- THE SECOND FORM's CARD OF 'interleavelaw02.ParseShapesExpr'. -/
def parseShapesExprUptoCard : Claim7 := { stood := { row := parseShapesExprUptoRow, standIns := [], harness := (true, "d874d4320dc4816d40f7b42759ccbee3b639a04602562ecc0f5df457c762f36f"), looks := true }, kinds := [], alts := [], laidByText := true, laidKinds := [.data, .data, .data, .sentinel, .sentinel, .data], laidTests := true, laidLooks := .later }
def ParseShapesExprUptoCardSaid : Prop := Claim7.holds Tryz.pinned (.plain (OpenSpec.upto parseShapesExprSpec)) parseShapesExprUptoCard

/-- THE SECOND FORM's CARD OF 'interleavelaw02.ParseResults'. -/
def parseResultsUptoCard : Claim7 := { stood := { row := parseResultsUptoRow, standIns := [], harness := (true, "d874d4320dc4816d40f7b42759ccbee3b639a04602562ecc0f5df457c762f36f"), looks := true }, kinds := [], alts := [], laidByText := true, laidKinds := [.data, .data, .data, .sentinel, .sentinel, .data], laidTests := true, laidLooks := .later }
def ParseResultsUptoCardSaid : Prop := Claim7.holds Tryz.pinned (.plain (OpenSpec.upto parseResultsSpec)) parseResultsUptoCard

/-- THE SECOND FORM's CARD OF 'interleavelaw02.ParseTexts'. -/
def parseTextsUptoCard : Claim7 := { stood := { row := parseTextsUptoRow, standIns := [], harness := (true, "d874d4320dc4816d40f7b42759ccbee3b639a04602562ecc0f5df457c762f36f"), looks := true }, kinds := [], alts := [], laidByText := true, laidKinds := [.data, .data, .data, .sentinel, .sentinel], laidTests := true, laidLooks := .later }
def ParseTextsUptoCardSaid : Prop := Claim7.holds Tryz.pinned (.plain (OpenSpec.upto parseTextsSpec)) parseTextsUptoCard

/-- THE SECOND FORM's CARD OF 'interleavelaw02.ParseParentheses'. -/
def parseParenthesesUptoCard : Claim7 := { stood := { row := parseParenthesesUptoRow, standIns := [], harness := (true, "d874d4320dc4816d40f7b42759ccbee3b639a04602562ecc0f5df457c762f36f"), looks := true }, kinds := [], alts := [], laidByText := true, laidKinds := [.data, .data, .data, .sentinel, .sentinel, .data], laidTests := true, laidLooks := .later }
def ParseParenthesesUptoCardSaid : Prop := Claim7.holds Tryz.pinned (.plain (OpenSpec.upto parseParenthesesSpec)) parseParenthesesUptoCard

/-- THE SECOND FORM's CARD OF 'interleavelaw02.ParseComparisons'. -/
def parseComparisonsUptoCard : Claim7 := { stood := { row := parseComparisonsUptoRow, standIns := [], harness := (true, "d874d4320dc4816d40f7b42759ccbee3b639a04602562ecc0f5df457c762f36f"), looks := true }, kinds := [], alts := [], laidByText := true, laidKinds := [.data, .data, .data, .sentinel, .sentinel, .data], laidTests := true, laidLooks := .later }
def ParseComparisonsUptoCardSaid : Prop := Claim7.holds Tryz.pinned (.plain (OpenSpec.upto parseComparisonsSpec)) parseComparisonsUptoCard
end Rows
end Go.Proofs.YteekcepbogndlaaGreatDoor
