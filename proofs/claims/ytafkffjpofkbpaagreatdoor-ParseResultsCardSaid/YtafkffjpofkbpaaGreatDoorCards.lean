/-
  DERIVED. GIVEN WITH THE SEED: THE CARDS: each row of YtafkffjpofkbpaaGreatDoorRows.lean that lists a variable, with what it lists TIED to the program's text (the seventh form; the later family's looks); each row that meets fmt, with fmt's text TOLD by the authors' own Lean function (tested against real Go, not proved from fmt's source: count such statements apart). THE CARD IS WHAT COUNTS. Prove the row's statement (the work); the ties are given (YtafkffjpofkbpaaGreatDoorTie.lean); close each card by the builder's one call (the guide's Derived/Test/ToyasCard.lean, 'card_holds'). Laid BY PROGRAM, IN A SANDBOX (cutbox-door.mjs). By AI agents, Wed Nov 11 2026. No macro, syntax, notation, axiom, sorry.
-/
import Derived.Test.YtafkffjpofkbpaaGreatDoorRows
import GoSem.ClaimSeven
namespace Go.Proofs.YtafkffjpofkbpaaGreatDoor
namespace Rows

/-- THE TIED CARD OF 'interleavelaw02.ParseReads'. -/
def parseReadsCard : Claim7 := { stood := { row := parseReadsRow, standIns := [], harness := (true, "5210ebfca2aaaeb5d0d5010cb76fef998d0735df1208ff9f6f84cbe1df165b4f"), looks := true }, kinds := [], alts := [], laidByText := true, laidKinds := [.data, .data, .data, .sentinel, .sentinel, .data], laidTests := true, laidLooks := .later }
def ParseReadsCardSaid : Prop := Claim7.holds Tryz.pinned (.plain (OpenSpec.ofChange parseReadsSpec)) parseReadsCard

/-- THE TIED CARD OF 'interleavelaw02.ParseResults'. -/
def parseResultsCard : Claim7 := { stood := { row := parseResultsRow, standIns := [], harness := (true, "5210ebfca2aaaeb5d0d5010cb76fef998d0735df1208ff9f6f84cbe1df165b4f"), looks := true }, kinds := [], alts := [], laidByText := true, laidKinds := [.data, .data, .data, .sentinel, .sentinel, .data], laidTests := true, laidLooks := .later }
def ParseResultsCardSaid : Prop := Claim7.holds Tryz.pinned (.plain (OpenSpec.ofChange parseResultsSpec)) parseResultsCard

/-- THE TIED CARD OF 'interleavelaw03.FormatRoundTrip'. -/
def formatRoundTripCard : Claim7 := { stood := { row := formatRoundTripRow, standIns := [], harness := (true, "5210ebfca2aaaeb5d0d5010cb76fef998d0735df1208ff9f6f84cbe1df165b4f"), looks := true }, kinds := [], alts := [], laidByText := true, laidKinds := [.data, .data, .data, .sentinel, .sentinel, .data, .data, .data], laidTests := true, laidLooks := .later }
def FormatRoundTripCardSaid : Prop := Claim7.holds Tryz.pinned (.plain (OpenSpec.ofChange formatRoundTripSpec)) formatRoundTripCard

/-- THE SECOND FORM's CARD OF 'interleavelaw02.ParseReads'. -/
def parseReadsUptoCard : Claim7 := { stood := { row := parseReadsUptoRow, standIns := [], harness := (true, "5210ebfca2aaaeb5d0d5010cb76fef998d0735df1208ff9f6f84cbe1df165b4f"), looks := true }, kinds := [], alts := [], laidByText := true, laidKinds := [.data, .data, .data, .sentinel, .sentinel, .data], laidTests := true, laidLooks := .later }
def ParseReadsUptoCardSaid : Prop := Claim7.holds Tryz.pinned (.plain (OpenSpec.upto parseReadsSpec)) parseReadsUptoCard

/-- THE SECOND FORM's CARD OF 'interleavelaw02.ParseResults'. -/
def parseResultsUptoCard : Claim7 := { stood := { row := parseResultsUptoRow, standIns := [], harness := (true, "5210ebfca2aaaeb5d0d5010cb76fef998d0735df1208ff9f6f84cbe1df165b4f"), looks := true }, kinds := [], alts := [], laidByText := true, laidKinds := [.data, .data, .data, .sentinel, .sentinel, .data], laidTests := true, laidLooks := .later }
def ParseResultsUptoCardSaid : Prop := Claim7.holds Tryz.pinned (.plain (OpenSpec.upto parseResultsSpec)) parseResultsUptoCard

/-- THE SECOND FORM's CARD OF 'interleavelaw03.FormatRoundTrip'. -/
def formatRoundTripUptoCard : Claim7 := { stood := { row := formatRoundTripUptoRow, standIns := [], harness := (true, "5210ebfca2aaaeb5d0d5010cb76fef998d0735df1208ff9f6f84cbe1df165b4f"), looks := true }, kinds := [], alts := [], laidByText := true, laidKinds := [.data, .data, .data, .sentinel, .sentinel, .data, .data, .data], laidTests := true, laidLooks := .later }
def FormatRoundTripUptoCardSaid : Prop := Claim7.holds Tryz.pinned (.plain (OpenSpec.upto formatRoundTripSpec)) formatRoundTripUptoCard
end Rows
end Go.Proofs.YtafkffjpofkbpaaGreatDoor
