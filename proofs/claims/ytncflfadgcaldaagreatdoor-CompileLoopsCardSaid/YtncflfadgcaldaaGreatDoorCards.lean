/-
  DERIVED. GIVEN WITH THE SEED: THE CARDS: each row of YtncflfadgcaldaaGreatDoorRows.lean that lists a variable, with what it lists TIED to the program's text (the seventh form; the later family's looks); each row that meets fmt, with fmt's text TOLD by the authors' own Lean function (tested against real Go, not proved from fmt's source: count such statements apart). THE CARD IS WHAT COUNTS. Prove the row's statement (the work); the ties are given (YtncflfadgcaldaaGreatDoorTie.lean); close each card by the builder's one call (the guide's Derived/Test/ToyasCard.lean, 'card_holds'). Laid BY PROGRAM, IN A SANDBOX (cutbox-door.mjs). By AI agents, Wed Nov 11 2026. No macro, syntax, notation, axiom, sorry.
-/
import Derived.Test.YtncflfadgcaldaaGreatDoorRows
import GoSem.ClaimSeven
namespace Go.Proofs.YtncflfadgcaldaaGreatDoor
namespace Rows

/-- THE TIED CARD OF 'interleavelaw06.CompileLoops'. -/
def compileLoopsCard : Claim7 := { stood := { row := compileLoopsRow, standIns := [], harness := (true, "5705ad865a77c6b8ed7deeb4db0e8e1566c3f8225d24d2782a08a3cdf3fd01b0"), looks := true }, kinds := [], alts := [], laidByText := true, laidKinds := [.data, .data, .data, .sentinel, .sentinel, .data, .data], laidTests := true, laidLooks := .later }
def CompileLoopsCardSaid : Prop := Claim7.holds Tryz.pinned (.plain (OpenSpec.ofChange compileLoopsSpec)) compileLoopsCard

/-- THE SECOND FORM's CARD OF 'interleavelaw06.CompileLoops'. -/
def compileLoopsUptoCard : Claim7 := { stood := { row := compileLoopsUptoRow, standIns := [], harness := (true, "5705ad865a77c6b8ed7deeb4db0e8e1566c3f8225d24d2782a08a3cdf3fd01b0"), looks := true }, kinds := [], alts := [], laidByText := true, laidKinds := [.data, .data, .data, .sentinel, .sentinel, .data, .data], laidTests := true, laidLooks := .later }
def CompileLoopsUptoCardSaid : Prop := Claim7.holds Tryz.pinned (.plain (OpenSpec.upto compileLoopsSpec)) compileLoopsUptoCard
end Rows
end Go.Proofs.YtncflfadgcaldaaGreatDoor
