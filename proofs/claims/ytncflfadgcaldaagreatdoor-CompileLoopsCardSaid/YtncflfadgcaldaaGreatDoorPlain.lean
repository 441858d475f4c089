/-
  Blocks of which no byte is shared with a string: their addresses can be compared. Trees that lie in such blocks.
-/
import Derived.Test.YtncflfadgcaldaaGreatDoorParMem
import Derived.Test.YtncflfadgcaldaaGreatDoorMapP
namespace Go.Proofs.YtncflfadgcaldaaGreatDoor
open Go.RowKit
open Par

namespace Par
open Tok (T Bs)
/-- Addresses in such blocks can be compared. -/
theorem same_plain {P : Program} {w : World} {a b : Addr} (ha : PlainAt w a.block) (hb : PlainAt w b.block) : (sameAddr a b).run P w = .ok (decide (b = a)) w := by
  obtain ⟨cs, t, ha⟩ := ha
  obtain ⟨ds, u, hb⟩ := hb
  by_cases h : a = b
  · subst h
    rw [run_sameAddr_same _ a]
    simp
  · rw [run_sameAddr_other _ h ha hb, decide_eq_false (fun e => h e.symm)]
end Par
end Go.Proofs.YtncflfadgcaldaaGreatDoor
