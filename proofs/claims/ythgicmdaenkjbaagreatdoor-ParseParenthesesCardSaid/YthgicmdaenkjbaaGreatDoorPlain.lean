/-
  Blocks of which no byte is shared with a string: their addresses can be compared. Trees that lie in such blocks.
-/
import Derived.Test.YthgicmdaenkjbaaGreatDoorParMem
import Derived.Test.YthgicmdaenkjbaaGreatDoorMapP
namespace Go.Proofs.YthgicmdaenkjbaaGreatDoor
open Go.RowKit
open Par

namespace Par
open Tok (T Bs)
/-- Block g holds cells, and none of them is frozen. -/
def PlainAt (w : World) (g : Nat) : Prop := ∃ cs t, w.heap[g]? = some (.cells cs t)
theorem PlainAt.of_block {w w' : World} {g : Nat} (h : PlainAt w g) (k : w'.heap[g]? = w.heap[g]?) : PlainAt w' g := by
  obtain ⟨cs, t, hg⟩ := h
  exact ⟨cs, t, k.trans hg⟩
theorem PlainAt.lt {w : World} {g : Nat} (h : PlainAt w g) : g < w.heap.size := by
  obtain ⟨cs, t, hg⟩ := h
  exact (Array.getElem?_eq_some_iff.1 hg).1
theorem PlainAt.below {w w' : World} {g : Nat} (h : PlainAt w g) (b : Below w.heap.size w w') : PlainAt w' g := h.of_block (b.block g h.lt)
theorem PlainAt.kept {P : Nat} {w w' : World} {g : Nat} (h : PlainAt w g) (b : Kept P w w') (hg : g ≠ P) : PlainAt w' g := h.of_block (b.block g h.lt hg)
theorem plain_new {w : World} {n : Nat} {cs : Array Value} {t : TypeId} (hn : n = w.heap.size) : PlainAt (w.alloc (.cells cs t)) n := by
  subst hn
  exact ⟨cs, t, (MapKept.heap_alloc w _).1⟩
theorem PlainAt.frozen {w : World} {g : Nat} (h : PlainAt w g) (o : Nat) : w.frozen? ⟨g, o, none⟩ = false := by
  obtain ⟨cs, t, hg⟩ := h
  simp [World.frozen?, hg]
/-- Addresses in such blocks can be compared. -/
theorem same_plain {P : Program} {w : World} {a b : Addr} (ha : PlainAt w a.block) (hb : PlainAt w b.block) : (sameAddr a b).run P w = .ok (decide (b = a)) w := by
  obtain ⟨cs, t, ha⟩ := ha
  obtain ⟨ds, u, hb⟩ := hb
  by_cases h : a = b
  · subst h
    rw [run_sameAddr_same _ a]
    simp
  · rw [run_sameAddr_other _ h ha hb, decide_eq_false (fun e => h e.symm)]
/-- New blocks from n on that can be compared. -/
def PF (n : Nat) (w : World) : Nat → Prop := fun g => n ≤ g ∧ PlainAt w g
theorem RdE.pbelow {w w' : World} {n : Nat} {e : E} {v : Value} (h : RdE w (PF n w) e v) (b : Below w.heap.size w w') : RdE w' (PF n w') e v :=
  RdE.turn (fun _ _ _ hk hc => ⟨(b.cell (block_lt_of_cell hc)).trans hc, hk.1, hk.2.below b⟩) e v h
theorem RdE.pkept {P : Nat} {w w' : World} {n : Nat} {e : E} {v : Value} (h : RdE w (PF n w) e v) (k : Kept P w w') (hS : ∀ g, n ≤ g → g ≠ P) : RdE w' (PF n w') e v :=
  RdE.turn (fun b _ _ hk hc => ⟨(k.cell (g := b) (block_lt_of_cell hc) (hS b hk.1)).trans hc, hk.1, hk.2.kept k (hS b hk.1)⟩) e v h
theorem RdE.pweak {w : World} {m n : Nat} {e : E} {v : Value} (h : RdE w (PF n w) e v) (hm : m ≤ n) : RdE w (PF m w) e v :=
  RdE.turn (fun _ _ _ hk hc => ⟨hc, Nat.le_trans hm hk.1, hk.2⟩) e v h
end Par
end Go.Proofs.YthgicmdaenkjbaaGreatDoor
