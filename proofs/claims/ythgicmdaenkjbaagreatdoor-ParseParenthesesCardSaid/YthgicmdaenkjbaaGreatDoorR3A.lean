/-
  The reference's table of signs (interleaveref03.sign).
-/
import Derived.Test.YthgicmdaenkjbaaGreatDoorParE
namespace Go.Proofs.YthgicmdaenkjbaaGreatDoor
open Go.RowKit
open Par

namespace Par
open Tok (T Bs)
def sgnT : List (Bs × Nat) := [([45], 6), ([33], 6), ([43], 4), ([45], 4), ([42], 5), ([47], 5), ([37], 5), ([61, 61], 3), ([33, 61], 3), ([60], 3), ([60, 61], 3), ([62], 3), ([62, 61], 3), ([38, 38], 2), ([124, 124], 1)]
/-- The sign of an operator, and its level. -/
def sgn (op : Int) : Bs × Nat := if 4 ≤ op then (sgnT[(op - 4).toNat]?).getD ([], 7) else ([], 7)
end Par

set_option maxHeartbeats 4000000 in
set_option maxRecDepth 100000 in
theorem sign_any (w : World) (op : Int) (h1 : 0 ≤ op) (h2 : op ≤ 1000) :
    Calls Tryz.prog 52 #[.int .i64 op] w fun e w' => e = .returned (.tuple #[.string ⟨(sgn op).1.toArray⟩, .int .i64 (sgn op).2]) ∧ Below w.heap.size w w' := by
  by_cases h : 4 ≤ op ∧ op < 19
  · obtain ⟨ha, hb⟩ := h
    rcases (show op = 4 ∨ op = 5 ∨ op = 6 ∨ op = 7 ∨ op = 8 ∨ op = 9 ∨ op = 10 ∨ op = 11 ∨ op = 12 ∨ op = 13 ∨ op = 14 ∨ op = 15 ∨ op = 16 ∨ op = 17 ∨ op = 18 by omega) with rfl | rfl | rfl | rfl | rfl | rfl | rfl | rfl | rfl | rfl | rfl | rfl | rfl | rfl | rfl
    all_goals
      clear h1 h2 ha hb
      go_enter Tryz.func52, Tryz.ntmps52
      go_wp2_with fail
      go_quiet (fail)
      go_wp2_with fail
      refine bodyPost_ret (v := .tuple #[.string ⟨_⟩, .int .i64 _]) ?_ rfl ⟨rfl, below_drewN (((Below.refl _ _).alloc (Nat.le_refl _) _).alloc (by simp) _) _⟩
      simp [results, Tryz.results52, go_sem, sgn, sgnT]
  · have hs : sgn op = ([], 7) := by
      unfold sgn
      split
      · rw [List.getElem?_eq_none (by show sgnT.length ≤ _; have : sgnT.length = 15 := rfl; omega)]
        rfl
      · rfl
    rw [hs]
    have hw : IntKind.i64.wrap (op - 4) = op - 4 := IntWalk.i64_in _ (by omega)
    by_cases h4 : op < 4
    all_goals
      first | have hn : op - 4 < 0 := by omega
            | have hn : ¬ op - 4 < 0 := by omega
      first | have hg : (15 : Int) ≤ op - 4 := by omega
            | skip
      clear hs h
      go_enter Tryz.func52, Tryz.ntmps52
      go_wp2_with fail
      refine bodyPost_ret (v := .tuple #[.string ⟨#[]⟩, .int .i64 7]) (by simp [results, Tryz.results52, go_sem]) rfl ⟨rfl, ((Below.refl _ _).alloc (Nat.le_refl _) _).alloc (by simp) _⟩
end Go.Proofs.YthgicmdaenkjbaaGreatDoor
