/-
  The contract of keywordStatement of package parse.
-/
import Derived.Test.YteekcepbogndlaaGreatDoorPstA
namespace Go.Proofs.YteekcepbogndlaaGreatDoor
open Go.RowKit
open Par

namespace Par
open Tok (T Bs)
/-- The method that reads what follows a statement's word. -/
def fnOf (k : Nat) : Value :=
  if k = 2 then .func (.func 172) #[] #[] else if k = 3 then .func (.func 173) #[] #[]
  else if k = 4 ∨ k = 5 ∨ k = 6 then .func (.func 174) #[] #[] else if k = 7 ∨ k = 8 then .func (.func 175) #[] #[]
  else if k = 14 then .func (.func 177) #[] #[] else if k = 15 then .func (.func 178) #[] #[]
  else if k = 0 then .nilFunc else .func (.func 176) #[] #[]
end Par

set_option maxHeartbeats 2000000 in
set_option maxRecDepth 100000 in
theorem keywordStatement_any (s : ByteArray) (w : World) : Calls Tryz.prog 160 #[.string s] w fun e w' => e = .returned (.tuple #[.int .i64 (stmtKind s.data.toList), fnOf (stmtKind s.data.toList)]) ∧ w = w' := by
  go_enter Tryz.func160, Tryz.ntmps160
  go_wp2
  all_goals
    go_ret2
    refine ⟨?_, rfl⟩
    rw [← Lib.toList_data]
    simp_all [stmtKind, fnOf]
end Go.Proofs.YteekcepbogndlaaGreatDoor
