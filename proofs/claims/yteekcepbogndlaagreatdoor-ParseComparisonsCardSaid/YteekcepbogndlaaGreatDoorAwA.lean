/-
  ShapedExpr at a number: what the laws' check of one fixed text calls.
-/
import Derived.Test.YteekcepbogndlaaGreatDoorMapP
import Derived.Test.YteekcepbogndlaaGreatDoorParD
import Derived.Test.YteekcepbogndlaaGreatDoorTokDn
import Derived.LoopN
import Derived.Deep.RegionWith
import Derived.Deep.AppendLies
namespace Go.Proofs.YteekcepbogndlaaGreatDoor
open Go.RowKit
open Par

set_option maxHeartbeats 1000000 in
theorem operands_num (w : World) : Calls Tryz.prog 127 #[.int .i64 1] w fun e w' => e = .returned (.int .i64 0) ∧ w' = w := by
  go_enter Tryz.func127, Tryz.ntmps127
  go_wp2
  go_ret
  exact ⟨rfl, rfl⟩

set_option maxHeartbeats 1000000 in
theorem fittingName_no (w : World) : Calls Tryz.prog 124 #[.string ⟨#[]⟩, .bool false] w fun e w' => e = .returned (.bool true) ∧ w' = w := by
  go_enter Tryz.func124, Tryz.ntmps124
  go_wp2_with fail
  go_ret
  exact ⟨rfl, rfl⟩

set_option maxHeartbeats 1000000 in
theorem fittingName_yes (s : ByteArray) (w : World) (hs : s.size ≤ maxLen) (hn : Tok.isName s.data.toList = true) :
    Calls Tryz.prog 124 #[.string s, .bool true] w fun e w' => e = .returned (.bool true) ∧ Below w.heap.size w w' := by
  have CI := Lib.hid (fun w => isName_any s w hs)
  rw [hn] at CI
  go_enter Tryz.func124, Tryz.ntmps124
  go_wp2_with (go_at_call 89; refine (CI.out _).mono ?_; rintro e w1 ⟨rfl, hb⟩)
  go_ret
  exact ⟨rfl, hb⟩

set_option maxHeartbeats 4000000 in
set_option maxRecDepth 100000 in
theorem fittingExpr_num (w : World) (g o : Nat) (n : Int) (a : Option Addr) (cap : Nat) (hn : 0 < n)
    (c0 : w.cell? ⟨g, o, none⟩ = some (.int .i64 1)) (c1 : w.cell? ⟨g, o + 1, none⟩ = some (.int .i64 n)) (c2 : w.cell? ⟨g, o + 2, none⟩ = some (.string ⟨#[]⟩)) (c3 : w.cell? ⟨g, o + 3, none⟩ = some (.slice a 0 cap)) :
    Calls Tryz.prog 95 #[.pointer (some ⟨g, o, none⟩)] w fun e w' => e = .returned (.bool true) ∧ Below w.heap.size w w' := by
  have CO := Lib.hid operands_num
  have CF := Lib.hid fittingName_no
  have hn0 : (n == 0) = false := by simp; omega
  go_enter Tryz.func95, Tryz.ntmps95
  go_wp2_with fail
  go_quiet (first
    | (go_at_call 127; exact Calls.quiet_of_same (operands_num _))
    | (go_at_call 124; exact Calls.quiet_of_same (fittingName_no _)))
  go_wp2_with fail
  go_ret
  exact ⟨rfl, below_drewN (Below.refl _ _) _⟩
end Go.Proofs.YteekcepbogndlaaGreatDoor
