/-
  The 36 texts of ParsePrecedence and their expressions; the contract of the law's table of signs.
-/
import Derived.Test.YtihmlnjlkdfmdaaDoorParL
import Derived.Test.YtihmlnjlkdfmdaaDoorParM
namespace Go.Proofs.YtihmlnjlkdfmdaaDoor
open Go.RowKit
open Par

namespace Par
open Tok (T Bs)
/-- Sign, operator, level of a number below 6. -/
def sg : Nat → Bs × Int × Int
  | 0 => ([124, 124], 18, 1)
  | 1 => ([38, 38], 17, 2)
  | 2 => ([43], 6, 4)
  | 3 => ([45], 7, 4)
  | 4 => ([42], 8, 5)
  | _ => ([37], 10, 5)
def nameE (c : UInt8) : E := .mk 2 0 ⟨#[c]⟩ []
/-- The text a s b t c. -/
def precText (s t : Bs) : Bs := [97, 32] ++ s ++ [32, 98, 32] ++ t ++ [32, 99]
def precWant (op oq : Int) (up : Bool) : E := if up then binary op (nameE 97) (binary oq (nameE 98) (nameE 99)) else binary oq (binary op (nameE 97) (nameE 98)) (nameE 99)
theorem prec_out (a b : Nat) (ha : a < 6) (hb : b < 6) : exprOut (precText (sg a).1 (sg b).1) = (precWant (sg a).2.1 (sg b).2.1 (decide ((sg a).2.2 < (sg b).2.2)), 0, 0) := by
  rcases (show a = 0 ∨ a = 1 ∨ a = 2 ∨ a = 3 ∨ a = 4 ∨ a = 5 by omega) with rfl | rfl | rfl | rfl | rfl | rfl <;>
    rcases (show b = 0 ∨ b = 1 ∨ b = 2 ∨ b = 3 ∨ b = 4 ∨ b = 5 by omega) with rfl | rfl | rfl | rfl | rfl | rfl <;> rfl
theorem prec_ok (op oq : Int) (up : Bool) : (precWant op oq up).ok ∧ (precWant op oq up).ht ≤ 10 := by
  cases up <;> simp [precWant, binary, nameE, E.ok, okL, E.ht, htL]
end Par

set_option maxHeartbeats 1000000 in
theorem sign_any (n : Nat) (w : World) (hn : n ≤ 255) : Calls Tryd.prog 4 #[.int .u8 n] w fun e w' =>
    e = .returned (.tuple #[.string ⟨(sg (n % 6)).1.toArray⟩, .int .i64 (sg (n % 6)).2.1, .int .i64 (sg (n % 6)).2.2]) ∧ w = w' := by
  obtain ⟨r, hr⟩ : ∃ r, r = n % 6 := ⟨_, rfl⟩
  rw [← hr]
  have hr6 : r < 6 := by omega
  have h6 : ((n : Int) % 6) = r := by omega
  clear hr
  rcases (show r = 0 ∨ r = 1 ∨ r = 2 ∨ r = 3 ∨ r = 4 ∨ r = 5 by omega) with rfl | rfl | rfl | rfl | rfl | rfl
  all_goals
    go_enter Tryd.func4, Tryd.ntmps4
    go_wp2_with fail
    go_ret3
    exact ⟨rfl, rfl⟩
end Go.Proofs.YtihmlnjlkdfmdaaDoor
