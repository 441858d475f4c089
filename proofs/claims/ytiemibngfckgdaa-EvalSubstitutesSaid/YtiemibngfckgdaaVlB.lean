/-
  The operators' contracts with their results written out; numbers that wrap around; Index.
-/
import Derived.Test.YtiemibngfckgdaaVlA
import Derived.Lib.Hide
namespace Go.Proofs.Ytiemibngfckgdaa
open Go.RowKit
open Vl

namespace Vl
theorem bin_6 (a b : Int) : bin 6 a b = some (wrap64 (a + b)) := by simp [bin]
theorem bin_7 (a b : Int) : bin 7 a b = some (wrap64 (a - b)) := by simp [bin]
theorem bin_8 (a b : Int) : bin 8 a b = some (wrap64 (a * b)) := by simp [bin]
theorem bin_9 (a b : Int) : bin 9 a b = some (quo a b) := by simp [bin]
theorem bin_10 (a b : Int) : bin 10 a b = some (rmd a b) := by simp [bin]
theorem bin_11 (a b : Int) : bin 11 a b = some (tr (a == b)) := by simp [bin]
theorem bin_12 (a b : Int) : bin 12 a b = some (tr (a != b)) := by simp [bin]
theorem bin_13 (a b : Int) : bin 13 a b = some (tr (decide (a < b))) := by simp [bin]
theorem bin_14 (a b : Int) : bin 14 a b = some (tr (decide (a ≤ b))) := by simp [bin]
theorem bin_15 (a b : Int) : bin 15 a b = some (tr (decide (b < a))) := by simp [bin]
theorem bin_16 (a b : Int) : bin 16 a b = some (tr (decide (b ≤ a))) := by simp [bin]
theorem bin_17 (a b : Int) : bin 17 a b = some (tr (a != 0 && b != 0)) := by simp [bin]
theorem bin_18 (a b : Int) : bin 18 a b = some (tr (a != 0 || b != 0)) := by simp [bin]
theorem una_4 (a : Int) : una 4 a = some (wrap64 (-a)) := by simp [una]
theorem una_5 (a : Int) : una 5 a = some (tr (a == 0)) := by simp [una]
/-- What wraps around. -/
theorem wrap_is (x : Int) : ∃ k : Int, wrap64 x = x + k * 18446744073709551616 := by
  refine ⟨-((x + 9223372036854775808) / 18446744073709551616), ?_⟩
  unfold wrap64
  have := Int.emod_add_mul_ediv (x + 9223372036854775808) 18446744073709551616
  omega
theorem wrap_same {x y k : Int} (h : x = y + k * 18446744073709551616) : wrap64 x = wrap64 y := by
  unfold wrap64
  subst h
  rw [show y + k * 18446744073709551616 + 9223372036854775808 = y + 9223372036854775808 + k * 18446744073709551616 by omega, Int.add_mul_emod_self_right]
theorem wrap_in {x : Int} (h0 : -9223372036854775808 ≤ x) (h1 : x < 9223372036854775808) : wrap64 x = x := by
  unfold wrap64
  omega
theorem wrap_lo (x : Int) : -9223372036854775808 ≤ wrap64 x ∧ wrap64 x < 9223372036854775808 := by
  unfold wrap64
  omega
end Vl

theorem bin_at (w : World) (op a b : Int) (v : Int) (h : bin op a b = some v) : Calls Try.prog 18 #[.int .i64 op, .int .i64 a, .int .i64 b] w fun e w' => e = .returned (.tuple #[.int .i64 v, .bool true]) ∧ w' = w := by
  have := binary_any w op a b
  rw [h] at this
  exact this
theorem una_at (w : World) (op a : Int) (v : Int) (h : una op a = some v) : Calls Try.prog 19 #[.int .i64 op, .int .i64 a] w fun e w' => e = .returned (.tuple #[.int .i64 v, .bool true]) ∧ w' = w := by
  have := unary_any w op a
  rw [h] at this
  exact this
theorem bin_gen (w : World) (op a b : Int) (x : Option Int) (h : bin op a b = x) : Calls Try.prog 18 #[.int .i64 op, .int .i64 a, .int .i64 b] w fun e w' => e = .returned (.tuple #[.int .i64 (x.getD 0), .bool x.isSome]) ∧ w' = w := by
  subst h
  exact binary_any w op a b
theorem una_gen (w : World) (op a : Int) (x : Option Int) (h : una op a = x) : Calls Try.prog 19 #[.int .i64 op, .int .i64 a] w fun e w' => e = .returned (.tuple #[.int .i64 (x.getD 0), .bool x.isSome]) ∧ w' = w := by
  subst h
  exact unary_any w op a
theorem binR_gen (w : World) (op a b : Int) (x : Option Int) (h : bin op a b = x) : Calls Try.prog 22 #[.int .i64 op, .int .i64 a, .int .i64 b] w fun e w' => e = .returned (.tuple #[.int .i64 (x.getD 0), .bool x.isSome]) ∧ w' = w := by
  subst h
  exact binaryR_any w op a b
theorem unaR_gen (w : World) (op a : Int) (x : Option Int) (h : una op a = x) : Calls Try.prog 21 #[.int .i64 op, .int .i64 a] w fun e w' => e = .returned (.tuple #[.int .i64 (x.getD 0), .bool x.isSome]) ∧ w' = w := by
  subst h
  exact unaryR_any w op a
set_option maxRecDepth 100000 in
theorem awake_any (w : World) : Calls Try.prog 12 #[] w fun e w' => e = .returned (.bool true) ∧ w' = w := by
  go_enter Try.func12, Try.ntmps12
  go_wp2_with (go_at_call 18; refine (bin_at _ 6 2 3 5 (by simp [bin_6, wrap64])).mono ?_; rintro e w' ⟨rfl, rfl⟩)
  go_ret
  exact ⟨rfl, rfl⟩
end Go.Proofs.Ytiemibngfckgdaa
