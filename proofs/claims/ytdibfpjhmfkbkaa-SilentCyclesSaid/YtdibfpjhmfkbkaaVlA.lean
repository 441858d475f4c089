/-
  The operators: what package eval and its reference return.
-/
import Derived.Test.YtdibfpjhmfkbkaaRows
import Derived.Test.YtdibfpjhmfkbkaaSlSpec
import Derived.WalkKit
import Derived.Below
import Derived.WalkSmall
namespace Go.Proofs.Ytdibfpjhmfkbkaa
open Go.RowKit
open Vl

set_option maxRecDepth 100000 in
theorem truth_any (w : World) (b : Bool) : Calls Try.prog 57 #[.bool b] w fun e w' => e = .returned (.int .i64 (tr b)) ∧ w' = w := by
  cases b
  all_goals
    go_enter Try.func57, Try.ntmps57
    go_wp2_with fail
    go_ret
    exact ⟨rfl, rfl⟩
set_option maxRecDepth 100000 in
theorem truthR_any (w : World) (b : Bool) : Calls Try.prog 49 #[.bool b] w fun e w' => e = .returned (.int .i64 (tr b)) ∧ w' = w := by
  cases b
  all_goals
    go_enter Try.func49, Try.ntmps49
    go_wp2_with fail
    go_ret
    exact ⟨rfl, rfl⟩
set_option maxRecDepth 100000 in
theorem quotient_any (w : World) (a b : Int) : Calls Try.prog 58 #[.int .i64 a, .int .i64 b] w fun e w' => e = .returned (.int .i64 (quo a b)) ∧ w' = w := by
  by_cases hb : b = 0
  · subst hb
    go_enter Try.func58, Try.ntmps58
    go_wp2_with fail
    go_ret
    exact ⟨rfl, rfl⟩
  · have hq : quo a b = wr64 (a.tdiv b) := by unfold quo; rw [if_neg hb]
    go_enter Try.func58, Try.ntmps58
    go_wp2_with fail
    go_ret
    exact ⟨by rw [hq]; simp [go_sem], rfl⟩
set_option maxRecDepth 100000 in
theorem remainder_any (w : World) (a b : Int) : Calls Try.prog 59 #[.int .i64 a, .int .i64 b] w fun e w' => e = .returned (.int .i64 (rmd a b)) ∧ w' = w := by
  by_cases hb : b = 0
  · subst hb
    go_enter Try.func59, Try.ntmps59
    go_wp2_with fail
    go_ret
    exact ⟨rfl, rfl⟩
  · have hq : rmd a b = a.tmod b := by unfold rmd; rw [if_neg hb]
    go_enter Try.func59, Try.ntmps59
    go_wp2_with fail
    go_ret
    exact ⟨by rw [hq]; simp [go_sem], rfl⟩
theorem una_cases (op : Int) : op = 4 ∨ op = 5 ∨ (¬ op = 4 ∧ ¬ op = 5) := by omega
theorem bin_cases (op : Int) : op = 6 ∨ op = 7 ∨ op = 8 ∨ op = 9 ∨ op = 10 ∨ op = 11 ∨ op = 12 ∨ op = 13 ∨ op = 14 ∨ op = 15 ∨ op = 16 ∨ op = 17 ∨ op = 18 ∨
    ((¬ op = 6 ∧ ¬ op = 7 ∧ ¬ op = 8 ∧ ¬ op = 9 ∧ ¬ op = 10 ∧ ¬ op = 11) ∧ ¬ op = 12 ∧ ¬ op = 13 ∧ ¬ op = 14 ∧ ¬ op = 15 ∧ ¬ op = 16 ∧ ¬ op = 17 ∧ ¬ op = 18) := by omega
set_option maxRecDepth 100000 in
theorem unary_any (w : World) (op a : Int) : Calls Try.prog 47 #[.int .i64 op, .int .i64 a] w fun e w' => e = .returned (res (una op a)) ∧ w' = w := by
  rcases una_cases op with rfl | rfl | ⟨h4, h5⟩
  · go_enter Try.func47, Try.ntmps47
    go_wp2_with fail
    (refine bodyPost_ret (v := res (una _ a)) ?_ rfl ⟨rfl, rfl⟩; simp [results, Try.results47, go_sem, una, res])
  · go_enter Try.func47, Try.ntmps47
    go_wp2_with (go_at_call 57; refine (truth_any _ _).mono ?_; rintro e w' ⟨rfl, rfl⟩)
    (refine bodyPost_ret (v := res (una _ a)) ?_ rfl ⟨rfl, rfl⟩; simp [results, Try.results47, go_sem, una, res])
  · go_enter Try.func47, Try.ntmps47
    go_wp2_with fail
    (refine bodyPost_ret (v := res (una _ a)) ?_ rfl ⟨rfl, rfl⟩; simp [results, Try.results47, go_sem, una, res, h4, h5])
set_option maxRecDepth 100000 in
theorem unaryR_any (w : World) (op a : Int) : Calls Try.prog 31 #[.int .i64 op, .int .i64 a] w fun e w' => e = .returned (res (una op a)) ∧ w' = w := by
  rcases una_cases op with rfl | rfl | ⟨h4, h5⟩
  · go_enter Try.func31, Try.ntmps31
    go_wp2_with fail
    (refine bodyPost_ret (v := res (una _ a)) ?_ rfl ⟨rfl, rfl⟩; simp [results, Try.results31, go_sem, una, res])
  · go_enter Try.func31, Try.ntmps31
    go_wp2_with (go_at_call 49; refine (truthR_any _ _).mono ?_; rintro e w' ⟨rfl, rfl⟩)
    (refine bodyPost_ret (v := res (una _ a)) ?_ rfl ⟨rfl, rfl⟩; simp [results, Try.results31, go_sem, una, res])
  · go_enter Try.func31, Try.ntmps31
    go_wp2_with fail
    (refine bodyPost_ret (v := res (una _ a)) ?_ rfl ⟨rfl, rfl⟩; simp [results, Try.results31, go_sem, una, res, h4, h5])
set_option maxHeartbeats 2000000 in
set_option maxRecDepth 100000 in
theorem binary_any (w : World) (op a b : Int) : Calls Try.prog 48 #[.int .i64 op, .int .i64 a, .int .i64 b] w fun e w' => e = .returned (res (bin op a b)) ∧ w' = w := by
  rcases bin_cases op with rfl | rfl | rfl | rfl | rfl | rfl | rfl | rfl | rfl | rfl | rfl | rfl | rfl | ⟨⟨h6, h7, h8, h9, h10, h11⟩, h12, h13, h14, h15, h16, h17, h18⟩
  all_goals
    go_enter Try.func48, Try.ntmps48
    go_wp2_with (first
      | (go_at_call 57; refine (truth_any _ _).mono ?_; rintro e w' ⟨rfl, rfl⟩)
      | (go_at_call 58; refine (quotient_any _ _ _).mono ?_; rintro e w' ⟨rfl, rfl⟩)
      | (go_at_call 59; refine (remainder_any _ _ _).mono ?_; rintro e w' ⟨rfl, rfl⟩))
    all_goals
      (refine bodyPost_ret (v := res (bin _ _ _)) ?_ rfl ⟨rfl, rfl⟩; simp [results, Try.results48, go_sem, bin, res, *]; try (first | (simp only [tr]; simp_all; done) | (show (0 : Int) = wrap64 0; unfold wrap64; omega)))
set_option maxHeartbeats 2000000 in
set_option maxRecDepth 100000 in
theorem binaryR_any (w : World) (op a b : Int) : Calls Try.prog 33 #[.int .i64 op, .int .i64 a, .int .i64 b] w fun e w' => e = .returned (res (bin op a b)) ∧ w' = w := by
  by_cases hb : b = 0
  · subst hb
    have hq : quo a 0 = 0 := rfl
    have hr : rmd a 0 = 0 := rfl
    rcases bin_cases op with rfl | rfl | rfl | rfl | rfl | rfl | rfl | rfl | rfl | rfl | rfl | rfl | rfl | ⟨⟨h6, h7, h8, h9, h10, h11⟩, h12, h13, h14, h15, h16, h17, h18⟩
    all_goals
      go_enter Try.func33, Try.ntmps33
      go_wp2_with (go_at_call 49; refine (truthR_any _ _).mono ?_; rintro e w' ⟨rfl, rfl⟩)
      all_goals
        (refine bodyPost_ret (v := res (bin _ _ _)) ?_ rfl ⟨rfl, rfl⟩; simp [results, Try.results33, go_sem, bin, res, *]; try (first | (simp only [tr]; simp_all; done) | (show (0 : Int) = wrap64 0; unfold wrap64; omega)))
  · have hq : quo a b = wr64 (a.tdiv b) := by unfold quo; rw [if_neg hb]
    have hr : rmd a b = a.tmod b := by unfold rmd; rw [if_neg hb]
    rcases bin_cases op with rfl | rfl | rfl | rfl | rfl | rfl | rfl | rfl | rfl | rfl | rfl | rfl | rfl | ⟨⟨h6, h7, h8, h9, h10, h11⟩, h12, h13, h14, h15, h16, h17, h18⟩
    all_goals
      go_enter Try.func33, Try.ntmps33
      go_wp2_with (go_at_call 49; refine (truthR_any _ _).mono ?_; rintro e w' ⟨rfl, rfl⟩)
      all_goals
        (refine bodyPost_ret (v := res (bin _ _ _)) ?_ rfl ⟨rfl, rfl⟩; simp [results, Try.results33, go_sem, bin, res, *]; try (first | (simp only [tr]; simp_all; done) | (show (0 : Int) = wrap64 0; unfold wrap64; omega)))
end Go.Proofs.Ytdibfpjhmfkbkaa
