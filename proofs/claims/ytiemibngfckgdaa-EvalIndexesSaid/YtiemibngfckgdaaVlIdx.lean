/-
  EvalIndexes returns true: Index returns the remainder of i modulo n, which the reference returns too, from 0 to n - 1, 0 where n is less than 1, and the same for i + n where neither number is 2^62 or more; for every int64 and every int, without a condition.
-/
import Derived.Test.YtiemibngfckgdaaVlB
import Derived.ProofKit
import Derived.OpenShut
namespace Go.Proofs.Ytiemibngfckgdaa
open Go.ChangeShapes Go.WideShapes Go.ChangeAt Go.RowKit
open Vl

namespace Vl
def idx (i n : Int) : Int := if n < 1 then 0 else if i.tmod n < 0 then wrap64 (i.tmod n + n) else i.tmod n
theorem idx_is {i n : Int} (h1 : 1 ≤ n) (h2 : n < 9223372036854775808) : idx i n = i % n := by
  unfold idx
  rw [if_neg (by omega)]
  have h3 := Int.tmod_eq_emod (a := i) (b := n)
  have h4 := Int.emod_nonneg i (show n ≠ 0 by omega)
  have h5 := Int.emod_lt_of_pos i (show 0 < n by omega)
  by_cases hc : 0 ≤ i ∨ n ∣ i
  · rw [if_pos hc] at h3
    rw [if_neg (by omega)]
    omega
  · rw [if_neg hc] at h3
    rw [if_pos (by omega), wrap_in (by omega) (by omega)]
    omega
end Vl
set_option maxRecDepth 100000 in
theorem index_any (w : World) (i n : Int) : Calls Try.prog 11 #[.int .i64 i, .int .i64 n] w fun e w' => e = .returned (.int .i64 (idx i n)) ∧ w' = w := by
  by_cases h1 : n < 1
  · have H := Lib.hid (show idx i n = 0 by unfold idx; rw [if_pos h1])
    go_enter Try.func11, Try.ntmps11
    go_wp2_with fail
    go_ret
    exact ⟨by rw [H.out]; rfl, rfl⟩
  · have hn0 : ¬ n = 0 := by omega
    by_cases h2 : i.tmod n < 0
    · have H := Lib.hid (show idx i n = wrap64 (i.tmod n + n) by unfold idx; rw [if_neg h1, if_pos h2])
      go_enter Try.func11, Try.ntmps11
      go_wp2_with fail
      go_ret
      exact ⟨by rw [H.out]; simp [go_sem], rfl⟩
    · have H := Lib.hid (show idx i n = i.tmod n by unfold idx; rw [if_neg h1, if_neg h2])
      go_enter Try.func11, Try.ntmps11
      go_wp2_with fail
      go_ret
      exact ⟨by rw [H.out]; simp [go_sem], rfl⟩
set_option maxRecDepth 100000 in
theorem indexR_any (w : World) (i n : Int) : Calls Try.prog 13 #[.int .i64 i, .int .i64 n] w fun e w' => e = .returned (.int .i64 (idx i n)) ∧ w' = w := by
  by_cases h1 : n < 1
  · have H := Lib.hid (show idx i n = 0 by unfold idx; rw [if_pos h1])
    go_enter Try.func13, Try.ntmps13
    go_wp2_with fail
    go_ret
    exact ⟨by rw [H.out]; rfl, rfl⟩
  · have hn0 : ¬ n = 0 := by omega
    by_cases h2 : i.tmod n < 0
    · have H := Lib.hid (show idx i n = wrap64 (i.tmod n + n) by unfold idx; rw [if_neg h1, if_pos h2])
      go_enter Try.func13, Try.ntmps13
      go_wp2_with fail
      go_ret
      exact ⟨by rw [H.out]; simp [go_sem], rfl⟩
    · have H := Lib.hid (show idx i n = i.tmod n by unfold idx; rw [if_neg h1, if_neg h2])
      go_enter Try.func13, Try.ntmps13
      go_wp2_with fail
      go_ret
      exact ⟨by rw [H.out]; simp [go_sem], rfl⟩
theorem index_at (w : World) (i n r : Int) (h : idx i n = r) : Calls Try.prog 11 #[.int .i64 i, .int .i64 n] w fun e w' => e = .returned (.int .i64 r) ∧ w' = w := h ▸ index_any w i n
theorem indexR_at (w : World) (i n r : Int) (h : idx i n = r) : Calls Try.prog 13 #[.int .i64 i, .int .i64 n] w fun e w' => e = .returned (.int .i64 r) ∧ w' = w := h ▸ indexR_any w i n
set_option maxHeartbeats 2000000 in
set_option maxRecDepth 100000 in
theorem evalIndexes_walk (a0 : Int) (a1 : Int) (w0 : (Lit.int .i64 a0).wf = true) (w1 : (Lit.int .i64 a1).wf = true) (w : World) :
    Calls Try.prog 4 #[.int .i64 a0, .int .i64 a1] w fun e w' => e = .returned (.bool true) ∧ Grown w w' := by
  have b0 := bounds_i64 w0
  have b1 := bounds_i64 w1
  clear w0 w1
  by_cases h1 : a1 < 1
  · have H := Lib.hid (show idx a0 a1 = 0 by unfold idx; rw [if_pos h1])
    clear b0 b1
    go_enter Try.func4, Try.ntmps4
    go_wp2_with (first
      | (go_at_call 11; refine (index_at _ _ _ _ H.out).mono ?_; rintro e w' ⟨rfl, rfl⟩)
      | (go_at_call 12; refine (awake_any _).mono ?_; rintro e w' ⟨rfl, rfl⟩))
    go_ret
    exact ⟨by simp, Grown.refl _⟩
  · obtain ⟨r, hr⟩ : ∃ r, a0 % a1 = r := ⟨_, rfl⟩
    have h2 := Int.emod_nonneg a0 (show a1 ≠ 0 by omega)
    have h3 := Int.emod_lt_of_pos a0 (show 0 < a1 by omega)
    rw [hr] at h2 h3
    have H := Lib.hid (show idx a0 a1 = r by rw [idx_is (by omega) (by omega), hr])
    have h4 : ¬ r < 0 := by omega
    have h5 : ¬ a1 ≤ r := by omega
    by_cases hi : 4611686018427387904 ≤ a0
    · clear b0 b1 hr h2
      go_enter Try.func4, Try.ntmps4
      go_wp2_with (first
        | (go_at_call 11; refine (index_at _ _ _ _ H.out).mono ?_; rintro e w' ⟨rfl, rfl⟩)
        | (go_at_call 13; refine (indexR_at _ _ _ _ H.out).mono ?_; rintro e w' ⟨rfl, rfl⟩)
        | (go_at_call 12; refine (awake_any _).mono ?_; rintro e w' ⟨rfl, rfl⟩))
      go_ret
      exact ⟨by simp, Grown.refl _⟩
    · by_cases hn : 4611686018427387904 ≤ a1
      · clear b0 b1 hr h2
        go_enter Try.func4, Try.ntmps4
        go_wp2_with (first
          | (go_at_call 11; refine (index_at _ _ _ _ H.out).mono ?_; rintro e w' ⟨rfl, rfl⟩)
          | (go_at_call 13; refine (indexR_at _ _ _ _ H.out).mono ?_; rintro e w' ⟨rfl, rfl⟩)
          | (go_at_call 12; refine (awake_any _).mono ?_; rintro e w' ⟨rfl, rfl⟩))
        go_ret
        exact ⟨by simp, Grown.refl _⟩
      · have H2 := Lib.hid (show idx (wrap64 (a0 + a1)) a1 = r by
          rw [wrap_in (by omega) (by omega), idx_is (by omega) (by omega), Int.add_emod_right, hr])
        obtain ⟨s, hs⟩ : ∃ s, wrap64 (a0 + a1) = s := ⟨_, rfl⟩
        rw [hs] at H2
        clear b0 b1 hr h2
        go_enter Try.func4, Try.ntmps4
        go_wp2_with (first
          | (go_at_call 11; (first | (with_reducible refine (index_at _ _ _ _ H.out).mono ?_) | (with_reducible refine (index_at _ _ _ _ H2.out).mono ?_)); rintro e w' ⟨rfl, rfl⟩)
          | (go_at_call 13; refine (indexR_at _ _ _ _ H.out).mono ?_; rintro e w' ⟨rfl, rfl⟩)
          | (go_at_call 12; refine (awake_any _).mono ?_; rintro e w' ⟨rfl, rfl⟩))
        go_ret
        exact ⟨by simp, Grown.refl _⟩


theorem own : ownKnob Try.prog.godebug = none := by kernel_rfl

set_option maxRecDepth 100000 in
theorem evalIndexes_lifted (os : Os) (started : os.Started) (H : Type) (enc : TypeId × Value → H) :
    ReturnsInHanded {} Try.checked os 4 .any (Rows.evalIndexesSpec.pre6 enc Try.prog Try.f4 Rows.evalIndexesRow.domain false) (Rows.evalIndexesSpec.post enc Try.prog Try.f4 false true false false) := by
  refine returnsInHanded_of_change (C := Try.checked) own started (by kernel_rfl) Try.func4
    (ChangeSpec.witness6 (enc := enc) (C := Try.checked) false ⟨#[], #[.int .i64 0, .int .i64 0], []⟩ 8 (by kernel_rfl) (by kernel_rfl) (by kernel_rfl) (by kernel_rfl)) ?_
  intro W base args ds gs before hval0 hW hcnd _
  have hval : ∀ (j : Nat) t v, Try.f4.params[j]? = some t → args[j]? = some v → Value.okWide Try.prog W .any base t v := hval0
  have hW' := hW
  obtain ⟨p, q, hA0, hV, rfl, hfz, hnd⟩ := hW
  have hA : DataW.TrodAll enc Try.prog W 0 (fun _ => true) true Try.f4.params.toList args.toList ds p := hA0
  rw [Try.params4] at hA hval
  obtain ⟨v0, vs0, d0, ds0, p0, q0, hargs, rfl, rfl, h0, r0⟩ := trodAll_cons hA
  obtain ⟨v1, vs1, d1, ds1, p1, q1, rfl, rfl, rfl, h1, r1⟩ := trodAll_cons r0
  obtain ⟨rfl, rfl, rfl⟩ := trodAll_nil r1
  obtain rfl : args = #[v0, v1] := by cases args; simp_all
  obtain ⟨rfl, rfl⟩ := trodVars_none hV
  obtain ⟨a0, rfl, rfl, rfl, w0⟩ := open_int Try.underlying2 (hval 0 2 v0 rfl rfl) h0
  obtain ⟨a1, rfl, rfl, rfl, w1⟩ := open_int Try.underlying3 (hval 1 3 v1 rfl rfl) h1
  clear hA0 hval0
  simp only [List.append_nil] at hW'
  refine (evalIndexes_walk a0 a1 w0 w1 W).mono fun e W' ⟨he, hg⟩ => ?_
  subst he
  exact ⟨_, rfl, post_of_same (pa := []) (pv := []) hW' (fun _ _ _ => (trodAll_cons_mk (shut_bool Try.underlying4 _) trodAll_mk0)) (fun sp _ => (trodAll_cons_mk (shut_int Try.underlying2 w0) (trodAll_cons_mk (shut_int Try.underlying3 w1) trodAll_mk0))) (fun _ _ => rfl) rfl
    (hg.frame _) hg.2.1 (ok_one (by kernel_rfl) rfl (okWide_bool_mk Try.underlying4 _))⟩

theorem evalIndexes_over : Rows.evalIndexesRow.holds Try.pinned (OpenSpec.ofChange Rows.evalIndexesSpec) :=
  OpenClaim.holds_of_wide 4 Try.f4 rfl rfl rfl rfl rfl rfl rfl ⟨rfl, rfl, rfl, rfl, rfl⟩ rfl rfl rfl rfl rfl (by kernel_rfl) Try.func4 (by kernel_rfl)
    (of_decide_eq_true (by kernel_rfl)) (by unfold Func.isWrapper; first | (rw [if_pos (by decide +kernel)]; kernel_rfl) | (rw [if_neg (by decide +kernel)]; exact ⟨rfl, rfl⟩))
    (fun os started H enc _ => evalIndexes_lifted os started H enc)

theorem evalIndexes_holds : Rows.EvalIndexesSaid :=
  evalIndexes_over
#print axioms evalIndexes_holds
end Go.Proofs.Ytiemibngfckgdaa
