/-
  EvalQuotients returns true: a is the quotient times b plus the remainder (wrapping around), the remainder is smaller than b and has the sign of a, and both are 0 where b is 0; for every two numbers of int64, without a condition.
-/
import Derived.Test.YtiemibngfckgdaaVlB
import Derived.ProofKit
import Derived.OpenShut
namespace Go.Proofs.Ytiemibngfckgdaa
open Go.ChangeShapes Go.WideShapes Go.ChangeAt Go.RowKit
open Vl

theorem quo_back {a b : Int} (h0 : -9223372036854775808 ≤ a) (h1 : a ≤ 9223372036854775807) : wrap64 (wrap64 (wrap64 (a.tdiv b) * b) + a.tmod b) = a := by
  obtain ⟨k, hk⟩ := wrap_is (a.tdiv b)
  obtain ⟨l, hl⟩ := wrap_is (wrap64 (a.tdiv b) * b)
  have h := Int.tmod_add_mul_tdiv a b
  rw [hl, hk]
  have h2 : wrap64 ((a.tdiv b + k * 18446744073709551616) * b + l * 18446744073709551616 + a.tmod b) = wrap64 a := wrap_same (k := k * b + l) (by grind)
  rw [h2]
  exact wrap_in h0 (by omega)
theorem rem_pos {a b : Int} (hb : 0 < b) : -b < a.tmod b ∧ a.tmod b < b := by
  have h3 := Int.tmod_eq_emod (a := a) (b := b)
  have h4 := Int.emod_nonneg a (show b ≠ 0 by omega)
  have h5 := Int.emod_lt_of_pos a hb
  by_cases hc : 0 ≤ a ∨ b ∣ a
  · rw [if_pos hc] at h3
    omega
  · rw [if_neg hc] at h3
    have : a % b ≠ 0 := fun e => hc (.inr (Int.dvd_of_emod_eq_zero e))
    omega
theorem rem_sign {a b : Int} : (a.tmod b < 0 → a < 0) ∧ (0 < a.tmod b → 0 < a) := by
  constructor
  · intro h
    by_cases ha : 0 ≤ a
    · have := Int.tmod_nonneg b ha
      omega
    · omega
  · intro h
    by_cases ha : 0 ≤ -a
    · have := Int.tmod_nonneg b ha
      rw [Int.neg_tmod] at this
      omega
    · omega
set_option maxHeartbeats 4000000 in
set_option maxRecDepth 100000 in
theorem evalQuotients_walk (a0 : Int) (a1 : Int) (w0 : (Lit.int .i64 a0).wf = true) (w1 : (Lit.int .i64 a1).wf = true) (w : World) :
    Calls Try.prog 6 #[.int .i64 a0, .int .i64 a1] w fun e w' => e = .returned (.bool true) ∧ Grown w w' := by
  have b0 := bounds_i64 w0
  have b1 := bounds_i64 w1
  clear w0 w1
  by_cases hb : a1 = 0
  · subst hb
    have H1 := Lib.hid (show bin 9 a0 0 = some 0 by rw [bin_9]; rfl)
    have H2 := Lib.hid (show bin 10 a0 0 = some 0 by rw [bin_10]; rfl)
    clear b0 b1
    go_enter Try.func6, Try.ntmps6
    go_wp2_with (go_at_call 18; (first | (with_reducible refine (bin_at _ _ _ _ _ H1.out).mono ?_) | (with_reducible refine (bin_at _ _ _ _ _ H2.out).mono ?_)); rintro e w' ⟨rfl, rfl⟩)
    go_ret
    exact ⟨by first | (simp; done) | (simp; omega), Grown.refl _⟩
  · obtain ⟨q, hq⟩ : ∃ q, wrap64 (a0.tdiv a1) = q := ⟨_, rfl⟩
    obtain ⟨r, hr⟩ : ∃ r, a0.tmod a1 = r := ⟨_, rfl⟩
    have hF := quo_back (b := a1) b0.1 b0.2
    have hS := rem_sign (a := a0) (b := a1)
    have hP := rem_pos (a := a0) (b := a1)
    have hN := rem_pos (a := a0) (b := -a1)
    rw [Int.tmod_neg] at hN
    rw [hr] at hF hS hP hN
    rw [hq] at hF
    have H1 := Lib.hid (show bin 9 a0 a1 = some q by rw [bin_9]; unfold quo; rw [if_neg hb]; exact congrArg some hq)
    have H2 := Lib.hid (show bin 10 a0 a1 = some r by rw [bin_10]; unfold rmd; rw [if_neg hb, hr])
    clear hq hr
    obtain ⟨t, ht⟩ : ∃ t, wrap64 (q * a1) = t := ⟨_, rfl⟩
    rw [ht] at hF
    have hF0 : r = 0 → wrap64 t = a0 := fun e => by rw [e, Int.add_zero] at hF; exact hF
    have hsg : (r = 0 ∧ wrap64 t = a0) ∨ (¬ r = 0 ∧ r < 0 ∧ a0 < 0) ∨ (¬ r = 0 ∧ ¬ r < 0 ∧ ¬ a0 < 0) := by
      by_cases e : r = 0
      · exact .inl ⟨e, hF0 e⟩
      · exact .inr (by omega)
    clear hF0
    by_cases hm : a1 = -9223372036854775808
    · subst hm
      clear hP hN b0 b1 hS
      rcases hsg with ⟨rfl, g0⟩ | ⟨g1, g2, g3⟩ | ⟨g1, g2, g3⟩
      all_goals
        go_enter Try.func6, Try.ntmps6
        go_wp2_with (go_at_call 18; (first | (with_reducible refine (bin_at _ _ _ _ _ H1.out).mono ?_) | (with_reducible refine (bin_at _ _ _ _ _ H2.out).mono ?_)); rintro e w' ⟨rfl, rfl⟩)
        go_ret
        exact ⟨by first | (simp; done) | (simp; omega), Grown.refl _⟩
    · have hnw : wrap64 (-a1) = -a1 := wrap_in (by omega) (by omega)
      by_cases hlt : a1 < 0
      · obtain ⟨n1, n2⟩ := hN (by omega)
        rw [Int.neg_neg] at n1
        have hgt : -9223372036854775808 < a1 := by omega
        obtain ⟨m, hme⟩ : ∃ m, -a1 = m := ⟨_, rfl⟩
        rw [hme] at hnw n2
        have k1 : ¬ (m < r ∧ r < a1) := by omega
        clear hP hN b0 b1 hS
        rcases hsg with ⟨rfl, g0⟩ | ⟨g1, g2, g3⟩ | ⟨g1, g2, g3⟩
        all_goals
          go_enter Try.func6, Try.ntmps6
          go_wp2_with (go_at_call 18; (first | (with_reducible refine (bin_at _ _ _ _ _ H1.out).mono ?_) | (with_reducible refine (bin_at _ _ _ _ _ H2.out).mono ?_)); rintro e w' ⟨rfl, rfl⟩)
          all_goals
            go_ret
            exact ⟨by first | (simp; done) | (simp; omega), Grown.refl _⟩
      · obtain ⟨n1, n2⟩ := hP (by omega)
        obtain ⟨m, hme⟩ : ∃ m, -a1 = m := ⟨_, rfl⟩
        rw [hme] at hnw n1
        clear hP hN b0 b1 hS
        rcases hsg with ⟨rfl, g0⟩ | ⟨g1, g2, g3⟩ | ⟨g1, g2, g3⟩
        all_goals
          go_enter Try.func6, Try.ntmps6
          go_wp2_with (go_at_call 18; (first | (with_reducible refine (bin_at _ _ _ _ _ H1.out).mono ?_) | (with_reducible refine (bin_at _ _ _ _ _ H2.out).mono ?_)); rintro e w' ⟨rfl, rfl⟩)
          all_goals
            go_ret
            exact ⟨by first | (simp; done) | (simp; omega), Grown.refl _⟩


theorem own : ownKnob Try.prog.godebug = none := by kernel_rfl

set_option maxRecDepth 100000 in
theorem evalQuotients_lifted (os : Os) (started : os.Started) (H : Type) (enc : TypeId × Value → H) :
    ReturnsInHanded {} Try.checked os 6 .any (Rows.evalQuotientsSpec.pre6 enc Try.prog Try.f6 Rows.evalQuotientsRow.domain false) (Rows.evalQuotientsSpec.post enc Try.prog Try.f6 false true false false) := by
  refine returnsInHanded_of_change (C := Try.checked) own started (by kernel_rfl) Try.func6
    (ChangeSpec.witness6 (enc := enc) (C := Try.checked) false ⟨#[], #[.int .i64 0, .int .i64 0], []⟩ 8 (by kernel_rfl) (by kernel_rfl) (by kernel_rfl) (by kernel_rfl)) ?_
  intro W base args ds gs before hval0 hW hcnd _
  have hval : ∀ (j : Nat) t v, Try.f6.params[j]? = some t → args[j]? = some v → Value.okWide Try.prog W .any base t v := hval0
  have hW' := hW
  obtain ⟨p, q, hA0, hV, rfl, hfz, hnd⟩ := hW
  have hA : DataW.TrodAll enc Try.prog W 0 (fun _ => true) true Try.f6.params.toList args.toList ds p := hA0
  rw [Try.params6] at hA hval
  obtain ⟨v0, vs0, d0, ds0, p0, q0, hargs, rfl, rfl, h0, r0⟩ := trodAll_cons hA
  obtain ⟨v1, vs1, d1, ds1, p1, q1, rfl, rfl, rfl, h1, r1⟩ := trodAll_cons r0
  obtain ⟨rfl, rfl, rfl⟩ := trodAll_nil r1
  obtain rfl : args = #[v0, v1] := by cases args; simp_all
  obtain ⟨rfl, rfl⟩ := trodVars_none hV
  obtain ⟨a0, rfl, rfl, rfl, w0⟩ := open_int Try.underlying2 (hval 0 2 v0 rfl rfl) h0
  obtain ⟨a1, rfl, rfl, rfl, w1⟩ := open_int Try.underlying2 (hval 1 2 v1 rfl rfl) h1
  clear hA0 hval0
  simp only [List.append_nil] at hW'
  refine (evalQuotients_walk a0 a1 w0 w1 W).mono fun e W' ⟨he, hg⟩ => ?_
  subst he
  exact ⟨_, rfl, post_of_same (pa := []) (pv := []) hW' (fun _ _ _ => (trodAll_cons_mk (shut_bool Try.underlying4 _) trodAll_mk0)) (fun sp _ => (trodAll_cons_mk (shut_int Try.underlying2 w0) (trodAll_cons_mk (shut_int Try.underlying2 w1) trodAll_mk0))) (fun _ _ => rfl) rfl
    (hg.frame _) hg.2.1 (ok_one (by kernel_rfl) rfl (okWide_bool_mk Try.underlying4 _))⟩

theorem evalQuotients_over : Rows.evalQuotientsRow.holds Try.pinned (OpenSpec.ofChange Rows.evalQuotientsSpec) :=
  OpenClaim.holds_of_wide 6 Try.f6 rfl rfl rfl rfl rfl rfl rfl ⟨rfl, rfl, rfl, rfl, rfl⟩ rfl rfl rfl rfl rfl (by kernel_rfl) Try.func6 (by kernel_rfl)
    (of_decide_eq_true (by kernel_rfl)) (by unfold Func.isWrapper; first | (rw [if_pos (by decide +kernel)]; kernel_rfl) | (rw [if_neg (by decide +kernel)]; exact ⟨rfl, rfl⟩))
    (fun os started H enc _ => evalQuotients_lifted os started H enc)

theorem evalQuotients_holds : Rows.EvalQuotientsSaid :=
  evalQuotients_over
#print axioms evalQuotients_holds
end Go.Proofs.Ytiemibngfckgdaa
