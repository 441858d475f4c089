/-
  EvalRing returns true: the sum of two numbers of int64 does not depend on their order, the product distributes over the sum, and a difference is the sum with the negated number, wrapping around; for every three numbers, without a condition.
-/
import Derived.Test.YtiemibngfckgdaaVlB
import Derived.ProofKit
import Derived.OpenShut
namespace Go.Proofs.Ytiemibngfckgdaa
open Go.ChangeShapes Go.WideShapes Go.ChangeAt Go.RowKit
open Vl

theorem ring_mul (a b c : Int) : wrap64 (wrap64 (a + b) * c) = wrap64 (wrap64 (c * a) + wrap64 (c * b)) := by
  obtain ⟨k, hk⟩ := wrap_is (a + b)
  obtain ⟨l, hl⟩ := wrap_is (c * a)
  obtain ⟨m, hm⟩ := wrap_is (c * b)
  rw [hk, hl, hm]
  exact wrap_same (k := k * c - l - m) (by grind)
theorem ring_sub (a b : Int) : wrap64 (a - b) = wrap64 (a + wrap64 (-b)) := by
  obtain ⟨k, hk⟩ := wrap_is (-b)
  rw [hk]
  exact wrap_same (k := -k) (by grind)
set_option maxHeartbeats 2000000 in
set_option maxRecDepth 100000 in
theorem evalRing_walk (a0 : Int) (a1 : Int) (a2 : Int) (_ : (Lit.int .i64 a0).wf = true) (_ : (Lit.int .i64 a1).wf = true) (_ : (Lit.int .i64 a2).wf = true) (w : World) :
    Calls Try.prog 8 #[.int .i64 a0, .int .i64 a1, .int .i64 a2] w fun e w' => e = .returned (.bool true) ∧ Grown w w' := by
  obtain ⟨x, hx⟩ : ∃ x, wrap64 (a0 + a1) = x := ⟨_, rfl⟩
  obtain ⟨y, hy⟩ : ∃ y, wrap64 (x * a2) = y := ⟨_, rfl⟩
  obtain ⟨z, hz⟩ : ∃ z, wrap64 (a0 - a1) = z := ⟨_, rfl⟩
  obtain ⟨p, hp⟩ : ∃ p, wrap64 (a2 * a0) = p := ⟨_, rfl⟩
  obtain ⟨q, hq⟩ : ∃ q, wrap64 (a2 * a1) = q := ⟨_, rfl⟩
  obtain ⟨r, hr⟩ : ∃ r, wrap64 (-a1) = r := ⟨_, rfl⟩
  have B1 := Lib.hid (show bin 6 a0 a1 = some x by rw [bin_6, hx])
  have B2 := Lib.hid (show bin 6 a1 a0 = some x by rw [bin_6, Int.add_comm, hx])
  have B3 := Lib.hid (show bin 8 x a2 = some y by rw [bin_8, hy])
  have B4 := Lib.hid (show bin 8 a2 a0 = some p by rw [bin_8, hp])
  have B5 := Lib.hid (show bin 8 a2 a1 = some q by rw [bin_8, hq])
  have B6 := Lib.hid (show bin 6 p q = some y by rw [bin_6, ← hp, ← hq, ← ring_mul, hx, hy])
  have B7 := Lib.hid (show bin 7 a0 a1 = some z by rw [bin_7, hz])
  have B8 := Lib.hid (show una 4 a1 = some r by rw [una_4, hr])
  have B9 := Lib.hid (show bin 6 a0 r = some z by rw [bin_6, ← hr, ← ring_sub, hz])
  clear hx hy hz hp hq hr
  go_enter Try.func8, Try.ntmps8
  go_wp2_with (first
    | (go_at_call 18; first | (with_reducible refine (bin_at _ _ _ _ _ B1.out).mono ?_) | (with_reducible refine (bin_at _ _ _ _ _ B2.out).mono ?_) | (with_reducible refine (bin_at _ _ _ _ _ B3.out).mono ?_) | (with_reducible refine (bin_at _ _ _ _ _ B4.out).mono ?_) | (with_reducible refine (bin_at _ _ _ _ _ B5.out).mono ?_) | (with_reducible refine (bin_at _ _ _ _ _ B6.out).mono ?_) | (with_reducible refine (bin_at _ _ _ _ _ B7.out).mono ?_) | (with_reducible refine (bin_at _ _ _ _ _ B9.out).mono ?_)
       rintro e w' ⟨rfl, rfl⟩)
    | (go_at_call 19; refine (una_at _ _ _ _ B8.out).mono ?_; rintro e w' ⟨rfl, rfl⟩)
    | (go_at_call 12; refine (awake_any _).mono ?_; rintro e w' ⟨rfl, rfl⟩))
  go_ret
  exact ⟨by simp, Grown.refl _⟩


theorem own : ownKnob Try.prog.godebug = none := by kernel_rfl

set_option maxRecDepth 100000 in
theorem evalRing_lifted (os : Os) (started : os.Started) (H : Type) (enc : TypeId × Value → H) :
    ReturnsInHanded {} Try.checked os 8 .any (Rows.evalRingSpec.pre6 enc Try.prog Try.f8 Rows.evalRingRow.domain false) (Rows.evalRingSpec.post enc Try.prog Try.f8 false true false false) := by
  refine returnsInHanded_of_change (C := Try.checked) own started (by kernel_rfl) Try.func8
    (ChangeSpec.witness6 (enc := enc) (C := Try.checked) false ⟨#[], #[.int .i64 0, .int .i64 0, .int .i64 0], []⟩ 8 (by kernel_rfl) (by kernel_rfl) (by kernel_rfl) (by kernel_rfl)) ?_
  intro W base args ds gs before hval0 hW hcnd _
  have hval : ∀ (j : Nat) t v, Try.f8.params[j]? = some t → args[j]? = some v → Value.okWide Try.prog W .any base t v := hval0
  have hW' := hW
  obtain ⟨p, q, hA0, hV, rfl, hfz, hnd⟩ := hW
  have hA : DataW.TrodAll enc Try.prog W 0 (fun _ => true) true Try.f8.params.toList args.toList ds p := hA0
  rw [Try.params8] at hA hval
  obtain ⟨v0, vs0, d0, ds0, p0, q0, hargs, rfl, rfl, h0, r0⟩ := trodAll_cons hA
  obtain ⟨v1, vs1, d1, ds1, p1, q1, rfl, rfl, rfl, h1, r1⟩ := trodAll_cons r0
  obtain ⟨v2, vs2, d2, ds2, p2, q2, rfl, rfl, rfl, h2, r2⟩ := trodAll_cons r1
  obtain ⟨rfl, rfl, rfl⟩ := trodAll_nil r2
  obtain rfl : args = #[v0, v1, v2] := by cases args; simp_all
  obtain ⟨rfl, rfl⟩ := trodVars_none hV
  obtain ⟨a0, rfl, rfl, rfl, w0⟩ := open_int Try.underlying2 (hval 0 2 v0 rfl rfl) h0
  obtain ⟨a1, rfl, rfl, rfl, w1⟩ := open_int Try.underlying2 (hval 1 2 v1 rfl rfl) h1
  obtain ⟨a2, rfl, rfl, rfl, w2⟩ := open_int Try.underlying2 (hval 2 2 v2 rfl rfl) h2
  clear hA0 hval0
  simp only [List.append_nil] at hW'
  refine (evalRing_walk a0 a1 a2 w0 w1 w2 W).mono fun e W' ⟨he, hg⟩ => ?_
  subst he
  exact ⟨_, rfl, post_of_same (pa := []) (pv := []) hW' (fun _ _ _ => (trodAll_cons_mk (shut_bool Try.underlying4 _) trodAll_mk0)) (fun sp _ => (trodAll_cons_mk (shut_int Try.underlying2 w0) (trodAll_cons_mk (shut_int Try.underlying2 w1) (trodAll_cons_mk (shut_int Try.underlying2 w2) trodAll_mk0)))) (fun _ _ => rfl) rfl
    (hg.frame _) hg.2.1 (ok_one (by kernel_rfl) rfl (okWide_bool_mk Try.underlying4 _))⟩

theorem evalRing_over : Rows.evalRingRow.holds Try.pinned (OpenSpec.ofChange Rows.evalRingSpec) :=
  OpenClaim.holds_of_wide 8 Try.f8 rfl rfl rfl rfl rfl rfl rfl ⟨rfl, rfl, rfl, rfl, rfl⟩ rfl rfl rfl rfl rfl (by kernel_rfl) Try.func8 (by kernel_rfl)
    (of_decide_eq_true (by kernel_rfl)) (by unfold Func.isWrapper; first | (rw [if_pos (by decide +kernel)]; kernel_rfl) | (rw [if_neg (by decide +kernel)]; exact ⟨rfl, rfl⟩))
    (fun os started H enc _ => evalRing_lifted os started H enc)

theorem evalRing_holds : Rows.EvalRingSaid :=
  evalRing_over
#print axioms evalRing_holds
end Go.Proofs.Ytiemibngfckgdaa
