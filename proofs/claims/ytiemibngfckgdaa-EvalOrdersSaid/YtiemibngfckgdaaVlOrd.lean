/-
  EvalOrders returns true: of two numbers exactly one of less, equal, greater holds, the other comparisons are their negations, and && and || are their combinations; for every two numbers of int64, without a condition.
-/
import Derived.Test.YtiemibngfckgdaaVlB
import Derived.ProofKit
import Derived.OpenShut
import Derived.Deep.QuietTactic
import Derived.BigQuiet
import Derived.Below
import Derived.Laws.MakeOwn
import Derived.Laws.World
import Derived.Deep.RegionHeld
import Derived.OwnWalk
import Derived.Laws.OwnMore
namespace Go.Proofs.Ytiemibngfckgdaa
open Go.ChangeShapes Go.WideShapes Go.ChangeAt Go.RowKit
open Vl

namespace Vl
def O (k : Nat) : Int := [13, 11, 15, 16, 12, 14, 17, 18].getD k 0
theorem tr_two (b : Bool) : tr b = 0 ∨ tr b = 1 := by cases b <;> simp [tr]
theorem k_eight {k : Nat} (h : k < 8) : k = 0 ∨ k = 1 ∨ k = 2 ∨ k = 3 ∨ k = 4 ∨ k = 5 ∨ k = 6 ∨ k = 7 := by omega
/-- What the comparisons of two numbers are to each other. -/
theorem orders (a b : Int) : ∃ c0 c1 c2 c3 c4 c5 c6 c7 x y p q m : Int,
    (bin 13 a b = some c0 ∧ bin 11 a b = some c1 ∧ bin 15 a b = some c2 ∧ bin 16 a b = some c3 ∧ bin 12 a b = some c4 ∧ bin 14 a b = some c5 ∧ bin 17 a b = some c6 ∧ bin 18 a b = some c7) ∧
    (una 5 a = some x ∧ una 5 b = some y) ∧
    ((c0 = 0 ∨ c0 = 1) ∧ (c1 = 0 ∨ c1 = 1) ∧ (c2 = 0 ∨ c2 = 1) ∧ (c3 = 0 ∨ c3 = 1) ∧ (c4 = 0 ∨ c4 = 1) ∧ (c5 = 0 ∨ c5 = 1) ∧ (c6 = 0 ∨ c6 = 1) ∧ (c7 = 0 ∨ c7 = 1)) ∧
    wrap64 (wrap64 (c0 + c1) + c2) = 1 ∧ wrap64 (1 - c0) = c3 ∧ wrap64 (1 - c1) = c4 ∧ wrap64 (1 - c2) = c5 ∧ wrap64 (1 - x) = p ∧ wrap64 (1 - y) = q ∧ wrap64 (p * q) = c6 ∧ wrap64 (x * y) = m ∧ wrap64 (1 - m) = c7 := by
  refine ⟨tr (decide (a < b)), tr (a == b), tr (decide (b < a)), tr (decide (b ≤ a)), tr (a != b), tr (decide (a ≤ b)), tr (a != 0 && b != 0), tr (a != 0 || b != 0), tr (a == 0), tr (b == 0), tr (a != 0), tr (b != 0), tr (a == 0 && b == 0),
    ⟨bin_13 .., bin_11 .., bin_15 .., bin_16 .., bin_12 .., bin_14 .., bin_17 .., bin_18 ..⟩, ⟨una_5 _, una_5 _⟩, ⟨tr_two _, tr_two _, tr_two _, tr_two _, tr_two _, tr_two _, tr_two _, tr_two _⟩, ?_, ?_, ?_, ?_, ?_, ?_, ?_, ?_, ?_⟩
  · rcases Int.lt_trichotomy a b with h | h | h
    · have h1 : ¬ a = b := by omega
      have h2 : ¬ b < a := by omega
      simp [tr, h, h1, h2, wrap64]
    · subst h
      simp [tr, wrap64]
    · have h1 : ¬ a = b := by omega
      have h2 : ¬ a < b := by omega
      simp [tr, h, h1, h2, wrap64]
  · by_cases h : a < b
    · have h1 : ¬ b ≤ a := by omega
      simp [tr, h, h1, wrap64]
    · have h1 : b ≤ a := by omega
      simp [tr, h, h1, wrap64]
  · by_cases h : a = b <;> simp [tr, h, wrap64]
  · by_cases h : b < a
    · have h1 : ¬ a ≤ b := by omega
      simp [tr, h, h1, wrap64]
    · have h1 : a ≤ b := by omega
      simp [tr, h, h1, wrap64]
  · by_cases h : a = 0 <;> simp [tr, h, wrap64]
  · by_cases h : b = 0 <;> simp [tr, h, wrap64]
  · by_cases h : a = 0 <;> by_cases h2 : b = 0 <;> simp [tr, h, h2, wrap64]
  · by_cases h : a = 0 <;> by_cases h2 : b = 0 <;> simp [tr, h, h2, wrap64]
  · by_cases h : a = 0 <;> by_cases h2 : b = 0 <;> simp [tr, h, h2, wrap64]
end Vl

theorem Try.infoI64 : (Try.prog.info? 2).map (fun i => (i.zero, i.size, i.bytes)) = some (some (.int .i64 0), 1, 8) := by kernel_rfl
/-- The two rows of EvalOrders: the operators, and the results of the first k. -/
structure OrdAt (w wr : World) (V : Nat → Int) (k : Nat) : Prop where
  ops : ∀ j, j < 8 → wr.cell? ⟨w.heap.size, j, none⟩ = some (.int .i64 (O j))
  val : ∀ j, j < 8 → wr.cell? ⟨w.heap.size + 1, j, none⟩ = some (.int .i64 (if j < k then V j else 0))
  fz : ∀ j, wr.frozen? ⟨w.heap.size + 1, j, none⟩ = false
  bel : Below w.heap.size w wr
theorem OrdAt.cur {w wr : World} {V : Nat → Int} {k : Nat} (h : OrdAt w wr V k) (hk : k < 8) : wr.cell? ⟨w.heap.size + 1, k, none⟩ = some (.int .i64 0) := by
  rw [h.val k hk, if_neg (Nat.lt_irrefl _)]
theorem OrdAt.at_ {w wr : World} {V : Nat → Int} (h : OrdAt w wr V 8) (j : Nat) (hj : j < 8) : wr.cell? ⟨w.heap.size + 1, j, none⟩ = some (.int .i64 (V j)) := by
  rw [h.val j hj, if_pos hj]
theorem ordAt_start (w : World) (V : Nat → Int) (t u : TypeId) : OrdAt w ((w.alloc (.cells #[.int .i64 13, .int .i64 11, .int .i64 15, .int .i64 16, .int .i64 12, .int .i64 14, .int .i64 17, .int .i64 18] t)).alloc (.cells #[.int .i64 0, .int .i64 0, .int .i64 0, .int .i64 0, .int .i64 0, .int .i64 0, .int .i64 0, .int .i64 0] u)) V 0 := by
  refine ⟨fun j hj => ?_, fun j hj => ?_, fun j => ?_, ((Below.refl _ _).alloc (Nat.le_refl _) _).alloc (by simp) _⟩
  · rcases k_eight hj with rfl | rfl | rfl | rfl | rfl | rfl | rfl | rfl <;> simp [go_sem, O]
  · rw [if_neg (Nat.not_lt_zero j), World.cell?_alloc_at _ _ _ _ (by simp)]
    rcases k_eight hj with rfl | rfl | rfl | rfl | rfl | rfl | rfl | rfl <;> rfl
  · rw [show w.heap.size + 1 = (w.alloc (.cells #[.int .i64 13, .int .i64 11, .int .i64 15, .int .i64 16, .int .i64 12, .int .i64 14, .int .i64 17, .int .i64 18] t)).heap.size by simp]
    simp
theorem OrdAt.next {w wr : World} {V : Nat → Int} {k : Nat} {v : Int} (h : OrdAt w wr V k) (hk : k < 8) (hv : v = V k) : OrdAt w (wr.setCell ⟨w.heap.size + 1, k, none⟩ (.int .i64 v)) V (k + 1) := by
  refine ⟨fun j hj => ?_, fun j hj => ?_, fun j => ?_, h.bel.setCell (by simp) _⟩
  · rw [World.cell?_setCell_far _ _ _ _ (by simp)]
    exact h.ops j hj
  · by_cases e : j = k
    · subst e
      rw [World.cell?_setCell_same _ _ _ (h.val j hj), if_pos (Nat.lt_succ_self _), hv]
    · rw [World.cell?_setCell_other _ _ _ _ (fun e2 => e (by injection e2 with _ h2 _; exact h2.symm)), h.val j hj]
      by_cases h1 : j < k
      · rw [if_pos h1, if_pos (by omega)]
      · rw [if_neg h1, if_neg (by omega)]
  · rw [World.frozen?_setCell]
    exact h.fz j
set_option maxHeartbeats 8000000 in
set_option maxRecDepth 100000 in
theorem evalOrders_walk (a0 : Int) (a1 : Int) (_ : (Lit.int .i64 a0).wf = true) (_ : (Lit.int .i64 a1).wf = true) (w : World) :
    Calls Try.prog 7 #[.int .i64 a0, .int .i64 a1] w fun e w' => e = .returned (.bool true) ∧ Below w.heap.size w w' := by
  obtain ⟨c0, c1, c2, c3, c4, c5, c6, c7, x, y, p, q, m, ⟨h0, h1, h2, h3, h4, h5, h6, h7⟩, ⟨hx, hy⟩, ⟨z0, z1, z2, z3, z4, z5, z6, z7⟩, s1, s2, s3, s4, t1, t2, t3, t4, t5⟩ := orders a0 a1
  have HX := Lib.hid hx
  have HY := Lib.hid hy
  obtain ⟨V, hV⟩ : ∃ V : Nat → Int, V = fun k => [c0, c1, c2, c3, c4, c5, c6, c7].getD k 0 := ⟨_, rfl⟩
  have HB := Lib.hid (show ∀ k, k < 8 → bin (O k) a0 a1 = some (V k) by
    intro k hk
    rcases k_eight hk with rfl | rfl | rfl | rfl | rfl | rfl | rfl | rfl <;> rw [hV] <;> simp only [O, List.getD_cons_zero, List.getD_cons_succ] <;> assumption)
  have HZ := Lib.hid (show ∀ k, k < 8 → V k = 0 ∨ V k = 1 by
    intro k hk
    rcases k_eight hk with rfl | rfl | rfl | rfl | rfl | rfl | rfl | rfl <;> rw [hV] <;> simp only [List.getD_cons_zero, List.getD_cons_succ] <;> assumption)
  have HV := Lib.hid hV
  have HS := Lib.hid (And.intro s1 (And.intro s2 (And.intro s3 (And.intro s4 (And.intro t1 (And.intro t2 (And.intro t3 (And.intro t4 t5))))))))
  clear h0 h1 h2 h3 h4 h5 h6 h7 hx hy z0 z1 z2 z3 z4 z5 z6 z7 s1 s2 s3 s4 t1 t2 t3 t4 t5 hV
  obtain ⟨i0, hi, hz0, hz1, hz2⟩ := info_parts Try.infoI64
  have hmk : ∀ W : World, (Instr.makeSlice 31 (.int .i64 8) (.int .i64 8)).run Try.prog W = .ok (.slice (some ⟨W.heap.size, 0, none⟩) 8 8) (W.alloc (.cells #[.int .i64 0, .int .i64 0, .int .i64 0, .int .i64 0, .int .i64 0, .int .i64 0, .int .i64 0, .int .i64 0] 2)) := by
    intro W
    have h := run_makeSlice (P := Try.prog) W 31 2 i0 (.int .i64 0) Try.underlying31 hi hz0 .i64 .i64 8 8 (by omega) (by omega) (by rw [hz1]; decide) (by rw [hz2]; decide) (by decide)
    rw [h, hz1, show madeCells (Value.int IntKind.i64 0).cells (Int.toNat 8 * 1) = #[.int .i64 0, .int .i64 0, .int .i64 0, .int .i64 0, .int .i64 0, .int .i64 0, .int .i64 0, .int .i64 0] from Array.toList_inj.1 (by rw [show (Value.int IntKind.i64 0).cells = #[.int .i64 0] from rfl, toList_madeCells_one]; rfl)]
    rfl
  go_enter Try.func7, Try.ntmps7
  go_wp2_with fail
  clear hmk
  go_loopw [7] (fun i wr => ∃ k : Nat, k ≤ 8 ∧ i = .int .i64 k ∧ OrdAt w wr V k) (fun i _ => 8 - (intOf i).toNat)
  case atStart => exact ⟨0, by omega, by first | rfl | trivial, ordAt_start w V _ _⟩
  case round =>
    obtain ⟨k, hk, rfl, hM⟩ := hrel
    have HM := Lib.hid hM
    by_cases hk8 : k < 8
    · have c1 := hM.ops k hk8
      have c2 := hM.cur hk8
      have f2 := hM.fz k
      have HC := Lib.hid (HB.out k hk8)
      have hz := HZ.out k hk8
      obtain ⟨o, ho⟩ : ∃ o, o = O k := ⟨_, rfl⟩
      obtain ⟨v, hv⟩ : ∃ v, v = V k := ⟨_, rfl⟩
      rw [← ho] at c1 HC
      rw [← hv] at HC hz
      have HVK := Lib.hid hv
      clear ho hv hM hk
      rcases hz with rfl | rfl
      all_goals
        go_wp2_with (go_at_call 18; refine (bin_at _ _ _ _ _ HC.out).mono ?_; rintro e w' ⟨rfl, rfl⟩)
        go_roundw
        case rel => exact ⟨k + 1, by omega, by go_num, HM.out.next hk8 HVK.out⟩
        case measure => simp [intOf]; omega
    · have hke : k = 8 := by omega
      subst hke
      have g0 := hM.at_ 0 (by omega)
      have g1 := hM.at_ 1 (by omega)
      have g2 := hM.at_ 2 (by omega)
      have g3 := hM.at_ 3 (by omega)
      have g4 := hM.at_ 4 (by omega)
      have g5 := hM.at_ 5 (by omega)
      have g6 := hM.at_ 6 (by omega)
      have g7 := hM.at_ 7 (by omega)
      simp only [HV.out, List.getD_cons_zero, List.getD_cons_succ] at g0 g1 g2 g3 g4 g5 g6 g7
      obtain ⟨s1, s2, s3, s4, t1, t2, t3, t4, t5⟩ := HS.out
      clear hM hk hk8
      go_wp2_with fail
      go_quiet (fail)
      go_wp2_with (go_at_call 19; (first | (with_reducible refine (una_at _ _ _ _ HX.out).mono ?_) | (with_reducible refine (una_at _ _ _ _ HY.out).mono ?_)); rintro e w' ⟨rfl, rfl⟩)
      go_ret
      exact ⟨by simp, HM.out.bel.trans (below_drewN (Below.refl _ _) _ |>.mono HM.out.bel.size)⟩


theorem own : ownKnob Try.prog.godebug = none := by kernel_rfl

set_option maxRecDepth 100000 in
theorem evalOrders_lifted (os : Os) (started : os.Started) (H : Type) (enc : TypeId × Value → H) :
    ReturnsInHanded {} Try.checked os 7 .any (Rows.evalOrdersSpec.pre6 enc Try.prog Try.f7 Rows.evalOrdersRow.domain false) (Rows.evalOrdersSpec.post enc Try.prog Try.f7 false true false false) := by
  refine returnsInHanded_of_change (C := Try.checked) own started (by kernel_rfl) Try.func7
    (ChangeSpec.witness6 (enc := enc) (C := Try.checked) false ⟨#[], #[.int .i64 0, .int .i64 0], []⟩ 8 (by kernel_rfl) (by kernel_rfl) (by kernel_rfl) (by kernel_rfl)) ?_
  intro W base args ds gs before hval0 hW hcnd _
  have hval : ∀ (j : Nat) t v, Try.f7.params[j]? = some t → args[j]? = some v → Value.okWide Try.prog W .any base t v := hval0
  have hW' := hW
  obtain ⟨p, q, hA0, hV, rfl, hfz, hnd⟩ := hW
  have hA : DataW.TrodAll enc Try.prog W 0 (fun _ => true) true Try.f7.params.toList args.toList ds p := hA0
  rw [Try.params7] at hA hval
  obtain ⟨v0, vs0, d0, ds0, p0, q0, hargs, rfl, rfl, h0, r0⟩ := trodAll_cons hA
  obtain ⟨v1, vs1, d1, ds1, p1, q1, rfl, rfl, rfl, h1, r1⟩ := trodAll_cons r0
  obtain ⟨rfl, rfl, rfl⟩ := trodAll_nil r1
  obtain rfl : args = #[v0, v1] := by cases args; simp_all
  obtain ⟨rfl, rfl⟩ := trodVars_none hV
  obtain ⟨a0, rfl, rfl, rfl, w0⟩ := open_int Try.underlying2 (hval 0 2 v0 rfl rfl) h0
  obtain ⟨a1, rfl, rfl, rfl, w1⟩ := open_int Try.underlying2 (hval 1 2 v1 rfl rfl) h1
  clear hA0 hval0
  simp only [List.append_nil] at hW'
  refine (evalOrders_walk a0 a1 w0 w1 W).mono fun e W' ⟨he, hg⟩ => ?_
  subst he
  exact ⟨_, rfl, _, _, _, [], _, [], hW', trodAll_mk1 (shut_bool Try.underlying4 _), (trodAll_cons_mk (shut_int Try.underlying2 w0) (trodAll_cons_mk (shut_int Try.underlying2 w1) trodAll_mk0)), rfl, hg.frame _, fun h => by cases h⟩

theorem evalOrders_over : Rows.evalOrdersRow.holds Try.pinned (OpenSpec.ofChange Rows.evalOrdersSpec) :=
  OpenClaim.holds_of_wide 7 Try.f7 rfl rfl rfl rfl rfl rfl rfl ⟨rfl, rfl, rfl, rfl, rfl⟩ rfl rfl rfl rfl rfl (by kernel_rfl) Try.func7 (by kernel_rfl)
    (of_decide_eq_true (by kernel_rfl)) (by unfold Func.isWrapper; first | (rw [if_pos (by decide +kernel)]; kernel_rfl) | (rw [if_neg (by decide +kernel)]; exact ⟨rfl, rfl⟩))
    (fun os started H enc _ => evalOrders_lifted os started H enc)

theorem evalOrders_holds : Rows.EvalOrdersSaid :=
  evalOrders_over
#print axioms evalOrders_holds
end Go.Proofs.Ytiemibngfckgdaa
