/-
  The walk of CheckNesting.
  CheckNesting returns true; no condition beyond what the row lists.
-/
import Derived.Test.YtkjmcfphkihanaaGreatDoorLwV
namespace Go.Proofs.YtkjmcfphkihanaaGreatDoor
open Go.RowKit
open Par Tok

theorem checkNesting_says0 : Ck.says [108, 111, 99, 107, 32, 109, 32, 123, 32, 108, 111, 99, 107, 32, 110, 32, 123, 32, 119, 97, 105, 116, 32, 99, 59, 32, 125, 32, 110, 111, 116, 105, 102, 121, 32, 99, 59, 32, 125] [114, 101, 97, 100, 32, 114, 32, 123, 32, 116, 114, 97, 110, 115, 97, 99, 116, 105, 111, 110, 32, 123, 32, 120, 32, 61, 32, 49, 59, 32, 125, 32, 125] 0 0 = true := by decide +kernel
theorem checkNesting_says1 : Ck.says [108, 111, 99, 107, 32, 109, 32, 123, 32, 108, 111, 99, 107, 32, 109, 32, 123, 32, 125, 32, 125] [] 7 3 = true := by decide +kernel
theorem checkNesting_says2 : Ck.says [114, 101, 97, 100, 32, 114, 32, 123, 32, 119, 114, 105, 116, 101, 32, 114, 32, 123, 32, 125, 32, 125] [] 7 3 = true := by decide +kernel
theorem checkNesting_says3 : Ck.says [119, 97, 105, 116, 32, 99, 59] [] 7 3 = true := by decide +kernel
theorem checkNesting_says4 : Ck.says [108, 111, 99, 107, 32, 110, 32, 123, 32, 110, 111, 116, 105, 102, 121, 32, 99, 59, 32, 125] [] 7 3 = true := by decide +kernel
theorem checkNesting_says5 : Ck.says [97, 116, 111, 109, 105, 99, 32, 123, 32, 108, 111, 99, 107, 32, 109, 32, 123, 32, 119, 97, 105, 116, 32, 99, 59, 32, 125, 32, 125] [] 7 3 = true := by decide +kernel
theorem checkNesting_says6 : Ck.says [97, 116, 111, 109, 105, 99, 32, 123, 32, 108, 111, 99, 107, 32, 109, 32, 123, 32, 110, 111, 116, 105, 102, 121, 97, 108, 108, 32, 99, 59, 32, 125, 32, 125] [] 0 0 = true := by decide +kernel
theorem checkNesting_says7 : Ck.says [116, 114, 97, 110, 115, 97, 99, 116, 105, 111, 110, 32, 123, 32, 108, 111, 99, 107, 32, 109, 32, 123, 32, 125, 32, 125] [] 7 3 = true := by decide +kernel
theorem checkNesting_says8 : Ck.says [116, 114, 97, 110, 115, 97, 99, 116, 105, 111, 110, 32, 123, 32, 116, 114, 97, 110, 115, 97, 99, 116, 105, 111, 110, 32, 123, 32, 125, 32, 125] [] 7 3 = true := by decide +kernel
theorem checkNesting_says9 : Ck.says [97, 116, 111, 109, 105, 99, 32, 123, 32, 97, 116, 111, 109, 105, 99, 32, 123, 32, 125, 32, 125] [] 7 3 = true := by decide +kernel
theorem checkNesting_says10 : Ck.says [] [97, 116, 111, 109, 105, 99, 32, 123, 32, 106, 111, 105, 110, 32, 119, 59, 32, 125] 7 6 = true := by decide +kernel
theorem checkNesting_says11 : Ck.says [116, 114, 97, 110, 115, 97, 99, 116, 105, 111, 110, 32, 123, 32, 103, 101, 116, 32, 97, 32, 102, 59, 32, 125] [] 7 3 = true := by decide +kernel
set_option maxHeartbeats 8000000 in
set_option maxRecDepth 100000 in
theorem checkNesting_any (w : World) (hv : Two w) (hT : TabF w) :
    Calls Tryz.prog 4 #[] w fun x w' => x = .returned (.bool true) ∧ Below w.heap.size w w' := by
  have HB := Lib.hid (Below.refl w.heap.size w)
  have C0 := Lib.hid (fun W (hb : Below w.heap.size w W) => accepts_any { data := #[108, 111, 99, 107, 32, 109, 32, 123, 32, 108, 111, 99, 107, 32, 110, 32, 123, 32, 119, 97, 105, 116, 32, 99, 59, 32, 125, 32, 110, 111, 116, 105, 102, 121, 32, 99, 59, 32, 125] } { data := #[114, 101, 97, 100, 32, 114, 32, 123, 32, 116, 114, 97, 110, 115, 97, 99, 116, 105, 111, 110, 32, 123, 32, 120, 32, 61, 32, 49, 59, 32, 125, 32, 125] } W (hv.below hb) (hT.below hb) (by decide) checkNesting_says0)
  have C1 : Hid (∀ W, Below w.heap.size w W → Calls Tryz.prog 8 #[.string { data := #[108, 111, 99, 107, 32, 109, 32, 123, 32, 108, 111, 99, 107, 32, 109, 32, 123, 32, 125, 32, 125] }, .string { data := #[] }, .int .i64 7, .int .i64 3] W fun x w' => x = .returned (.bool true) ∧ Below W.heap.size W w') := Lib.hid (fun W (hb : Below w.heap.size w W) => refuses_any { data := #[108, 111, 99, 107, 32, 109, 32, 123, 32, 108, 111, 99, 107, 32, 109, 32, 123, 32, 125, 32, 125] } { data := #[] } 7 3 W (hv.below hb) (hT.below hb) (by decide) checkNesting_says1)
  have C2 : Hid (∀ W, Below w.heap.size w W → Calls Tryz.prog 8 #[.string { data := #[114, 101, 97, 100, 32, 114, 32, 123, 32, 119, 114, 105, 116, 101, 32, 114, 32, 123, 32, 125, 32, 125] }, .string { data := #[] }, .int .i64 7, .int .i64 3] W fun x w' => x = .returned (.bool true) ∧ Below W.heap.size W w') := Lib.hid (fun W (hb : Below w.heap.size w W) => refuses_any { data := #[114, 101, 97, 100, 32, 114, 32, 123, 32, 119, 114, 105, 116, 101, 32, 114, 32, 123, 32, 125, 32, 125] } { data := #[] } 7 3 W (hv.below hb) (hT.below hb) (by decide) checkNesting_says2)
  have C3 : Hid (∀ W, Below w.heap.size w W → Calls Tryz.prog 8 #[.string { data := #[119, 97, 105, 116, 32, 99, 59] }, .string { data := #[] }, .int .i64 7, .int .i64 3] W fun x w' => x = .returned (.bool true) ∧ Below W.heap.size W w') := Lib.hid (fun W (hb : Below w.heap.size w W) => refuses_any { data := #[119, 97, 105, 116, 32, 99, 59] } { data := #[] } 7 3 W (hv.below hb) (hT.below hb) (by decide) checkNesting_says3)
  have C4 : Hid (∀ W, Below w.heap.size w W → Calls Tryz.prog 8 #[.string { data := #[108, 111, 99, 107, 32, 110, 32, 123, 32, 110, 111, 116, 105, 102, 121, 32, 99, 59, 32, 125] }, .string { data := #[] }, .int .i64 7, .int .i64 3] W fun x w' => x = .returned (.bool true) ∧ Below W.heap.size W w') := Lib.hid (fun W (hb : Below w.heap.size w W) => refuses_any { data := #[108, 111, 99, 107, 32, 110, 32, 123, 32, 110, 111, 116, 105, 102, 121, 32, 99, 59, 32, 125] } { data := #[] } 7 3 W (hv.below hb) (hT.below hb) (by decide) checkNesting_says4)
  have C5 : Hid (∀ W, Below w.heap.size w W → Calls Tryz.prog 8 #[.string { data := #[97, 116, 111, 109, 105, 99, 32, 123, 32, 108, 111, 99, 107, 32, 109, 32, 123, 32, 119, 97, 105, 116, 32, 99, 59, 32, 125, 32, 125] }, .string { data := #[] }, .int .i64 7, .int .i64 3] W fun x w' => x = .returned (.bool true) ∧ Below W.heap.size W w') := Lib.hid (fun W (hb : Below w.heap.size w W) => refuses_any { data := #[97, 116, 111, 109, 105, 99, 32, 123, 32, 108, 111, 99, 107, 32, 109, 32, 123, 32, 119, 97, 105, 116, 32, 99, 59, 32, 125, 32, 125] } { data := #[] } 7 3 W (hv.below hb) (hT.below hb) (by decide) checkNesting_says5)
  have C6 := Lib.hid (fun W (hb : Below w.heap.size w W) => accepts_any { data := #[97, 116, 111, 109, 105, 99, 32, 123, 32, 108, 111, 99, 107, 32, 109, 32, 123, 32, 110, 111, 116, 105, 102, 121, 97, 108, 108, 32, 99, 59, 32, 125, 32, 125] } { data := #[] } W (hv.below hb) (hT.below hb) (by decide) checkNesting_says6)
  have C7 : Hid (∀ W, Below w.heap.size w W → Calls Tryz.prog 8 #[.string { data := #[116, 114, 97, 110, 115, 97, 99, 116, 105, 111, 110, 32, 123, 32, 108, 111, 99, 107, 32, 109, 32, 123, 32, 125, 32, 125] }, .string { data := #[] }, .int .i64 7, .int .i64 3] W fun x w' => x = .returned (.bool true) ∧ Below W.heap.size W w') := Lib.hid (fun W (hb : Below w.heap.size w W) => refuses_any { data := #[116, 114, 97, 110, 115, 97, 99, 116, 105, 111, 110, 32, 123, 32, 108, 111, 99, 107, 32, 109, 32, 123, 32, 125, 32, 125] } { data := #[] } 7 3 W (hv.below hb) (hT.below hb) (by decide) checkNesting_says7)
  have C8 : Hid (∀ W, Below w.heap.size w W → Calls Tryz.prog 8 #[.string { data := #[116, 114, 97, 110, 115, 97, 99, 116, 105, 111, 110, 32, 123, 32, 116, 114, 97, 110, 115, 97, 99, 116, 105, 111, 110, 32, 123, 32, 125, 32, 125] }, .string { data := #[] }, .int .i64 7, .int .i64 3] W fun x w' => x = .returned (.bool true) ∧ Below W.heap.size W w') := Lib.hid (fun W (hb : Below w.heap.size w W) => refuses_any { data := #[116, 114, 97, 110, 115, 97, 99, 116, 105, 111, 110, 32, 123, 32, 116, 114, 97, 110, 115, 97, 99, 116, 105, 111, 110, 32, 123, 32, 125, 32, 125] } { data := #[] } 7 3 W (hv.below hb) (hT.below hb) (by decide) checkNesting_says8)
  have C9 : Hid (∀ W, Below w.heap.size w W → Calls Tryz.prog 8 #[.string { data := #[97, 116, 111, 109, 105, 99, 32, 123, 32, 97, 116, 111, 109, 105, 99, 32, 123, 32, 125, 32, 125] }, .string { data := #[] }, .int .i64 7, .int .i64 3] W fun x w' => x = .returned (.bool true) ∧ Below W.heap.size W w') := Lib.hid (fun W (hb : Below w.heap.size w W) => refuses_any { data := #[97, 116, 111, 109, 105, 99, 32, 123, 32, 97, 116, 111, 109, 105, 99, 32, 123, 32, 125, 32, 125] } { data := #[] } 7 3 W (hv.below hb) (hT.below hb) (by decide) checkNesting_says9)
  have C10 : Hid (∀ W, Below w.heap.size w W → Calls Tryz.prog 8 #[.string { data := #[] }, .string { data := #[97, 116, 111, 109, 105, 99, 32, 123, 32, 106, 111, 105, 110, 32, 119, 59, 32, 125] }, .int .i64 7, .int .i64 6] W fun x w' => x = .returned (.bool true) ∧ Below W.heap.size W w') := Lib.hid (fun W (hb : Below w.heap.size w W) => refuses_any { data := #[] } { data := #[97, 116, 111, 109, 105, 99, 32, 123, 32, 106, 111, 105, 110, 32, 119, 59, 32, 125] } 7 6 W (hv.below hb) (hT.below hb) (by decide) checkNesting_says10)
  have C11 : Hid (∀ W, Below w.heap.size w W → Calls Tryz.prog 8 #[.string { data := #[116, 114, 97, 110, 115, 97, 99, 116, 105, 111, 110, 32, 123, 32, 103, 101, 116, 32, 97, 32, 102, 59, 32, 125] }, .string { data := #[] }, .int .i64 7, .int .i64 3] W fun x w' => x = .returned (.bool true) ∧ Below W.heap.size W w') := Lib.hid (fun W (hb : Below w.heap.size w W) => refuses_any { data := #[116, 114, 97, 110, 115, 97, 99, 116, 105, 111, 110, 32, 123, 32, 103, 101, 116, 32, 97, 32, 102, 59, 32, 125] } { data := #[] } 7 3 W (hv.below hb) (hT.below hb) (by decide) checkNesting_says11)
  clear hv hT
  go_enter Tryz.func4, Tryz.ntmps4
  go_wp2_with (first
    | (go_at_call 7; (with_reducible refine (C0.out _ HB.out).mono ?_); rintro x w2 ⟨rfl, hb2⟩; replace HB := Lib.hid (HB.out.trans (hb2.mono HB.out.size)); clear hb2)
    | (go_at_call 8; (with_reducible refine (C1.out _ HB.out).mono ?_); rintro x w2 ⟨rfl, hb2⟩; replace HB := Lib.hid (HB.out.trans (hb2.mono HB.out.size)); clear hb2)
    | (go_at_call 8; (with_reducible refine (C2.out _ HB.out).mono ?_); rintro x w2 ⟨rfl, hb2⟩; replace HB := Lib.hid (HB.out.trans (hb2.mono HB.out.size)); clear hb2)
    | (go_at_call 8; (with_reducible refine (C3.out _ HB.out).mono ?_); rintro x w2 ⟨rfl, hb2⟩; replace HB := Lib.hid (HB.out.trans (hb2.mono HB.out.size)); clear hb2)
    | (go_at_call 8; (with_reducible refine (C4.out _ HB.out).mono ?_); rintro x w2 ⟨rfl, hb2⟩; replace HB := Lib.hid (HB.out.trans (hb2.mono HB.out.size)); clear hb2)
    | (go_at_call 8; (with_reducible refine (C5.out _ HB.out).mono ?_); rintro x w2 ⟨rfl, hb2⟩; replace HB := Lib.hid (HB.out.trans (hb2.mono HB.out.size)); clear hb2)
    | (go_at_call 7; (with_reducible refine (C6.out _ HB.out).mono ?_); rintro x w2 ⟨rfl, hb2⟩; replace HB := Lib.hid (HB.out.trans (hb2.mono HB.out.size)); clear hb2)
    | (go_at_call 8; (with_reducible refine (C7.out _ HB.out).mono ?_); rintro x w2 ⟨rfl, hb2⟩; replace HB := Lib.hid (HB.out.trans (hb2.mono HB.out.size)); clear hb2)
    | (go_at_call 8; (with_reducible refine (C8.out _ HB.out).mono ?_); rintro x w2 ⟨rfl, hb2⟩; replace HB := Lib.hid (HB.out.trans (hb2.mono HB.out.size)); clear hb2)
    | (go_at_call 8; (with_reducible refine (C9.out _ HB.out).mono ?_); rintro x w2 ⟨rfl, hb2⟩; replace HB := Lib.hid (HB.out.trans (hb2.mono HB.out.size)); clear hb2)
    | (go_at_call 8; (with_reducible refine (C10.out _ HB.out).mono ?_); rintro x w2 ⟨rfl, hb2⟩; replace HB := Lib.hid (HB.out.trans (hb2.mono HB.out.size)); clear hb2)
    | (go_at_call 8; (with_reducible refine (C11.out _ HB.out).mono ?_); rintro x w2 ⟨rfl, hb2⟩; replace HB := Lib.hid (HB.out.trans (hb2.mono HB.out.size)); clear hb2))
  go_ret
  exact ⟨rfl, HB.out⟩
end Go.Proofs.YtkjmcfphkihanaaGreatDoor

namespace Go.Proofs.YtkjmcfphkihanaaGreatDoor
open Go.ChangeShapes Go.WideShapes Go.ChangeAt Go.WideMaps Go.WideElems Go.RowKit
open Go.ChangeMaps (setBlock shut_map_nil open_string shut_string keptBut_setBlock frozen?_setBlock heap_setBlock_same)
open Tok Par

set_option maxRecDepth 100000 in
theorem checkNesting_lifted (os : Os) (started : os.Started) (H : Type) (enc : TypeId × Value → H) :
    ReturnsInHanded {} Tryz.checked os 4 .any (fun w args => (Rows.checkNestingSpec.pre enc Tryz.prog Tryz.f4 [] false w args ∧ laidMetH Tryz.prog Rows.checkNestingRow.laid w) ∧ sizedMet enc Tryz.prog Tryz.f4 (OpenSpec.ofChange Rows.checkNestingSpec) false w args)
      (Rows.checkNestingSpec.post enc Tryz.prog Tryz.f4 false true false false) := by
  refine returnsInHanded_of_change_and (C := Tryz.checked) (X := fun w _ => laidMetH Tryz.prog Rows.checkNestingRow.laid w) (fun _ _ _ hh h => h.of_heap hh) own started (by kernel_rfl) Tryz.func4
    (ChangeSpec.witness_shaped (enc := enc) (C := Tryz.checked) (os := os) (X := fun w _ => laidMetH Tryz.prog Rows.checkNestingRow.laid w) false (World.doorLaid Tryz.prog 400 os) #[] 8 rfl (World.shaped_of_RefB (by kernel_rfl) (by kernel_rfl)) (by kernel_rfl) (by kernel_rfl) (by kernel_rfl) (door_met os _)) ?_
  intro W base args ds gs before hval0 hW _ _ hL _
  have hval : ∀ (j : Nat) t v, Tryz.f4.params[j]? = some t → args[j]? = some v → Value.okWide Tryz.prog W .any base t v := hval0
  have hW' := hW
  obtain ⟨p, q, hA0, hV, rfl, hfz, hnd⟩ := hW
  have hA : DataW.TrodAll enc Tryz.prog W 0 (fun _ => true) true Tryz.f4.params.toList args.toList ds p := hA0
  rw [Tryz.params4] at hA hval
  obtain ⟨rfl, rfl, rfl⟩ := trodAll_none hA
  obtain ⟨rfl, rfl⟩ := trodVars_none hV
  clear hA0 hval0
  simp only [List.append_nil] at hW'
  refine (checkNesting_any W (vars_of hL) (tab_of hL)).mono fun e W' ⟨he, hb⟩ => ?_
  subst he
  exact ⟨_, rfl, _, _, _, [], _, [], hW', trodAll_mk1 (shut_bool Tryz.underlying4 _), trodAll_mk0, rfl, hb.frame _, fun h => by cases h⟩

set_option maxHeartbeats 8000000 in
theorem checkNesting_holds : Rows.CheckNestingSaid :=
  OpenClaim.holds_of_wide 4 Tryz.f4 rfl rfl rfl rfl rfl rfl rfl ⟨rfl, rfl, rfl, rfl, rfl⟩ rfl rfl rfl rfl rfl (by as_aux_lemma => kernel_rfl) Tryz.func4 (by
      unfold joinedFacts
      simp only [Bool.and_eq_true]
      and_intros
      all_goals (as_aux_lemma => kernel_rfl))
    (by as_aux_lemma => exact of_decide_eq_true (by kernel_rfl)) (by unfold Func.isWrapper; first | (rw [if_pos (by decide +kernel)]; kernel_rfl) | (rw [if_neg (by decide +kernel)]; exact ⟨rfl, rfl⟩))
    (fun os started H enc _ => checkNesting_lifted os started H enc)
set_option maxHeartbeats 8000000 in
theorem checkNesting_card : Rows.CheckNestingCardSaid :=
  Claim7.holds_tied_plain_at .later [] Rows.checkNestingCard.laidKinds true Rows.checkNestingCard.stood.harness Rows.checkNestingCard.stood.looks
    checkNesting_holds (fun _ h => by cases h) (by as_aux_lemma => kernel_rfl) (fun _ h => by cases h) checkNesting_row_tie rfl ⟨rfl, rfl⟩ (by as_aux_lemma => kernel_rfl) rfl
    (fun f fn hf hfn => by
      obtain rfl : f = 4 := Option.some.inj ((show Tryz.prog.funcNamed Rows.checkNestingRow.func = some 4 by kernel_rfl).symm.trans hf) |>.symm
      obtain rfl : fn = Tryz.f4 := (Option.some.inj (Tryz.func4.symm.trans hfn)).symm
      exact ⟨by as_aux_lemma => kernel_rfl, fun j t ht => by
        rw [Tryz.params4] at ht
        simp at ht⟩)
    (by as_aux_lemma => kernel_rfl)
end Go.Proofs.YtkjmcfphkihanaaGreatDoor
