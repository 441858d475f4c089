/-
  TokenNumbers returns true: 2^63 - 1 is a number and 2^63 an error on line 2, a number directly followed by a letter or an underscore is an error, and leading zeros stay; no input, no condition beyond what the row lists.
-/
import Derived.Test.YtjinbmemflgkoaaDoorTokG
namespace Go.Proofs.YtjinbmemflgkoaaDoor
open Go.ChangeShapes Go.WideShapes Go.ChangeAt Go.WideMaps Go.WideElems Go.RowKit
open Tok

set_option maxHeartbeats 1000000 in
theorem tokenNumbers_any (w : World) (hv : Vars w) : Calls Tryd.prog 10 #[] w fun e w' => e = .returned (.bool true) ∧ Below w.heap.size w w' := by
  have hv0 := Lib.hid hv
  have c1 := Lib.hid (scan_at (l := [57, 50, 50, 51, 51, 55, 50, 48, 51, 54, 56, 53, 52, 55, 55, 53, 56, 48, 55, 32, 48, 48, 55]) (ts := [(2, [57, 50, 50, 51, 51, 55, 50, 48, 51, 54, 56, 53, 52, 55, 55, 53, 56, 48, 55], 1), (2, [48, 48, 55], 1)]) (er := 0) (ln := 0) ⟨#[57, 50, 50, 51, 51, 55, 50, 48, 51, 54, 56, 53, 52, 55, 55, 53, 56, 48, 55, 32, 48, 48, 55]⟩ w rfl (by decide +kernel) hv (by decide +kernel))
  have c2 := Lib.hid (fun w hv => scan_at (l := [10, 57, 50, 50, 51, 51, 55, 50, 48, 51, 54, 56, 53, 52, 55, 55, 53, 56, 48, 56]) (ts := []) (er := 3) (ln := 2) ⟨#[10, 57, 50, 50, 51, 51, 55, 50, 48, 51, 54, 56, 53, 52, 55, 55, 53, 56, 48, 56]⟩ w rfl (by decide +kernel) hv (by decide +kernel))
  have c3 := Lib.hid (fun w hv => scan_at (l := [49, 120]) (ts := []) (er := 3) (ln := 1) ⟨#[49, 120]⟩ w rfl (by decide +kernel) hv (by decide +kernel))
  have c4 := Lib.hid (fun w hv => scan_at (l := [49, 95]) (ts := []) (er := 3) (ln := 1) ⟨#[49, 95]⟩ w rfl (by decide +kernel) hv (by decide +kernel))
  clear hv
  go_enter Tryd.func10, Tryd.ntmps10
  go_wp2_with fail
  refine c1.out.mono ?_
  rintro e w1 ⟨v, rfl, ho, hb1⟩
  obtain ⟨g, cap, rfl, hg1, hg2, hc⟩ := toks_form ho (by decide)
  have hv1 := Lib.hid (hv0.out.below hb1)
  go_wp2_with fail
  refine (c2.out _ hv1.out).mono ?_
  rintro e w2 ⟨v2, rfl, _, hb2⟩
  have hv2 := Lib.hid (hv1.out.below hb2)
  go_wp2_with fail
  refine (c3.out _ hv2.out).mono ?_
  rintro e w3 ⟨v3, rfl, _, hb3⟩
  have hv3 := Lib.hid (hv2.out.below hb3)
  go_wp2_with fail
  refine (c4.out _ hv3.out).mono ?_
  rintro e w4 ⟨v4, rfl, _, hb4⟩
  have hb := below_trans (below_trans hb2 hb3) hb4
  have k0 : w4.cell? ⟨g, 0, none⟩ = some (.int .i64 2) := (hb.cell (p := ⟨g, 0, none⟩) hg2).trans (hc 0 _ rfl)
  have k1 : w4.cell? ⟨g, 4, none⟩ = some (.string ⟨#[48, 48, 55]⟩) := (hb.cell (p := ⟨g, 4, none⟩) hg2).trans (hc 4 _ rfl)
  clear hc ho
  go_wp2_with fail
  go_ret
  exact ⟨ret_bool rfl, below_trans hb1 hb⟩

set_option maxRecDepth 100000 in
theorem tokenNumbers_lifted (os : Os) (started : os.Started) (H : Type) (enc : TypeId × Value → H) :
    ReturnsInHanded {} Tryd.checked os 10 .any (fun w args => (Rows.tokenNumbersSpec.pre enc Tryd.prog Tryd.f10 [] false w args ∧ laidMetH Tryd.prog Rows.tokenNumbersRow.laid w) ∧ sizedMet enc Tryd.prog Tryd.f10 (OpenSpec.ofChange Rows.tokenNumbersSpec) false w args)
      (Rows.tokenNumbersSpec.post enc Tryd.prog Tryd.f10 false true false false) := by
  refine returnsInHanded_of_change_and (C := Tryd.checked) (X := fun w _ => laidMetH Tryd.prog Rows.tokenNumbersRow.laid w) (fun _ _ _ hh h => h.of_heap hh) own started (by kernel_rfl) Tryd.func10
    (ChangeSpec.witness_shaped (enc := enc) (C := Tryd.checked) (os := os) (X := fun w _ => laidMetH Tryd.prog Rows.tokenNumbersRow.laid w) false (World.doorLaid Tryd.prog 400 os) #[] 8 rfl (World.shaped_of_RefB (by kernel_rfl) (by kernel_rfl)) (by kernel_rfl) (by kernel_rfl) (by kernel_rfl) (door_met os _)) ?_
  intro W base args ds gs before hval0 hW _ _ hL _
  have hval : ∀ (j : Nat) t v, Tryd.f10.params[j]? = some t → args[j]? = some v → Value.okWide Tryd.prog W .any base t v := hval0
  have hW' := hW
  obtain ⟨p, q, hA0, hV, rfl, hfz, hnd⟩ := hW
  have hA : DataW.TrodAll enc Tryd.prog W 0 (fun _ => true) true Tryd.f10.params.toList args.toList ds p := hA0
  rw [Tryd.params10] at hA hval
  obtain ⟨rfl, rfl, rfl⟩ := trodAll_none hA
  obtain ⟨rfl, rfl⟩ := trodVars_none hV
  clear hA0 hval0
  simp only [List.append_nil] at hW'
  refine (tokenNumbers_any W (vars_of hL)).mono fun e W' ⟨he, hb⟩ => ?_
  subst he
  exact ⟨_, rfl, _, _, _, [], _, [], hW', trodAll_mk1 (shut_bool Tryd.underlying4 _), trodAll_mk0, rfl, hb.frame _, fun h => by cases h⟩

theorem tokenNumbers_holds : Rows.TokenNumbersSaid :=
  OpenClaim.holds_of_wide 10 Tryd.f10 rfl rfl rfl rfl rfl rfl rfl ⟨rfl, rfl, rfl, rfl, rfl⟩ rfl rfl rfl rfl rfl (by kernel_rfl) Tryd.func10 (by kernel_rfl)
    (of_decide_eq_true (by kernel_rfl)) (by unfold Func.isWrapper; first | (rw [if_pos (by decide +kernel)]; kernel_rfl) | (rw [if_neg (by decide +kernel)]; exact ⟨rfl, rfl⟩))
    (fun os started H enc _ => tokenNumbers_lifted os started H enc)
theorem tokenNumbers_card : Rows.TokenNumbersCardSaid :=
  Claim7.holds_tied_plain_at .later [] Rows.tokenNumbersCard.laidKinds true Rows.tokenNumbersCard.stood.harness true
    tokenNumbers_holds (fun _ h => by cases h) (by kernel_rfl) (fun _ h => by cases h) tokenNumbers_row_tie rfl ⟨rfl, rfl⟩ (by kernel_rfl) rfl
    (fun f fn hf hfn => by
      obtain rfl : f = 10 := Option.some.inj ((show Tryd.prog.funcNamed Rows.tokenNumbersRow.func = some 10 by kernel_rfl).symm.trans hf) |>.symm
      obtain rfl : fn = Tryd.f10 := (Option.some.inj (Tryd.func10.symm.trans hfn)).symm
      exact ⟨by kernel_rfl, fun j t ht => by
        rw [Tryd.params10] at ht
        simp at ht⟩)
    (by kernel_rfl)
end Go.Proofs.YtjinbmemflgkoaaDoor
