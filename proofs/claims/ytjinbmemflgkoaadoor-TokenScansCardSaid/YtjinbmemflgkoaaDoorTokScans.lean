/-
  TokenScans returns true for every string: Scan returns the reference's tokens, or its error and line; no condition beyond what the row lists.
-/
import Derived.Test.YtjinbmemflgkoaaDoorRefC
namespace Go.Proofs.YtjinbmemflgkoaaDoor
open Go.ChangeShapes Go.WideShapes Go.ChangeAt Go.WideMaps Go.WideElems Go.RowKit
open Go.ChangeMaps (setBlock shut_map_nil open_string shut_string keptBut_setBlock frozen?_setBlock heap_setBlock_same)
open Tok

set_option maxHeartbeats 1000000 in
theorem tokenScans_any (s : ByteArray) (w : World) (hv : Vars w) (hs : s.size ≤ maxLen) : Calls Tryd.prog 3 #[.string s] w fun e w' => e = .returned (.bool true) ∧ Below w.heap.size w w' := by
  have HV := Lib.hid hv
  obtain ⟨ts, er, ln, hsc⟩ : ∃ ts er ln, scan s.data.toList = (ts, er, ln) := ⟨_, _, _, rfl⟩
  have hts := scan_len s.data.toList
  rw [hsc] at hts
  have c1 := Lib.hid (scan_at s w rfl hsc hv hs)
  have c2 : RowKit.Hid (∀ W : World, Calls Tryd.prog 12 #[.string s] W fun e w' => ∃ v, e = .returned (.tuple #[v, .int .i64 er, .int .i64 ln]) ∧ w'.ownsRow W.heap.size 30 3 v ts.length (cells ts) ∧ Below W.heap.size W w') := by
    show ∀ W : World, _
    intro W
    refine (refScan_any s W hs).mono ?_
    rintro e w' ⟨v, he, ho, hb⟩
    rw [hsc] at he ho
    exact ⟨v, he, ho, hb⟩
  unfold maxLen at hs
  clear hv hsc
  by_cases h5 : s.size ≤ 5000
  · go_enter Tryd.func3, Tryd.ntmps3
    go_wp2_with fail
    refine c1.out.mono ?_
    rintro e w1 ⟨v1, rfl, ho1, hb1⟩
    have HV1 := Lib.hid (HV.out.below hb1)
    have HT1 := Lib.hid (Toks.of_own ho1)
    clear ho1
    go_wp2_with fail
    refine (c2.out _).mono ?_
    rintro e w2 ⟨v2, rfl, ho2, hb2⟩
    have HV2 := Lib.hid (HV1.out.below hb2)
    have c3 := Lib.hid (same_any ts v1 v2 w2 (HT1.out.below hb2) (Toks.of_own ho2) (by omega))
    clear ho2
    go_wp2_with (first
      | (go_at_call 13; refine c3.out.mono ?_; rintro e w3 ⟨rfl, hb3⟩; have HV3 := Lib.hid (HV2.out.below hb3))
      | (go_at_call 14; refine (awake_any _ HV3.out).mono ?_; rintro e w4 ⟨rfl, hb4⟩))
    go_ret
    exact ⟨ret_bool rfl, below_trans (below_trans (below_trans hb1 hb2) hb3) hb4⟩
  · go_enter Tryd.func3, Tryd.ntmps3
    go_wp2_with fail
    go_ret
    exact ⟨ret_bool rfl, Below.refl _ _⟩

set_option maxRecDepth 100000 in
theorem tokenScans_lifted (os : Os) (started : os.Started) (H : Type) (enc : TypeId × Value → H) :
    ReturnsInHanded {} Tryd.checked os 3 .any (fun w args => (Rows.tokenScansSpec.pre enc Tryd.prog Tryd.f3 [] false w args ∧ laidMetH Tryd.prog Rows.tokenScansRow.laid w) ∧ sizedMet enc Tryd.prog Tryd.f3 (OpenSpec.ofChange Rows.tokenScansSpec) false w args)
      (Rows.tokenScansSpec.post enc Tryd.prog Tryd.f3 false true false false) := by
  refine returnsInHanded_of_change_and (C := Tryd.checked) (X := fun w _ => laidMetH Tryd.prog Rows.tokenScansRow.laid w) (fun _ _ _ hh h => h.of_heap hh) own started (by kernel_rfl) Tryd.func3
    (ChangeSpec.witness_shaped (enc := enc) (C := Tryd.checked) (os := os) (X := fun w _ => laidMetH Tryd.prog Rows.tokenScansRow.laid w) false (World.doorLaid Tryd.prog 400 os) #[.string ⟨#[]⟩] 8 rfl (World.shaped_of_RefB (by kernel_rfl) (by kernel_rfl)) (by kernel_rfl) (by kernel_rfl) (by kernel_rfl) (door_met os _)) ?_
  intro W base args ds gs before hval0 hW _ _ hL _
  have hval : ∀ (j : Nat) t v, Tryd.f3.params[j]? = some t → args[j]? = some v → Value.okWide Tryd.prog W .any base t v := hval0
  have hW' := hW
  obtain ⟨p, q, hA0, hV, rfl, hfz, hnd⟩ := hW
  have hA : DataW.TrodAll enc Tryd.prog W 0 (fun _ => true) true Tryd.f3.params.toList args.toList ds p := hA0
  rw [Tryd.params3] at hA hval
  obtain ⟨v0, d0, rfl, rfl, h0⟩ := trodAll_one hA
  obtain ⟨rfl, rfl⟩ := trodVars_none hV
  obtain ⟨s0, rfl, rfl, rfl, hs0⟩ := open_string Tryd.underlying9 (hval 0 9 v0 rfl rfl) h0
  clear hA0 hval0
  simp only [List.append_nil] at hW'
  refine (tokenScans_any s0 W (vars_of hL) hs0).mono fun e W' ⟨he, hb⟩ => ?_
  subst he
  exact ⟨_, rfl, _, _, _, [], _, [], hW', trodAll_mk1 (shut_bool Tryd.underlying4 _), (trodAll_cons_mk (shut_string Tryd.underlying9 hs0) trodAll_mk0), rfl, hb.frame _, fun h => by cases h⟩

theorem tokenScans_holds : Rows.TokenScansSaid :=
  OpenClaim.holds_of_wide 3 Tryd.f3 rfl rfl rfl rfl rfl rfl rfl ⟨rfl, rfl, rfl, rfl, rfl⟩ rfl rfl rfl rfl rfl (by kernel_rfl) Tryd.func3 (by kernel_rfl)
    (of_decide_eq_true (by kernel_rfl)) (by unfold Func.isWrapper; first | (rw [if_pos (by decide +kernel)]; kernel_rfl) | (rw [if_neg (by decide +kernel)]; exact ⟨rfl, rfl⟩))
    (fun os started H enc _ => tokenScans_lifted os started H enc)
theorem tokenScans_card : Rows.TokenScansCardSaid :=
  Claim7.holds_tied_plain_at .later [] Rows.tokenScansCard.laidKinds true Rows.tokenScansCard.stood.harness true
    tokenScans_holds (fun _ h => by cases h) (by kernel_rfl) (fun _ h => by cases h) tokenScans_row_tie rfl ⟨rfl, rfl⟩ (by kernel_rfl) rfl
    (fun f fn hf hfn => by
      obtain rfl : f = 3 := Option.some.inj ((show Tryd.prog.funcNamed Rows.tokenScansRow.func = some 3 by kernel_rfl).symm.trans hf) |>.symm
      obtain rfl : fn = Tryd.f3 := (Option.some.inj (Tryd.func3.symm.trans hfn)).symm
      exact ⟨by kernel_rfl, fun j t ht => by
        rw [Tryd.params3] at ht
        have hm : t ∈ [9] := by simpa using Array.mem_of_getElem? ht
        have hall : ([9].all fun u => !Tryd.prog.wantsStandIn u) = true := by kernel_rfl
        exact (show Tryd.prog.wantsStandIn t = false by simpa using List.all_eq_true.1 hall t hm)⟩)
    (by kernel_rfl)
end Go.Proofs.YtjinbmemflgkoaaDoor
