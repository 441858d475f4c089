/-
  TokenComments returns true for every two strings: a comment behind a space at the end of a text changes nothing in what Scan returns; no condition beyond what the row lists.
-/
import Derived.Test.YtjinbmemflgkoaaDoorTokSame
import Derived.Test.YtjinbmemflgkoaaDoorTokLaws2
namespace Go.Proofs.YtjinbmemflgkoaaDoor
open Go.ChangeShapes Go.WideShapes Go.ChangeAt Go.WideMaps Go.WideElems Go.RowKit
open Go.ChangeMaps (setBlock shut_map_nil open_string shut_string keptBut_setBlock frozen?_setBlock heap_setBlock_same)
open Tok

set_option maxHeartbeats 1000000 in
theorem tokenComments_any (s c : ByteArray) (w : World) (hv : Vars w) (hs : s.size ≤ maxLen) (hcs : c.size ≤ maxLen) : Calls Tryd.prog 7 #[.string s, .string c] w fun e w' => e = .returned (.bool true) ∧ Below w.heap.size w w' := by
  have HV := Lib.hid hv
  unfold maxLen at hs hcs
  clear hv
  by_cases h1 : s.size ≤ 500
  · by_cases h2 : c.size ≤ 500
    · go_enter Tryd.func7, Tryd.ntmps7
      go_wp2_with fail
      go_loop [5] (fun iv => ∃ k : Nat, k ≤ c.size ∧ iv = .int .i64 k ∧ RowKit.Hid (∀ j, (hj : j < c.size) → j < k → c[j] ≠ 10)) (fun iv => c.size - (intOf iv).toNat)
      case atStart => exact ⟨0, by omega, rfl, fun j hj h => absurd h (by omega)⟩
      case round =>
        obtain ⟨k, hk, rfl, HN⟩ := hrel
        by_cases hlt : k < c.size
        · by_cases he : c[k] = 10
          · have hb : ((c[k].toNat : Int) == 10) = true := by rw [he]; rfl
            clear he
            go_wp2_with fail
            go_ret
            exact ⟨ret_bool rfl, Below.refl _ _⟩
          · have hb : ((c[k].toNat : Int) == 10) = false := by
              have : c[k].toNat ≠ 10 := fun e => he (UInt8.toNat_inj.1 (by rw [e]; rfl))
              simp
              omega
            have HE := Lib.hid he
            clear he
            go_wp2_with fail
            go_round
            case rel =>
              refine ⟨k + 1, by omega, by go_num, fun j hj h => ?_⟩
              rcases Nat.lt_or_ge j k with h3 | h3
              · exact HN.out j hj h3
              · obtain rfl : j = k := by omega
                exact HE.out
            case measure => simp [intOf]; omega
        · have hc : (10 : UInt8) ∉ c.data.toList := by
            intro hm
            obtain ⟨j, hj, e⟩ := List.getElem_of_mem hm
            rw [size_list] at hj
            exact HN.out j hj (by omega) e
          obtain ⟨ts, er, ln, hsc⟩ : ∃ ts er ln, scan s.data.toList = (ts, er, ln) := ⟨_, _, _, rfl⟩
          have hts := scan_len s.data.toList
          rw [hsc] at hts
          have hsc2 : scan ((s ++ ⟨#[32, 47, 47]⟩) ++ c).data.toList = (ts, er, ln) := by
            rw [append_data, append_data, ← hsc]
            exact scan_comment _ _ (by rw [size_list]; exact h1) (by rw [size_list]; exact h2) hc
          have c1 := Lib.hid (scan_at s w rfl hsc HV.out (by unfold maxLen; omega))
          have c2 := Lib.hid (fun w hv => scan_at ((s ++ ⟨#[32, 47, 47]⟩) ++ c) w rfl hsc2 hv (by rw [append_size, append_size]; show s.size + 3 + c.size ≤ maxLen; unfold maxLen; omega))
          have h3 : ((er : Nat) : Int) == (er : Int) := by simp
          clear hsc hsc2 hc
          go_wp2_with fail
          refine c1.out.mono ?_
          rintro e w1 ⟨v1, rfl, ho1, hb1⟩
          have HV1 := Lib.hid (HV.out.below hb1)
          have HT1 := Lib.hid (Toks.of_own ho1)
          clear ho1
          go_wp2_with fail
          refine (c2.out _ HV1.out).mono ?_
          rintro e w2 ⟨v2, rfl, ho2, hb2⟩
          have HV2 := Lib.hid (HV1.out.below hb2)
          have c3 := Lib.hid (same_any ts v1 v2 w2 (HT1.out.below hb2) (Toks.of_own ho2) (by omega))
          clear ho2
          go_wp2_with (first
            | (go_at_call 13; refine c3.out.mono ?_; rintro e w3 ⟨rfl, hb3⟩; have HV3 := Lib.hid (HV2.out.below hb3))
            | (go_at_call 14; refine (awake_any _ HV3.out).mono ?_; rintro e w4 ⟨rfl, hb4⟩))
          go_ret
          exact ⟨ret_bool rfl, below_trans (below_trans (below_trans hb1 hb2) hb3) hb4⟩
    · go_enter Tryd.func7, Tryd.ntmps7
      go_wp2_with fail
      go_ret
      exact ⟨ret_bool rfl, Below.refl _ _⟩
  · go_enter Tryd.func7, Tryd.ntmps7
    go_wp2_with fail
    go_ret
    exact ⟨ret_bool rfl, Below.refl _ _⟩

set_option maxRecDepth 100000 in
theorem tokenComments_lifted (os : Os) (started : os.Started) (H : Type) (enc : TypeId × Value → H) :
    ReturnsInHanded {} Tryd.checked os 7 .any (fun w args => (Rows.tokenCommentsSpec.pre enc Tryd.prog Tryd.f7 [] false w args ∧ laidMetH Tryd.prog Rows.tokenCommentsRow.laid w) ∧ sizedMet enc Tryd.prog Tryd.f7 (OpenSpec.ofChange Rows.tokenCommentsSpec) false w args)
      (Rows.tokenCommentsSpec.post enc Tryd.prog Tryd.f7 false true false false) := by
  refine returnsInHanded_of_change_and (C := Tryd.checked) (X := fun w _ => laidMetH Tryd.prog Rows.tokenCommentsRow.laid w) (fun _ _ _ hh h => h.of_heap hh) own started (by kernel_rfl) Tryd.func7
    (ChangeSpec.witness_shaped (enc := enc) (C := Tryd.checked) (os := os) (X := fun w _ => laidMetH Tryd.prog Rows.tokenCommentsRow.laid w) false (World.doorLaid Tryd.prog 400 os) #[.string ⟨#[]⟩, .string ⟨#[]⟩] 8 rfl (World.shaped_of_RefB (by kernel_rfl) (by kernel_rfl)) (by kernel_rfl) (by kernel_rfl) (by kernel_rfl) (door_met os _)) ?_
  intro W base args ds gs before hval0 hW _ _ hL _
  have hval : ∀ (j : Nat) t v, Tryd.f7.params[j]? = some t → args[j]? = some v → Value.okWide Tryd.prog W .any base t v := hval0
  have hW' := hW
  obtain ⟨p, q, hA0, hV, rfl, hfz, hnd⟩ := hW
  have hA : DataW.TrodAll enc Tryd.prog W 0 (fun _ => true) true Tryd.f7.params.toList args.toList ds p := hA0
  rw [Tryd.params7] at hA hval
  obtain ⟨v0, v1, d0, d1, p0, p1, rfl, rfl, rfl, h0, h1⟩ := trodAll_two hA
  obtain ⟨rfl, rfl⟩ := trodVars_none hV
  obtain ⟨s0, rfl, rfl, rfl, hs0⟩ := open_string Tryd.underlying9 (hval 0 9 v0 rfl rfl) h0
  obtain ⟨s1, rfl, rfl, rfl, hs1⟩ := open_string Tryd.underlying9 (hval 1 9 v1 rfl rfl) h1
  clear hA0 hval0
  simp only [List.append_nil] at hW'
  refine (tokenComments_any s0 s1 W (vars_of hL) hs0 hs1).mono fun e W' ⟨he, hb⟩ => ?_
  subst he
  exact ⟨_, rfl, _, _, _, [], _, [], hW', trodAll_mk1 (shut_bool Tryd.underlying4 _), (trodAll_cons_mk (shut_string Tryd.underlying9 hs0) (trodAll_cons_mk (shut_string Tryd.underlying9 hs1) trodAll_mk0)), rfl, hb.frame _, fun h => by cases h⟩

theorem tokenComments_holds : Rows.TokenCommentsSaid :=
  OpenClaim.holds_of_wide 7 Tryd.f7 rfl rfl rfl rfl rfl rfl rfl ⟨rfl, rfl, rfl, rfl, rfl⟩ rfl rfl rfl rfl rfl (by kernel_rfl) Tryd.func7 (by kernel_rfl)
    (of_decide_eq_true (by kernel_rfl)) (by unfold Func.isWrapper; first | (rw [if_pos (by decide +kernel)]; kernel_rfl) | (rw [if_neg (by decide +kernel)]; exact ⟨rfl, rfl⟩))
    (fun os started H enc _ => tokenComments_lifted os started H enc)
theorem tokenComments_card : Rows.TokenCommentsCardSaid :=
  Claim7.holds_tied_plain_at .later [] Rows.tokenCommentsCard.laidKinds true Rows.tokenCommentsCard.stood.harness true
    tokenComments_holds (fun _ h => by cases h) (by kernel_rfl) (fun _ h => by cases h) tokenComments_row_tie rfl ⟨rfl, rfl⟩ (by kernel_rfl) rfl
    (fun f fn hf hfn => by
      obtain rfl : f = 7 := Option.some.inj ((show Tryd.prog.funcNamed Rows.tokenCommentsRow.func = some 7 by kernel_rfl).symm.trans hf) |>.symm
      obtain rfl : fn = Tryd.f7 := (Option.some.inj (Tryd.func7.symm.trans hfn)).symm
      exact ⟨by kernel_rfl, fun j t ht => by
        rw [Tryd.params7] at ht
        have hm : t ∈ [9, 9] := by simpa using Array.mem_of_getElem? ht
        have hall : ([9, 9].all fun u => !Tryd.prog.wantsStandIn u) = true := by kernel_rfl
        exact (show Tryd.prog.wantsStandIn t = false by simpa using List.all_eq_true.1 hall t hm)⟩)
    (by kernel_rfl)
end Go.Proofs.YtjinbmemflgkoaaDoor
