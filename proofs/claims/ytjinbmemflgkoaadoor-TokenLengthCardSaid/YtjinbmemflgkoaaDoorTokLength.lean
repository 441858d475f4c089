/-
  TokenLength returns true for every two bytes: a word of at most MaxName bytes behind line feeds is one token with its line, a longer one is ErrTooLarge on its line; no condition beyond what the row lists.
-/
import Derived.Test.YtjinbmemflgkoaaDoorTokH
namespace Go.Proofs.YtjinbmemflgkoaaDoor
open Go.ChangeShapes Go.WideShapes Go.ChangeAt Go.WideMaps Go.WideElems Go.RowKit
open Go.ChangeMaps (setBlock shut_map_nil open_string shut_string keptBut_setBlock frozen?_setBlock heap_setBlock_same)
open Tok

set_option maxHeartbeats 1000000 in
theorem tokenLength_any (n a : Nat) (w : World) (hv : Vars w) (hn : n ≤ 255) (ha : a ≤ 255) : Calls Tryd.prog 9 #[.int .u8 n, .int .u8 a] w fun e w' => e = .returned (.bool true) ∧ Below w.heap.size w w' := by
  have HV := Lib.hid hv
  clear hv
  go_enter Tryd.func9, Tryd.ntmps9
  go_wp2_with fail
  go_loop [6, 5] (fun iv sv => Rep 120 (n + 1) iv sv) (fun iv _ => n + 1 - (intOf iv).toNat)
  case atStart => exact ⟨0, ⟨#[]⟩, by omega, rfl, rfl, rfl, rfl⟩
  case round =>
    obtain ⟨k, r, hk, rfl, rfl, hsz, hr⟩ := hrel
    have HR := Lib.hid hr
    have HS := Lib.hid hsz
    have hs2 : r.size ≤ 256 := by omega
    clear hr hsz
    by_cases hlt : k < n + 1
    · go_wp2_with fail
      go_round
      case rel => exact ⟨k + 1, _, by omega, by go_num, rfl, by rw [append_size, HS.out]; rfl, rep_snoc r 120 k HR.out⟩
      case measure => simp [intOf]; omega
    · have HK := Lib.hid (show k = n + 1 by omega)
      go_wp2_with fail
      go_loop [8, 7] (fun iv sv => Rep 10 a iv sv) (fun iv _ => a - (intOf iv).toNat)
      case atStart => exact ⟨0, ⟨#[]⟩, by omega, rfl, rfl, rfl, rfl⟩
      case round =>
        obtain ⟨k2, r2, hk2, rfl, rfl, hsz2, hr2⟩ := hrel
        have HR2 := Lib.hid hr2
        have HS2 := Lib.hid hsz2
        have hs3 : r2.size ≤ 255 := by omega
        clear hr2 hsz2
        by_cases hlt2 : k2 < a
        · go_wp2_with fail
          go_round
          case rel => exact ⟨k2 + 1, _, by omega, by go_num, rfl, by rw [append_size, HS2.out]; rfl, rep_snoc r2 10 k2 HR2.out⟩
          case measure => simp [intOf]; omega
        · have hl : (r2 ++ r).data.toList = List.replicate a 10 ++ List.replicate (n + 1) 120 := by
            rw [append_data, HR2.out, HR.out, HK.out, show k2 = a by omega]
          have hsc := scan_xs a (n + 1) (by omega) (by omega)
          have hnm := isName_xs (n + 1) (by omega)
          rw [← HK.out, ← HR.out] at hsc hnm
          have hsr : r.size = n + 1 := by rw [HS.out, HK.out]
          have cN := Lib.hid (fun w => isName_any r w (by unfold maxLen; omega))
          have hte := tok_equal
          have hng := no_guard
          by_cases h12 : 12 < n + 1
          · rw [if_pos (by rw [HK.out]; exact h12)] at hsc
            rw [← HK.out, ← HR.out] at hl
            have cS := Lib.hid (scan_at (r2 ++ r) w hl hsc HV.out (by rw [append_size]; unfold maxLen; omega))
            rw [HK.out, decide_eq_false (by omega)] at hnm
            have hgt : 12 < r.size := by omega
            clear hsr hsc hl hlt h12 hk
            go_wp2_with (first
              | (go_at_call 11; refine cS.out.mono ?_; rintro e w1 ⟨v, rfl, ho, hb⟩; obtain ⟨ad, cap, rfl⟩ := toks_len ho)
              | (go_at_call 15; refine (cN.out _).mono ?_; rintro e w2 ⟨rfl, hb2⟩))
            go_ret
            exact ⟨ret_bool rfl, below_trans hb hb2⟩
          · rw [if_neg (by rw [HK.out]; exact h12)] at hsc
            rw [← HK.out, ← HR.out] at hl
            have cS := Lib.hid (scan_at (r2 ++ r) w hl hsc HV.out (by rw [append_size]; unfold maxLen; omega))
            rw [HK.out, decide_eq_true (by omega)] at hnm
            have hgt : ¬ 12 < r.size := by omega
            have htq : tokEq 1 ((a : Int) + 1) r 1 ((a : Int) + 1) r = true := by simp [tokEq]
            clear hsr hsc hl hlt h12 hk
            go_wp2_with (first
              | (go_at_call 11; refine cS.out.mono ?_; rintro e w1 ⟨v, rfl, ho, hb⟩; obtain ⟨g, cap, rfl, hg1, hg2, hc⟩ := toks_form ho (by simp); have k0 := hc 0 _ rfl; have k1 := hc 1 _ rfl; have k2 := hc 2 _ rfl; rw [Lib.mk_data] at k1; clear hc ho)
              | (go_at_call 15; refine (cN.out _).mono ?_; rintro e w2 ⟨rfl, hb2⟩))
            go_ret
            exact ⟨ret_bool rfl, below_trans hb hb2⟩

set_option maxRecDepth 100000 in
theorem tokenLength_lifted (os : Os) (started : os.Started) (H : Type) (enc : TypeId × Value → H) :
    ReturnsInHanded {} Tryd.checked os 9 .any (fun w args => (Rows.tokenLengthSpec.pre enc Tryd.prog Tryd.f9 [] false w args ∧ laidMetH Tryd.prog Rows.tokenLengthRow.laid w) ∧ sizedMet enc Tryd.prog Tryd.f9 (OpenSpec.ofChange Rows.tokenLengthSpec) false w args)
      (Rows.tokenLengthSpec.post enc Tryd.prog Tryd.f9 false true false false) := by
  refine returnsInHanded_of_change_and (C := Tryd.checked) (X := fun w _ => laidMetH Tryd.prog Rows.tokenLengthRow.laid w) (fun _ _ _ hh h => h.of_heap hh) own started (by kernel_rfl) Tryd.func9
    (ChangeSpec.witness_shaped (enc := enc) (C := Tryd.checked) (os := os) (X := fun w _ => laidMetH Tryd.prog Rows.tokenLengthRow.laid w) false (World.doorLaid Tryd.prog 400 os) #[.int .u8 0, .int .u8 0] 8 rfl (World.shaped_of_RefB (by kernel_rfl) (by kernel_rfl)) (by kernel_rfl) (by kernel_rfl) (by kernel_rfl) (door_met os _)) ?_
  intro W base args ds gs before hval0 hW _ _ hL _
  have hval : ∀ (j : Nat) t v, Tryd.f9.params[j]? = some t → args[j]? = some v → Value.okWide Tryd.prog W .any base t v := hval0
  have hW' := hW
  obtain ⟨p, q, hA0, hV, rfl, hfz, hnd⟩ := hW
  have hA : DataW.TrodAll enc Tryd.prog W 0 (fun _ => true) true Tryd.f9.params.toList args.toList ds p := hA0
  rw [Tryd.params9] at hA hval
  obtain ⟨v0, v1, d0, d1, p0, p1, rfl, rfl, rfl, h0, h1⟩ := trodAll_two hA
  obtain ⟨rfl, rfl⟩ := trodVars_none hV
  obtain ⟨x0, rfl, rfl, rfl, wx0⟩ := open_int Tryd.underlying5 (hval 0 5 v0 rfl rfl) h0
  have bx0 := bounds_u8 wx0
  obtain ⟨n0, rfl⟩ := Int.eq_ofNat_of_zero_le bx0.1
  obtain ⟨x1, rfl, rfl, rfl, wx1⟩ := open_int Tryd.underlying5 (hval 1 5 v1 rfl rfl) h1
  have bx1 := bounds_u8 wx1
  obtain ⟨n1, rfl⟩ := Int.eq_ofNat_of_zero_le bx1.1
  clear hA0 hval0
  simp only [List.append_nil] at hW'
  refine (tokenLength_any n0 n1 W (vars_of hL) (by omega) (by omega)).mono fun e W' ⟨he, hb⟩ => ?_
  subst he
  exact ⟨_, rfl, _, _, _, [], _, [], hW', trodAll_mk1 (shut_bool Tryd.underlying4 _), (trodAll_cons_mk (shut_int Tryd.underlying5 wx0) (trodAll_cons_mk (shut_int Tryd.underlying5 wx1) trodAll_mk0)), rfl, hb.frame _, fun h => by cases h⟩

theorem tokenLength_holds : Rows.TokenLengthSaid :=
  OpenClaim.holds_of_wide 9 Tryd.f9 rfl rfl rfl rfl rfl rfl rfl ⟨rfl, rfl, rfl, rfl, rfl⟩ rfl rfl rfl rfl rfl (by kernel_rfl) Tryd.func9 (by kernel_rfl)
    (of_decide_eq_true (by kernel_rfl)) (by unfold Func.isWrapper; first | (rw [if_pos (by decide +kernel)]; kernel_rfl) | (rw [if_neg (by decide +kernel)]; exact ⟨rfl, rfl⟩))
    (fun os started H enc _ => tokenLength_lifted os started H enc)
theorem tokenLength_card : Rows.TokenLengthCardSaid :=
  Claim7.holds_tied_plain_at .later [] Rows.tokenLengthCard.laidKinds true Rows.tokenLengthCard.stood.harness true
    tokenLength_holds (fun _ h => by cases h) (by kernel_rfl) (fun _ h => by cases h) tokenLength_row_tie rfl ⟨rfl, rfl⟩ (by kernel_rfl) rfl
    (fun f fn hf hfn => by
      obtain rfl : f = 9 := Option.some.inj ((show Tryd.prog.funcNamed Rows.tokenLengthRow.func = some 9 by kernel_rfl).symm.trans hf) |>.symm
      obtain rfl : fn = Tryd.f9 := (Option.some.inj (Tryd.func9.symm.trans hfn)).symm
      exact ⟨by kernel_rfl, fun j t ht => by
        rw [Tryd.params9] at ht
        have hm : t ∈ [5, 5] := by simpa using Array.mem_of_getElem? ht
        have hall : ([5, 5].all fun u => !Tryd.prog.wantsStandIn u) = true := by kernel_rfl
        exact (show Tryd.prog.wantsStandIn t = false by simpa using List.all_eq_true.1 hall t hm)⟩)
    (by kernel_rfl)
end Go.Proofs.YtjinbmemflgkoaaDoor
