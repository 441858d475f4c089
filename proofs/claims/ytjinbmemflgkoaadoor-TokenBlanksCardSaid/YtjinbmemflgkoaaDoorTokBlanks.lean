/-
  TokenBlanks returns true for every string: the tokens of a text, written with single spaces between them, are scanned as the same kinds and texts on one line; no condition beyond what the row lists.
-/
import Derived.Test.YtjinbmemflgkoaaDoorTokSame
import Derived.Test.YtjinbmemflgkoaaDoorTokLaws4
namespace Go.Proofs.YtjinbmemflgkoaaDoor
open Go.ChangeShapes Go.WideShapes Go.ChangeAt Go.WideMaps Go.WideElems Go.RowKit
open Go.ChangeMaps (setBlock shut_map_nil open_string shut_string keptBut_setBlock frozen?_setBlock heap_setBlock_same)
open Tok

namespace Tok
theorem blankText_take (ts : List T) (k : Nat) (h : k < ts.length) : blankText (ts.take (k + 1)) = blankText (ts.take k) ++ (ts[k].2.1 ++ [32]) := by
  rw [List.take_succ_eq_append_getElem h, blankText_snoc]
theorem blankText_le (ts : List T) (k : Nat) : (blankText (ts.take k)).length ≤ (blankText ts).length := by
  have e : blankText ts = blankText (ts.take k) ++ blankText (ts.drop k) := by
    unfold blankText
    rw [← List.flatMap_append, List.take_append_drop]
  rw [e, List.length_append]
  omega
def Blanks (ts : List T) (n : Nat) (iv tv : Value) : Prop := ∃ (k : Nat) (r : ByteArray), k ≤ n ∧ iv = .int .i64 k ∧ tv = .string r ∧ r.data.toList = blankText (ts.take k)
end Tok

set_option maxRecDepth 100000 in
set_option maxHeartbeats 2000000 in
theorem tokenBlanks_any (s : ByteArray) (w : World) (hv : Vars w) (hs : s.size ≤ maxLen) : Calls Tryd.prog 5 #[.string s] w fun e w' => e = .returned (.bool true) ∧ Below w.heap.size w w' := by
  have HV := Lib.hid hv
  unfold maxLen at hs
  clear hv
  by_cases h1 : s.size ≤ 1000
  · have hll : s.data.toList.length ≤ 1000 := by rw [size_list]; exact h1
    obtain ⟨ts, er, ln, hsc⟩ : ∃ ts er ln, scan s.data.toList = (ts, er, ln) := ⟨_, _, _, rfl⟩
    have c1 := Lib.hid (scan_at s w rfl hsc HV.out (by unfold maxLen; omega))
    have hts := scan_len s.data.toList
    have hbk := scan_blanks s.data.toList hll
    have hbl := blank_len s.data.toList hll
    have hnil := scan_err_nil s.data.toList
    rw [hsc] at hts hbk hbl hnil
    have HBK := Lib.hid hbk
    have HBL := Lib.hid hbl
    clear hsc hbk hbl
    by_cases her : er = 0
    · subst her
      clear hnil
      go_enter Tryd.func5, Tryd.ntmps5
      go_wp2_with fail
      refine c1.out.mono ?_
      rintro e w1 ⟨v1, rfl, ho1, hb1⟩
      have HV1 := Lib.hid (HV.out.below hb1)
      have HT1 := Lib.hid (Toks.of_own ho1)
      clear ho1
      obtain ⟨ad1, cap1, e1, _⟩ := HT1.out
      obtain ⟨n, hn⟩ : ∃ n, n = ts.length := ⟨_, rfl⟩
      rw [← hn] at e1 hts
      have HN := Lib.hid hn
      have HE1 := Lib.hid e1
      clear hn
      rw [e1]
      clear e1
      go_wp2_with fail
      go_loop [7, 6] (fun iv tv => Blanks ts n iv tv) (fun iv _ => n - (intOf iv).toNat)
      case atStart => exact ⟨0, ⟨#[]⟩, by omega, rfl, rfl, rfl⟩
      case round =>
        obtain ⟨k, r, hk, rfl, rfl, hr⟩ := hrel
        have HR := Lib.hid hr
        clear hr
        by_cases hlt : k < n
        · have hkt : k < ts.length := by have := HN.out; omega
          have hst := blankText_take ts k hkt
          have hle := blankText_le ts (k + 1)
          have hbl := HBL.out
          have hrs := size_list r
          rw [hst, ← HR.out, List.length_append, List.length_append, List.length_singleton, hrs] at hle
          obtain ⟨g1, c1', e1, hg1, p0, p1, p2⟩ := Toks.at_ HT1.out k hkt
          have i1 := HE1.out.symm.trans e1
          obtain rfl := (Value.slice.inj i1).1
          clear i1 e1 p0 p2
          have hys : (⟨ts[k].2.1.toArray⟩ : ByteArray).size = ts[k].2.1.length := by show ts[k].2.1.toArray.size = _; simp
          have hyd : (⟨ts[k].2.1.toArray⟩ : ByteArray).data.toList = ts[k].2.1 := rfl
          have HST := Lib.hid (show blankText (ts.take (k + 1)) = ((r ++ ⟨ts[k].2.1.toArray⟩) ++ ⟨#[32]⟩).data.toList by
            rw [append_data, append_data, HR.out, hst, hyd, List.append_assoc])
          have hsum : r.size + (⟨ts[k].2.1.toArray⟩ : ByteArray).size ≤ 2000 := by omega
          clear hst hle hbl hrs hys hyd
          generalize (⟨ts[k].2.1.toArray⟩ : ByteArray) = y at *
          clear hkt
          have hk0 : (0 : Int) ≤ k := by omega
          go_wp2_with fail
          go_round
          case rel => exact ⟨k + 1, _, by omega, by go_num, rfl, HST.out.symm⟩
          case measure => simp [intOf]; omega
        · have hkn : k = n := by omega
          have hrd : r.data.toList = blankText ts := by
            have h0 := HN.out
            rw [HR.out, List.take_of_length_le (by omega)]
          have hrs : r.size ≤ 2000 := by have := size_list r; rw [hrd] at this; have := HBL.out; omega
          have c2 := Lib.hid (scan_at r w1 hrd HBK.out HV1.out (by unfold maxLen; omega))
          clear hrd hkn
          go_wp2_with fail
          refine c2.out.mono ?_
          rintro e w2 ⟨v2, rfl, ho2, hb2⟩
          have HV2 := Lib.hid (HV1.out.below hb2)
          have HT2 := Lib.hid (Toks.of_own ho2)
          have HA2 := Lib.hid (HT1.out.below hb2)
          clear ho2
          obtain ⟨ad2, cap2, e2, _⟩ := HT2.out
          rw [List.length_map] at e2
          have hn2 := HN.out
          rw [← hn2] at e2
          have HE2 := Lib.hid e2
          clear hn2
          rw [e2]
          clear e2
          clear hlt hk
          go_wp2_with fail
          go_loopw [11] (fun iv wr => ∃ k : Nat, k ≤ n ∧ iv = .int .i64 k ∧ Below w2.heap.size w2 wr) (fun iv _ => n - (intOf iv).toNat)
          case atStart => exact ⟨0, by omega, rfl, Below.refl _ _⟩
          case round =>
            obtain ⟨k, hk, rfl, hbel⟩ := hrel
            by_cases hlt : k < n
            · have hkt : k < ts.length := by have := HN.out; omega
              have hkm : k < (ts.map (fun t => ((t.1, t.2.1, 1) : T))).length := by rw [List.length_map]; exact hkt
              obtain ⟨g1, c1', e1, hg1, p0, p1, p2⟩ := Toks.at_ HA2.out k hkt
              obtain ⟨g2, c2', e2, hg2, q0, q1, q2⟩ := Toks.at_ HT2.out k hkm
              rw [List.getElem_map] at q0 q1 q2
              have i1 := HE1.out.symm.trans e1
              have i2 := HE2.out.symm.trans e2
              obtain rfl := (Value.slice.inj i1).1
              obtain rfl := (Value.slice.inj i2).1
              have d0 := (hbel.cell (p := ⟨g1, k * 3, none⟩) hg1).trans p0
              have d1 := (hbel.cell (p := ⟨g1, k * 3 + 1, none⟩) hg1).trans p1
              have f0 := (hbel.cell (p := ⟨g2, k * 3, none⟩) hg2).trans q0
              have f1 := (hbel.cell (p := ⟨g2, k * 3 + 1, none⟩) hg2).trans q1
              have f2 := (hbel.cell (p := ⟨g2, k * 3 + 2, none⟩) hg2).trans q2
              clear p0 p1 p2 q0 q1 q2 i1 i2 e1 e2
              simp only at f0 f1 f2
              generalize ts[k].1 = x at *
              generalize (⟨ts[k].2.1.toArray⟩ : ByteArray) = y at *
              clear hkt hkm
              have hk0 : (0 : Int) ≤ k := by omega
              have hx : ((x : Int) != (x : Int)) = false := by simp
              have hy : (y.toList == y.toList) = true := by simp
              go_wp2_with fail
              go_quiet (fail)
              go_wp2_with fail
              go_roundw
              case rel => exact ⟨k + 1, by omega, by go_num, below_drewN hbel _⟩
              case measure => simp [intOf]; omega
            · have HV3 := Lib.hid (HV2.out.below hbel)
              go_wp2_with (go_at_call 14; refine (awake_any _ HV3.out).mono ?_; rintro e w4 ⟨rfl, hb4⟩)
              go_ret
              exact ⟨ret_bool rfl, below_trans (below_trans (below_trans hb1 hb2) hbel) hb4⟩
    · have hnl := hnil her
      subst hnl
      have hne : (((er : Nat) : Int) != 0) = true := by simpa using her
      clear hnil her
      go_enter Tryd.func5, Tryd.ntmps5
      go_wp2_with (go_at_call 11; refine c1.out.mono ?_; rintro e w1 ⟨v, rfl, ho, hb⟩; obtain ⟨ad, cap, rfl⟩ := toks_len ho)
      go_ret
      exact ⟨ret_bool rfl, hb⟩
  · go_enter Tryd.func5, Tryd.ntmps5
    go_wp2_with fail
    go_ret
    exact ⟨ret_bool rfl, Below.refl _ _⟩

set_option maxRecDepth 100000 in
theorem tokenBlanks_lifted (os : Os) (started : os.Started) (H : Type) (enc : TypeId × Value → H) :
    ReturnsInHanded {} Tryd.checked os 5 .any (fun w args => (Rows.tokenBlanksSpec.pre enc Tryd.prog Tryd.f5 [] false w args ∧ laidMetH Tryd.prog Rows.tokenBlanksRow.laid w) ∧ sizedMet enc Tryd.prog Tryd.f5 (OpenSpec.ofChange Rows.tokenBlanksSpec) false w args)
      (Rows.tokenBlanksSpec.post enc Tryd.prog Tryd.f5 false true false false) := by
  refine returnsInHanded_of_change_and (C := Tryd.checked) (X := fun w _ => laidMetH Tryd.prog Rows.tokenBlanksRow.laid w) (fun _ _ _ hh h => h.of_heap hh) own started (by kernel_rfl) Tryd.func5
    (ChangeSpec.witness_shaped (enc := enc) (C := Tryd.checked) (os := os) (X := fun w _ => laidMetH Tryd.prog Rows.tokenBlanksRow.laid w) false (World.doorLaid Tryd.prog 400 os) #[.string ⟨#[]⟩] 8 rfl (World.shaped_of_RefB (by kernel_rfl) (by kernel_rfl)) (by kernel_rfl) (by kernel_rfl) (by kernel_rfl) (door_met os _)) ?_
  intro W base args ds gs before hval0 hW _ _ hL _
  have hval : ∀ (j : Nat) t v, Tryd.f5.params[j]? = some t → args[j]? = some v → Value.okWide Tryd.prog W .any base t v := hval0
  have hW' := hW
  obtain ⟨p, q, hA0, hV, rfl, hfz, hnd⟩ := hW
  have hA : DataW.TrodAll enc Tryd.prog W 0 (fun _ => true) true Tryd.f5.params.toList args.toList ds p := hA0
  rw [Tryd.params5] at hA hval
  obtain ⟨v0, d0, rfl, rfl, h0⟩ := trodAll_one hA
  obtain ⟨rfl, rfl⟩ := trodVars_none hV
  obtain ⟨s0, rfl, rfl, rfl, hs0⟩ := open_string Tryd.underlying9 (hval 0 9 v0 rfl rfl) h0
  clear hA0 hval0
  simp only [List.append_nil] at hW'
  refine (tokenBlanks_any s0 W (vars_of hL) hs0).mono fun e W' ⟨he, hb⟩ => ?_
  subst he
  exact ⟨_, rfl, _, _, _, [], _, [], hW', trodAll_mk1 (shut_bool Tryd.underlying4 _), (trodAll_cons_mk (shut_string Tryd.underlying9 hs0) trodAll_mk0), rfl, hb.frame _, fun h => by cases h⟩

theorem tokenBlanks_holds : Rows.TokenBlanksSaid :=
  OpenClaim.holds_of_wide 5 Tryd.f5 rfl rfl rfl rfl rfl rfl rfl ⟨rfl, rfl, rfl, rfl, rfl⟩ rfl rfl rfl rfl rfl (by kernel_rfl) Tryd.func5 (by kernel_rfl)
    (of_decide_eq_true (by kernel_rfl)) (by unfold Func.isWrapper; first | (rw [if_pos (by decide +kernel)]; kernel_rfl) | (rw [if_neg (by decide +kernel)]; exact ⟨rfl, rfl⟩))
    (fun os started H enc _ => tokenBlanks_lifted os started H enc)
theorem tokenBlanks_card : Rows.TokenBlanksCardSaid :=
  Claim7.holds_tied_plain_at .later [] Rows.tokenBlanksCard.laidKinds true Rows.tokenBlanksCard.stood.harness true
    tokenBlanks_holds (fun _ h => by cases h) (by kernel_rfl) (fun _ h => by cases h) tokenBlanks_row_tie rfl ⟨rfl, rfl⟩ (by kernel_rfl) rfl
    (fun f fn hf hfn => by
      obtain rfl : f = 5 := Option.some.inj ((show Tryd.prog.funcNamed Rows.tokenBlanksRow.func = some 5 by kernel_rfl).symm.trans hf) |>.symm
      obtain rfl : fn = Tryd.f5 := (Option.some.inj (Tryd.func5.symm.trans hfn)).symm
      exact ⟨by kernel_rfl, fun j t ht => by
        rw [Tryd.params5] at ht
        have hm : t ∈ [9] := by simpa using Array.mem_of_getElem? ht
        have hall : ([9].all fun u => !Tryd.prog.wantsStandIn u) = true := by kernel_rfl
        exact (show Tryd.prog.wantsStandIn t = false by simpa using List.all_eq_true.1 hall t hm)⟩)
    (by kernel_rfl)
end Go.Proofs.YtjinbmemflgkoaaDoor
