/-
  TokenLines returns true for every two strings: the tokens of two texts with a line feed between them are those of the first and then those of the second with higher lines; errors likewise; no condition beyond what the row lists.
-/
import Derived.Test.YtjinbmemflgkoaaDoorTokSame
import Derived.Test.YtjinbmemflgkoaaDoorTokLaws3
namespace Go.Proofs.YtjinbmemflgkoaaDoor
open Go.ChangeShapes Go.WideShapes Go.ChangeAt Go.WideMaps Go.WideElems Go.RowKit
open Go.ChangeMaps (setBlock shut_map_nil open_string shut_string keptBut_setBlock frozen?_setBlock heap_setBlock_same)
open Tok

namespace Tok
/-- What holds at the head of the loop that counts line feeds. -/
def Feeds (a : ByteArray) (nv iv : Value) : Prop := ∃ k m : Nat, k ≤ a.size ∧ iv = .int .i64 k ∧ nv = .int .i64 m ∧ m ≤ 1 + k ∧ m = 1 + lf (a.data.toList.take k)
end Tok

set_option maxRecDepth 100000 in
set_option maxHeartbeats 2000000 in
theorem tokenLines_any (a b : ByteArray) (w : World) (hv : Vars w) (has : a.size ≤ maxLen) (hbs : b.size ≤ maxLen) : Calls Tryd.prog 6 #[.string a, .string b] w fun e w' => e = .returned (.bool true) ∧ Below w.heap.size w w' := by
  have HV := Lib.hid hv
  unfold maxLen at has hbs
  clear hv
  by_cases h1 : a.size ≤ 500
  · by_cases h2 : b.size ≤ 500
    · go_enter Tryd.func6, Tryd.ntmps6
      go_wp2_with fail
      go_loop [5, 6] (fun nv iv => Feeds a nv iv) (fun _ iv => a.size - (intOf iv).toNat)
      case atStart => exact ⟨0, 1, by omega, rfl, rfl, by omega, rfl⟩
      case round =>
        obtain ⟨k, m, hk, rfl, rfl, hm, hmk⟩ := hrel
        have HM := Lib.hid hmk
        clear hmk
        by_cases hlt : k < a.size
        · have hlf := lf_take a.data.toList k (by rw [size_list]; exact hlt)
          by_cases he : a[k] = 10
          · have hb : ((a[k].toNat : Int) == 10) = true := by rw [he]; rfl
            rw [if_pos (show a.data.toList[k] = 10 from he)] at hlf
            have HL := Lib.hid hlf
            clear he hlf
            go_wp2_with fail
            go_round
            case rel => exact ⟨k + 1, m + 1, by omega, by go_num, by go_num, by omega, by have x1 := HM.out; have x2 := HL.out; omega⟩
            case measure => simp [intOf]; omega
          · have hb : ((a[k].toNat : Int) == 10) = false := by
              have : a[k].toNat ≠ 10 := fun e => he (UInt8.toNat_inj.1 (by rw [e]; rfl))
              simp
              omega
            rw [if_neg (show ¬ a.data.toList[k] = 10 from he)] at hlf
            have HL := Lib.hid hlf
            clear he hlf
            go_wp2_with fail
            go_round
            case rel => exact ⟨k + 1, m, by omega, by go_num, rfl, by omega, by have x1 := HM.out; have x2 := HL.out; omega⟩
            case measure => simp [intOf]; omega
        · have HMl := Lib.hid (show m = 1 + lf a.data.toList by
            have x1 := HM.out
            rw [List.take_of_length_le (by rw [size_list]; omega)] at x1
            exact x1)
          clear HM
          obtain ⟨ta, ea, la, hsa⟩ : ∃ ts er ln, scan a.data.toList = (ts, er, ln) := ⟨_, _, _, rfl⟩
          obtain ⟨tb, eb, lb, hsb⟩ : ∃ ts er ln, scan b.data.toList = (ts, er, ln) := ⟨_, _, _, rfl⟩
          obtain ⟨tc, ec, lc, hsc⟩ : ∃ ts er ln, scan ((a ++ ⟨#[10]⟩) ++ b).data.toList = (ts, er, ln) := ⟨_, _, _, rfl⟩
          have hla : a.data.toList.length ≤ 500 := by rw [size_list]; exact h1
          have hlb : b.data.toList.length ≤ 500 := by rw [size_list]; exact h2
          have hcd : ((a ++ ⟨#[10]⟩) ++ b).data.toList = a.data.toList ++ [10] ++ b.data.toList := by rw [append_data, append_data]
          have hbl := scan_line_le b.data.toList (by omega)
          have hta := scan_len a.data.toList
          have htb := scan_len b.data.toList
          rw [hsb] at hbl
          rw [hsa] at hta
          rw [hsb] at htb
          have c1 := Lib.hid (scan_at a w rfl hsa HV.out (by unfold maxLen; omega))
          have c2 := Lib.hid (fun w hv => scan_at b w rfl hsb hv (by unfold maxLen; omega))
          have c3 := Lib.hid (fun w hv => scan_at ((a ++ ⟨#[10]⟩) ++ b) w rfl hsc hv (by rw [append_size, append_size]; show a.size + 1 + b.size ≤ maxLen; unfold maxLen; omega))
          have hlb2 : lb ≤ 5000 := hbl.1
          have HBL := Lib.hid hbl.2
          have HSA := Lib.hid hsa
          have HSB := Lib.hid hsb
          have HSC := Lib.hid hsc
          have HCD := Lib.hid hcd
          clear hsa hsb hsc hcd hbl hla hlb
          go_wp2_with fail
          refine c1.out.mono ?_
          rintro e w1 ⟨v1, rfl, ho1, hb1⟩
          have HV1 := Lib.hid (HV.out.below hb1)
          have HT1 := Lib.hid (Toks.of_own ho1)
          clear ho1
          go_wp2_with fail
          refine (c2.out _ HV1.out).mono ?_
          rintro e w2 ⟨v2, rfl, ho2, hb2⟩
          have HV2 := Lib.hid (HV1.out.below hb2)
          have HT2 := Lib.hid (Toks.of_own ho2)
          clear ho2
          go_wp2_with fail
          refine (c3.out _ HV2.out).mono ?_
          rintro e w3 ⟨v3, rfl, ho3, hb3⟩
          have HV3 := Lib.hid (HV2.out.below hb3)
          have HT3 := Lib.hid (Toks.of_own ho3)
          have h3 := below_trans (below_trans hb1 hb2) hb3
          have HA3 := Lib.hid (HT1.out.below (below_trans hb2 hb3))
          have HB3 := Lib.hid (HT2.out.below hb3)
          clear ho3 HT1 HT2
          by_cases hea : ea = 0
          · by_cases heb : eb = 0
            · have hco := scan_lines_ok a.data.toList b.data.toList (by rw [size_list]; exact h1) (by rw [size_list]; exact h2) (by rw [HSA.out]; exact hea) (by rw [HSB.out]; exact heb)
              rw [← HCD.out, HSC.out, HSA.out, HSB.out, ← HMl.out] at hco
              simp only [Prod.mk.injEq] at hco
              obtain ⟨rfl, rfl, rfl⟩ := hco
              subst hea heb
              obtain ⟨ad1, cap1, e1, _⟩ := HA3.out
              obtain ⟨ad2, cap2, e2, _⟩ := HB3.out
              obtain ⟨ad3, cap3, e3, _⟩ := HT3.out
              rw [List.length_append, List.length_map] at e3
              obtain ⟨nA, hnA⟩ : ∃ n, n = ta.length := ⟨_, rfl⟩
              obtain ⟨nB, hnB⟩ : ∃ n, n = tb.length := ⟨_, rfl⟩
              rw [← hnA] at e1 e3 hta
              rw [← hnB] at e2 e3 htb
              have HNA := Lib.hid hnA
              have HNB := Lib.hid hnB
              have HE1 := Lib.hid e1
              have HE2 := Lib.hid e2
              have HE3 := Lib.hid e3
              clear hnA hnB
              rw [e1, e2, e3]
              clear e1 e2 e3
              have hmb : m ≤ 501 := by omega
              clear hm hk hlt hlb2
              go_wp2_with fail
              go_loopw [16] (fun iv wr => ∃ k : Nat, k ≤ nA + nB ∧ iv = .int .i64 k ∧ Below w3.heap.size w3 wr) (fun iv _ => nA + nB - (intOf iv).toNat)
              case atStart => exact ⟨0, by omega, rfl, Below.refl _ _⟩
              case round =>
                obtain ⟨k, hk, rfl, hbel⟩ := hrel
                have hte := tok_equal
                have hng := no_guard
                by_cases hlt : k < nA + nB
                · by_cases hlA : k < nA
                  · have hkA : k < ta.length := by have := HNA.out; omega
                    have hkC : k < (ta ++ tb.map (sh m)).length := by rw [List.length_append]; omega
                    obtain ⟨g1, c1', e1, hg1, p0, p1, p2⟩ := Toks.at_ HA3.out k hkA
                    obtain ⟨g3, c3', e3, hg3, q0, q1, q2⟩ := Toks.at_ HT3.out k hkC
                    rw [List.getElem_append_left hkA] at q0 q1 q2
                    have i1 := HE1.out.symm.trans e1
                    have i3 := HE3.out.symm.trans e3
                    obtain rfl := (Value.slice.inj i1).1
                    obtain rfl := (Value.slice.inj i3).1
                    clear i1 i3
                    have d0 := (hbel.cell (p := ⟨g1, k * 3, none⟩) hg1).trans p0
                    have d1 := (hbel.cell (p := ⟨g1, k * 3 + 1, none⟩) hg1).trans p1
                    have d2 := (hbel.cell (p := ⟨g1, k * 3 + 2, none⟩) hg1).trans p2
                    have f0 := (hbel.cell (p := ⟨g3, k * 3, none⟩) hg3).trans q0
                    have f1 := (hbel.cell (p := ⟨g3, k * 3 + 1, none⟩) hg3).trans q1
                    have f2 := (hbel.cell (p := ⟨g3, k * 3 + 2, none⟩) hg3).trans q2
                    clear p0 p1 p2 q0 q1 q2 e1 e3
                    generalize ta[k].1 = x at *
                    generalize (⟨ta[k].2.1.toArray⟩ : ByteArray) = y at *
                    generalize ta[k].2.2 = z at *
                    clear hkA hkC
                    have hsm := tokEq_same (x : Nat) (z : Nat) y
                    have hk0 : (0 : Int) ≤ k := by omega
                    have hk1 : (k : Int) < (nA : Int) := by omega
                    have hk2 : (k : Int) < (nA : Int) + (nB : Int) := by omega
                    go_wp2_with fail
                    go_quiet (fail)
                    go_wp2_with fail
                    go_roundw
                    case rel => exact ⟨k + 1, by omega, by go_num, below_drewN hbel _⟩
                    case measure => simp [intOf]; omega
                  · obtain ⟨j, rfl⟩ : ∃ j, k = nA + j := ⟨k - nA, by omega⟩
                    have hjB : j < tb.length := by have := HNB.out; omega
                    have hkC : nA + j < (ta ++ tb.map (sh m)).length := by rw [List.length_append, List.length_map]; have := HNA.out; omega
                    obtain ⟨g2, c2', e2, hg2, p0, p1, p2⟩ := Toks.at_ HB3.out j hjB
                    obtain ⟨g3, c3', e3, hg3, q0, q1, q2⟩ := Toks.at_ HT3.out (nA + j) hkC
                    have hget : (ta ++ tb.map (sh m))[nA + j] = sh m tb[j] := by
                      have h0 := HNA.out
                      rw [List.getElem_append_right (by omega), List.getElem_map]
                      congr 2
                      omega
                    rw [hget] at q0 q1 q2
                    have i2 := HE2.out.symm.trans e2
                    have i3 := HE3.out.symm.trans e3
                    obtain rfl := (Value.slice.inj i2).1
                    obtain rfl := (Value.slice.inj i3).1
                    clear i2 i3 e2 e3 hget
                    have hz : tb[j].2.2 ≤ 5000 := HBL.out _ (List.getElem_mem hjB)
                    have HP := Lib.hid (And.intro p0 (And.intro p1 p2))
                    have HQ := Lib.hid (And.intro q0 (And.intro q1 q2))
                    clear p0 p1 p2 q0 q1 q2
                    have HZ := Lib.hid hz
                    clear hz
                    have hd : decide (((nA : Int) + (j : Int)) < (nA : Int)) = false := decide_eq_false (by omega)
                    go_wp2_with fail
                    go_quiet (fail)
                    have hbq := below_drewN hbel nq
                    clear hbel hd
                    generalize wr.drewN nq = wq at hbq ⊢
                    have hsz := hbq.size
                    have d0 := (hbq.cell (p := ⟨g2, j * 3, none⟩) hg2).trans HP.out.1
                    have d1 := (hbq.cell (p := ⟨g2, j * 3 + 1, none⟩) hg2).trans HP.out.2.1
                    have d2 := (hbq.cell (p := ⟨g2, j * 3 + 2, none⟩) hg2).trans HP.out.2.2
                    have f0 : ∀ o, (wq.alloc o).cell? ⟨g3, (nA + j) * 3, none⟩ = some (.int .i64 tb[j].1) := fun o => ((hbq.alloc hsz o).cell (p := ⟨g3, (nA + j) * 3, none⟩) hg3).trans HQ.out.1
                    have f1 : ∀ o, (wq.alloc o).cell? ⟨g3, (nA + j) * 3 + 1, none⟩ = some (.string ⟨tb[j].2.1.toArray⟩) := fun o => ((hbq.alloc hsz o).cell (p := ⟨g3, (nA + j) * 3 + 1, none⟩) hg3).trans HQ.out.2.1
                    have f2 : ∀ o, (wq.alloc o).cell? ⟨g3, (nA + j) * 3 + 2, none⟩ = some (.int .i64 ((tb[j].2.2 : Int) + (m : Int))) := fun o => ((hbq.alloc hsz o).cell (p := ⟨g3, (nA + j) * 3 + 2, none⟩) hg3).trans HQ.out.2.2
                    have hz := HZ.out
                    clear HP HQ HZ
                    generalize tb[j].1 = x at *
                    generalize (⟨tb[j].2.1.toArray⟩ : ByteArray) = y at *
                    generalize tb[j].2.2 = z at *
                    have hsm := tokEq_same (x : Nat) ((z : Int) + (m : Int)) y
                    have hjI : (j : Int) < (nB : Int) := by omega
                    go_wp2_with fail
                    go_quiet (fail)
                    go_wp2_with fail
                    go_roundw
                    case rel => exact ⟨nA + j + 1, by omega, by go_num, below_drewN (hbq.alloc hsz _) _⟩
                    case measure => simp [intOf]; omega
                · have HV4 := Lib.hid (HV3.out.below hbel)
                  go_wp2_with (go_at_call 14; refine (awake_any _ HV4.out).mono ?_; rintro e w4 ⟨rfl, hb4⟩)
                  go_ret
                  exact ⟨ret_bool rfl, below_trans (below_trans h3 hbel) hb4⟩
            · have hco := scan_lines_err2 a.data.toList b.data.toList (by rw [size_list]; exact h1) (by rw [size_list]; exact h2) (by rw [HSA.out]; exact hea) (by rw [HSB.out]; exact heb)
              rw [← HCD.out, HSC.out, HSB.out, ← HMl.out] at hco
              simp only [Prod.mk.injEq] at hco
              obtain ⟨rfl, rfl, rfl⟩ := hco
              subst hea
              have hne : (((ec : Nat) : Int) != 0) = true := by simpa using heb
              obtain ⟨ad, cap, rfl, _⟩ := HT3.out
              clear heb
              go_wp2_with (go_at_call 14; refine (awake_any _ HV3.out).mono ?_; rintro e w4 ⟨rfl, hb4⟩)
              go_ret
              exact ⟨ret_bool rfl, below_trans h3 hb4⟩
          · have hco := scan_lines_err1 a.data.toList b.data.toList (by rw [size_list]; exact h1) (by rw [size_list]; exact h2) (by rw [HSA.out]; exact hea)
            rw [← HCD.out, HSC.out, HSA.out] at hco
            simp only [Prod.mk.injEq] at hco
            obtain ⟨rfl, rfl, rfl⟩ := hco
            have hne : (((ec : Nat) : Int) != 0) = true := by simpa using hea
            obtain ⟨ad, cap, rfl, _⟩ := HT3.out
            clear hea
            go_wp2_with (go_at_call 14; refine (awake_any _ HV3.out).mono ?_; rintro e w4 ⟨rfl, hb4⟩)
            go_ret
            exact ⟨ret_bool rfl, below_trans h3 hb4⟩
    · go_enter Tryd.func6, Tryd.ntmps6
      go_wp2_with fail
      go_ret
      exact ⟨ret_bool rfl, Below.refl _ _⟩
  · go_enter Tryd.func6, Tryd.ntmps6
    go_wp2_with fail
    go_ret
    exact ⟨ret_bool rfl, Below.refl _ _⟩

set_option maxRecDepth 100000 in
theorem tokenLines_lifted (os : Os) (started : os.Started) (H : Type) (enc : TypeId × Value → H) :
    ReturnsInHanded {} Tryd.checked os 6 .any (fun w args => (Rows.tokenLinesSpec.pre enc Tryd.prog Tryd.f6 [] false w args ∧ laidMetH Tryd.prog Rows.tokenLinesRow.laid w) ∧ sizedMet enc Tryd.prog Tryd.f6 (OpenSpec.ofChange Rows.tokenLinesSpec) false w args)
      (Rows.tokenLinesSpec.post enc Tryd.prog Tryd.f6 false true false false) := by
  refine returnsInHanded_of_change_and (C := Tryd.checked) (X := fun w _ => laidMetH Tryd.prog Rows.tokenLinesRow.laid w) (fun _ _ _ hh h => h.of_heap hh) own started (by kernel_rfl) Tryd.func6
    (ChangeSpec.witness_shaped (enc := enc) (C := Tryd.checked) (os := os) (X := fun w _ => laidMetH Tryd.prog Rows.tokenLinesRow.laid w) false (World.doorLaid Tryd.prog 400 os) #[.string ⟨#[]⟩, .string ⟨#[]⟩] 8 rfl (World.shaped_of_RefB (by kernel_rfl) (by kernel_rfl)) (by kernel_rfl) (by kernel_rfl) (by kernel_rfl) (door_met os _)) ?_
  intro W base args ds gs before hval0 hW _ _ hL _
  have hval : ∀ (j : Nat) t v, Tryd.f6.params[j]? = some t → args[j]? = some v → Value.okWide Tryd.prog W .any base t v := hval0
  have hW' := hW
  obtain ⟨p, q, hA0, hV, rfl, hfz, hnd⟩ := hW
  have hA : DataW.TrodAll enc Tryd.prog W 0 (fun _ => true) true Tryd.f6.params.toList args.toList ds p := hA0
  rw [Tryd.params6] at hA hval
  obtain ⟨v0, v1, d0, d1, p0, p1, rfl, rfl, rfl, h0, h1⟩ := trodAll_two hA
  obtain ⟨rfl, rfl⟩ := trodVars_none hV
  obtain ⟨s0, rfl, rfl, rfl, hs0⟩ := open_string Tryd.underlying9 (hval 0 9 v0 rfl rfl) h0
  obtain ⟨s1, rfl, rfl, rfl, hs1⟩ := open_string Tryd.underlying9 (hval 1 9 v1 rfl rfl) h1
  clear hA0 hval0
  simp only [List.append_nil] at hW'
  refine (tokenLines_any s0 s1 W (vars_of hL) hs0 hs1).mono fun e W' ⟨he, hb⟩ => ?_
  subst he
  exact ⟨_, rfl, _, _, _, [], _, [], hW', trodAll_mk1 (shut_bool Tryd.underlying4 _), (trodAll_cons_mk (shut_string Tryd.underlying9 hs0) (trodAll_cons_mk (shut_string Tryd.underlying9 hs1) trodAll_mk0)), rfl, hb.frame _, fun h => by cases h⟩

theorem tokenLines_holds : Rows.TokenLinesSaid :=
  OpenClaim.holds_of_wide 6 Tryd.f6 rfl rfl rfl rfl rfl rfl rfl ⟨rfl, rfl, rfl, rfl, rfl⟩ rfl rfl rfl rfl rfl (by kernel_rfl) Tryd.func6 (by kernel_rfl)
    (of_decide_eq_true (by kernel_rfl)) (by unfold Func.isWrapper; first | (rw [if_pos (by decide +kernel)]; kernel_rfl) | (rw [if_neg (by decide +kernel)]; exact ⟨rfl, rfl⟩))
    (fun os started H enc _ => tokenLines_lifted os started H enc)
theorem tokenLines_card : Rows.TokenLinesCardSaid :=
  Claim7.holds_tied_plain_at .later [] Rows.tokenLinesCard.laidKinds true Rows.tokenLinesCard.stood.harness true
    tokenLines_holds (fun _ h => by cases h) (by kernel_rfl) (fun _ h => by cases h) tokenLines_row_tie rfl ⟨rfl, rfl⟩ (by kernel_rfl) rfl
    (fun f fn hf hfn => by
      obtain rfl : f = 6 := Option.some.inj ((show Tryd.prog.funcNamed Rows.tokenLinesRow.func = some 6 by kernel_rfl).symm.trans hf) |>.symm
      obtain rfl : fn = Tryd.f6 := (Option.some.inj (Tryd.func6.symm.trans hfn)).symm
      exact ⟨by kernel_rfl, fun j t ht => by
        rw [Tryd.params6] at ht
        have hm : t ∈ [9, 9] := by simpa using Array.mem_of_getElem? ht
        have hall : ([9, 9].all fun u => !Tryd.prog.wantsStandIn u) = true := by kernel_rfl
        exact (show Tryd.prog.wantsStandIn t = false by simpa using List.all_eq_true.1 hall t hm)⟩)
    (by kernel_rfl)
end Go.Proofs.YtjinbmemflgkoaaDoor
