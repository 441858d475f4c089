/-
  SilentUnions returns true: for every two lists of at most 300 numbers (longer ones are passed over) Union's list ascends strictly and holds just the numbers of both; no condition.
-/
import Derived.Test.YtdibfpjhmfkbkaaSlHas
import Derived.Test.YtdibfpjhmfkbkaaGd
namespace Go.Proofs.Ytdibfpjhmfkbkaa
open Go.ChangeShapes Go.WideShapes Go.ChangeAt Go.RowKit

theorem Sl.Vals.drewN {N : List Nat} {w : World} {v : Value} {ys : List Value} (h : Sl.Vals N w v ys) (n : Nat) : Sl.Vals N (w.drewN n) v ys := h
theorem Sl.below_drewN {B : Nat} {a w : World} (h : Below B a w) (n : Nat) : Below B a (w.drewN n) := ⟨h.os, h.tape, h.output, h.size, h.block⟩

theorem own_form {w : World} {base n : Nat} {e : TypeId} {v : Value} {xs : List Value} (h : w.ownsRow base e 1 v n xs) : ∃ A cap, v = .slice A n cap := by
  rcases h.2 with ⟨rfl, rfl⟩ | ⟨g, cap, cur, rfl, _⟩
  · exact ⟨_, _, rfl⟩
  · exact ⟨_, _, rfl⟩
theorem wrap_nat {k m : Nat} (h : k < m) (hm : m ≤ 9223372036854775807) : IntKind.i64.wrap (k : Int) = k := by
  rw [IntKind.wrap_i64]
  omega
theorem has_in {w : World} {N : List Nat} {v : Value} {zs : List Int} (h : Sl.IntsAt N w v zs) (y : Int) (r : Bool) (hr : decide (y ∈ zs) = r) (x : World) (hx : Below w.heap.size w x) :
    Calls Try.prog 7 #[v, .int .i64 y] x fun e w' => e = .returned (.bool r) ∧ Below x.heap.size x w' :=
  (has_at x N v zs y r hr (h.below hx)).mono fun _ _ ⟨he, hw⟩ => ⟨he, hw ▸ Below.refl _ _⟩
attribute [local go_sem] Gd.Goes Gd.goesUpon Oper.looksAt Op.operands Call.operands Gd.Knows Gd.look Gd.push Gd.eqv Gd.getD_bool

set_option maxHeartbeats 4000000 in
set_option maxRecDepth 100000 in
theorem silentUnions_any (w : World) (va vb : Value) (a b : List Int) (ha : Sl.IntsAt [] w va a) (hb : Sl.IntsAt [] w vb b) :
    Calls Try.prog 3 #[va, vb] w fun e w' => e = .returned (.bool true) ∧ Below w.heap.size w w' := by
  have HA := Lib.hid ha
  have HB := Lib.hid hb
  obtain ⟨A1, cap1, rfl, hca1, hca2⟩ := Sl.IntsAt.form ha
  obtain ⟨A2, cap2, rfl, hcb1, hcb2⟩ := Sl.IntsAt.form hb
  obtain ⟨la, hla⟩ : ∃ n, n = a.length := ⟨_, rfl⟩
  obtain ⟨lb, hlb⟩ : ∃ n, n = b.length := ⟨_, rfl⟩
  rw [← hla] at HA hca1 ⊢
  rw [← hlb] at HB hcb1 ⊢
  have HLA := Lib.hid hla
  have HLB := Lib.hid hlb
  clear ha hb hla hlb
  by_cases h1 : (la : Int) > 300
  · go_enter Try.func3, Try.ntmps3
    go_wp2_with fail
    go_ret
    exact ⟨rfl, Below.refl _ _⟩
  by_cases h2 : (lb : Int) > 300
  · go_enter Try.func3, Try.ntmps3
    go_wp2_with fail
    go_ret
    exact ⟨rfl, Below.refl _ _⟩
  have CU := Lib.hid (union_any w [] _ _ a b HA.out HB.out (by have := HLA.out; have := HLB.out; omega))
  obtain ⟨us, hus⟩ : ∃ us, us = Sl.uni a b := ⟨_, rfl⟩
  rw [← hus] at CU
  have HUM : Hid (∀ x, x ∈ us ↔ x ∈ a ∨ x ∈ b) := Lib.hid (fun x => by rw [hus]; exact Sl.uni_mem x a b)
  have HUS : Hid (us.Pairwise (· < ·)) := Lib.hid (by rw [hus]; exact Sl.uni_str a b)
  clear hus
  go_enter Try.func3, Try.ntmps3
  go_wp2_with (go_at_call 6; refine CU.out.mono ?_; rintro x w1 ⟨v, rfl, hown, hbel⟩)
  have hI : Sl.IntsAt [] w1 v us := Sl.Vals.of_own hown (by simp)
  have HI := Lib.hid hI
  obtain ⟨A3, cap3, rfl, hcu1, hcu2⟩ := Sl.IntsAt.form hI
  obtain ⟨m, hm⟩ : ∃ n, n = us.length := ⟨_, rfl⟩
  rw [← hm] at HI hcu1 ⊢
  have HM := Lib.hid hm
  have HA1 := Lib.hid (Sl.IntsAt.below HA.out hbel)
  have HB1 := Lib.hid (Sl.IntsAt.below HB.out hbel)
  have HBE := Lib.hid hbel
  have hm63 : m ≤ 9223372036854775807 := by unfold maxLen at hcu2; omega
  clear hI hown hbel hm CU HA HB
  go_wp2_with fail
  go_loopw [6] (fun i wr => ∃ k : Nat, k ≤ m ∧ i = .int .i64 k ∧ Below w1.heap.size w1 wr) (fun i _ => m - (intOf i).toNat)
  case atStart => exact ⟨0, by omega, by first | rfl | trivial, Below.refl _ _⟩
  case round =>
    obtain ⟨k, hk, rfl, hbw⟩ := hrel
    by_cases hkm : k < m
    · have hkz : k < us.length := by rw [← HM.out]; exact hkm
      obtain ⟨b3, off, cap4, hv, _, _, _, hbl, hc⟩ := Sl.IntsAt.at_ HI.out hkz
      injection hv with e1 e2 e3
      subst e1 e3
      clear e2
      obtain ⟨y, hy⟩ : ∃ y, y = us[k] := ⟨_, rfl⟩
      rw [← hy] at hc
      have hc1 := (hbw.cell (p := ⟨b3, off + k, none⟩) hbl).trans hc
      have hki : (k : Int) < m := by omega
      have HAk := Lib.hid (Sl.IntsAt.below HA1.out hbw)
      have HBk := Lib.hid (Sl.IntsAt.below HB1.out hbw)
      have HBW := Lib.hid hbw
      have HYAB := Lib.hid ((HUM.out y).1 (by rw [hy]; exact List.getElem_mem hkz))
      have HZ : Hid (∀ k2, k = k2 + 1 → ∃ z, wr.cell? ⟨b3, off + k2, none⟩ = some (.int .i64 z) ∧ ¬ y ≤ z) := Lib.hid (fun k2 e => by
        obtain ⟨b4, off4, cap5, hv4, _, _, _, hbl4, hc4⟩ := Sl.IntsAt.at_ HI.out (show k2 < us.length by omega)
        injection hv4 with e1 e2 e3
        injection e1 with e1
        injection e1 with e1 e4
        subst e1 e4
        refine ⟨us[k2], (hbw.cell (p := ⟨b3, off + k2, none⟩) hbl4).trans hc4, ?_⟩
        have := List.pairwise_iff_getElem.1 HUS.out k2 k (by omega) hkz (by omega)
        rw [hy]
        omega)
      clear hy hc hbw
      clear hkz
      have hc2 : ∀ x, Below wr.heap.size wr x → x.cell? ⟨b3, off + k, none⟩ = some (.int .i64 y) := fun x hx => (hx.cell (p := ⟨b3, off + k, none⟩) (block_lt_of_cell hc1)).trans hc1
      clear hc1
      cases k with
      | zero =>
        rw [Nat.add_zero] at hc2
        have hm1 : 0 < m := by omega
        by_cases hya : y ∈ a
        · have CA := Lib.hid (has_in HAk.out y true (by simp [hya]))
          clear hya
          go_wp2_with fail
          refine Gd.wp_region_below 89 (by kernel_rfl) rfl (by kernel_rfl) ?_
          repeat (first
            | (apply Gd.step_eqv
               · intro a x hC hk
                 try simp [go_sem] at hk
                 simp [go_sem, hk, hc2, hm1, hC]
                 first
                   | exact ⟨rfl, Below.refl _ _⟩
                   | (go_at_call 7; (with_reducible exact Gd.calls_eqv (CA.out x hC)))))
          intro x hC
          simp only [Gd.push, List.reverse_cons, List.reverse_nil, List.nil_append, List.cons_append, Gd.Fin, Gd.eqv, forall_eq]
          simp [Act.put]
          have HBX := Lib.hid (HBW.out.trans (hC.mono HBW.out.size))
          clear hC
          go_wp2_with fail
          go_roundw
          case rel => exact ⟨1, by omega, by go_num, HBX.out⟩
          case measure => simp [intOf]; omega
        · have CA := Lib.hid (has_in HAk.out y false (by simp [hya]))
          have CB := Lib.hid (has_in HBk.out y true (by simp [HYAB.out.resolve_left hya]))
          clear hya
          go_wp2_with fail
          refine Gd.wp_region_below 89 (by kernel_rfl) rfl (by kernel_rfl) ?_
          repeat (first
            | (apply Gd.step_eqv
               · intro a x hC hk
                 try simp [go_sem] at hk
                 simp [go_sem, hk, hc2, hm1, hC]
                 first
                   | exact ⟨rfl, Below.refl _ _⟩
                   | (go_at_call 7; (with_reducible exact Gd.calls_eqv (CA.out x hC)))
                   | (go_at_call 7; (with_reducible exact Gd.calls_eqv (CB.out x hC)))))
          intro x hC
          simp only [Gd.push, List.reverse_cons, List.reverse_nil, List.nil_append, List.cons_append, Gd.Fin, Gd.eqv, forall_eq]
          simp [Act.put]
          have HBX := Lib.hid (HBW.out.trans (hC.mono HBW.out.size))
          clear hC
          go_wp2_with fail
          go_roundw
          case rel => exact ⟨1, by omega, by go_num, HBX.out⟩
          case measure => simp [intOf]; omega
      | succ k =>
        obtain ⟨z, hz, hyz⟩ := HZ.out k rfl
        have hz2 : ∀ x, Below wr.heap.size wr x → x.cell? ⟨b3, off + k, none⟩ = some (.int .i64 z) := fun x hx => (hx.cell (p := ⟨b3, off + k, none⟩) (block_lt_of_cell hz)).trans hz
        have hq0 : (0 : Int) ≤ (k : Int) + 1 := by omega
        have hq1 : (k : Int) + 1 < m := by omega
        have hq2 : (k : Int) < m := by omega
        have hq3 : (0 : Int) < (k : Int) + 1 := by omega
        have hq5 : k < m := by omega
        have hq4 : IntKind.i64.wrap (k : Int) = k := wrap_nat hq5 hm63
        clear hz
        by_cases hya : y ∈ a
        · have CA := Lib.hid (has_in HAk.out y true (by simp [hya]))
          clear hya
          go_wp2_with fail
          refine Gd.wp_region_below 89 (by kernel_rfl) rfl (by kernel_rfl) ?_
          repeat (first
            | (apply Gd.step_eqv
               · intro a x hC hk
                 try simp [go_sem] at hk
                 simp [go_sem, hk, hc2, hz2, hyz, hq0, hq1, hq2, hq3, hq4, hC]
                 first
                   | exact ⟨rfl, Below.refl _ _⟩
                   | (go_at_call 7; (with_reducible exact Gd.calls_eqv (CA.out x hC)))))
          intro x hC
          simp only [Gd.push, List.reverse_cons, List.reverse_nil, List.nil_append, List.cons_append, Gd.Fin, Gd.eqv, forall_eq]
          simp [Act.put]
          have HBX := Lib.hid (HBW.out.trans (hC.mono HBW.out.size))
          clear hC
          go_wp2_with fail
          go_roundw
          case rel => exact ⟨k + 2, by omega, by go_num, HBX.out⟩
          case measure => simp [intOf]; omega
        · have CA := Lib.hid (has_in HAk.out y false (by simp [hya]))
          have CB := Lib.hid (has_in HBk.out y true (by simp [HYAB.out.resolve_left hya]))
          clear hya
          go_wp2_with fail
          refine Gd.wp_region_below 89 (by kernel_rfl) rfl (by kernel_rfl) ?_
          repeat (first
            | (apply Gd.step_eqv
               · intro a x hC hk
                 try simp [go_sem] at hk
                 simp [go_sem, hk, hc2, hz2, hyz, hq0, hq1, hq2, hq3, hq4, hC]
                 first
                   | exact ⟨rfl, Below.refl _ _⟩
                   | (go_at_call 7; (with_reducible exact Gd.calls_eqv (CA.out x hC)))
                   | (go_at_call 7; (with_reducible exact Gd.calls_eqv (CB.out x hC)))))
          intro x hC
          simp only [Gd.push, List.reverse_cons, List.reverse_nil, List.nil_append, List.cons_append, Gd.Fin, Gd.eqv, forall_eq]
          simp [Act.put]
          have HBX := Lib.hid (HBW.out.trans (hC.mono HBW.out.size))
          clear hC
          go_wp2_with fail
          go_roundw
          case rel => exact ⟨k + 2, by omega, by go_num, HBX.out⟩
          case measure => simp [intOf]; omega
    · have hki : ¬ ((k : Int) < m) := by omega
      obtain ⟨w2, hw2⟩ : ∃ x, x = wr := ⟨_, rfl⟩
      subst hw2
      have HA2 := Lib.hid (Sl.IntsAt.below HA1.out hbw)
      have HB2 := Lib.hid (Sl.IntsAt.below HB1.out hbw)
      have HI2 := Lib.hid (Sl.IntsAt.below HI.out hbw)
      have HBE2 := Lib.hid (HBE.out.trans (hbw.mono HBE.out.size))
      clear hbw HA1 HB1 HI HBE
      go_wp2_with fail
      go_loopw [7] (fun i wr => ∃ k : Nat, k ≤ la ∧ i = .int .i64 k ∧ w2 = wr) (fun i _ => la - (intOf i).toNat)
      case atStart => exact ⟨0, by omega, by first | rfl | trivial, rfl⟩
      case round =>
        obtain ⟨k, hk, rfl, rfl⟩ := hrel
        by_cases hkm : k < la
        · have hkz : k < a.length := by rw [← HLA.out]; exact hkm
          obtain ⟨b3, off, cap4, hv, _, _, _, hbl, hc⟩ := Sl.IntsAt.at_ HA2.out hkz
          injection hv with e1 e2 e3
          subst e1 e3
          clear e2
          obtain ⟨y, hy⟩ : ∃ y, y = a[k] := ⟨_, rfl⟩
          rw [← hy] at hc
          have HY := Lib.hid ((HUM.out y).2 (.inl (by rw [hy]; exact List.getElem_mem hkz)))
          have hki : (k : Int) < la := by omega
          clear hy hkz
          go_wp2_with (go_at_call 7; refine (has_at _ [] _ us y true (by simp [HY.out]) HI2.out).mono ?_; rintro x w3 ⟨rfl, rfl⟩)
          go_roundw
          case rel => exact ⟨k + 1, by omega, by go_num, by first | rfl | trivial⟩
          case measure => simp [intOf]; omega
        · have hki : ¬ ((k : Int) < la) := by omega
          go_wp2_with fail
          go_loopw [8] (fun i wr => ∃ k : Nat, k ≤ lb ∧ i = .int .i64 k ∧ w2 = wr) (fun i _ => lb - (intOf i).toNat)
          case atStart => exact ⟨0, by omega, by first | rfl | trivial, rfl⟩
          case round =>
            obtain ⟨k3, hk3, rfl, rfl⟩ := hrel
            by_cases hkm3 : k3 < lb
            · have hkz : k3 < b.length := by rw [← HLB.out]; exact hkm3
              obtain ⟨b3, off, cap4, hv, _, _, _, hbl, hc⟩ := Sl.IntsAt.at_ HB2.out hkz
              injection hv with e1 e2 e3
              subst e1 e3
              clear e2
              obtain ⟨y, hy⟩ : ∃ y, y = b[k3] := ⟨_, rfl⟩
              rw [← hy] at hc
              have HY := Lib.hid ((HUM.out y).2 (.inr (by rw [hy]; exact List.getElem_mem hkz)))
              have hki3 : (k3 : Int) < lb := by omega
              clear hy hkz
              go_wp2_with (go_at_call 7; refine (has_at _ [] _ us y true (by simp [HY.out]) HI2.out).mono ?_; rintro x w3 ⟨rfl, rfl⟩)
              go_roundw
              case rel => exact ⟨k3 + 1, by omega, by go_num, by first | rfl | trivial⟩
              case measure => simp [intOf]; omega
            · have hki3 : ¬ ((k3 : Int) < lb) := by omega
              obtain ⟨wz, hwz⟩ : ∃ x, x = (w2.alloc (.cells #[.int .i64 2] 3)).alloc (.cells #[.int .i64 1] 3) := ⟨_, rfl⟩
              have hbz : Below w2.heap.size w2 wz := by rw [hwz]; exact ((Below.refl _ _).alloc (Nat.le_refl _) _).alloc (by simp) _
              have CZ := Lib.hid (union_any wz [] (.slice (some ⟨w2.heap.size, 0, none⟩) 1 1) (.slice (some ⟨w2.heap.size + 1, 0, none⟩) 1 1) [2] [1]
                ⟨_, 1, rfl, by simp, by simp [maxLen], (fun e => by cases e), fun j u hj => by
                  match j, hj with
                  | 0, hj => exact ⟨w2.heap.size, 0, rfl, by simp, by rw [hwz]; simp; omega, by rw [hwz]; simpa using hj⟩⟩
                ⟨_, 1, rfl, by simp, by simp [maxLen], (fun e => by cases e), fun j u hj => by
                  match j, hj with
                  | 0, hj => exact ⟨w2.heap.size + 1, 0, rfl, by simp, by rw [hwz]; simp, by rw [hwz]; simpa using hj⟩⟩ (by simp))
              have HBZ := Lib.hid hbz
              rw [show Sl.uni [2] [1] = [1, 2] from by decide] at CZ
              clear hbz
              rw [hwz] at CZ
              go_wp2_with (go_at_call 6; refine CZ.out.mono ?_; rintro x w3 ⟨v3, rfl, hown3, hbel3⟩; obtain ⟨A5, cap5, rfl⟩ := own_form hown3)
              go_ret
              refine ⟨by simp, ?_⟩
              exact HBE2.out.trans ((HBZ.out.trans ((hwz ▸ hbel3).mono HBZ.out.size)).mono HBE2.out.size)

set_option maxRecDepth 100000 in
theorem silentUnions_lifted (os : Os) (started : os.Started) (H : Type) (enc : TypeId × Value → H) :
    ReturnsInHanded {} Try.checked os 3 .any (Rows.silentUnionsSpec.pre6 enc Try.prog Try.f3 Rows.silentUnionsRow.domain false) (Rows.silentUnionsSpec.post enc Try.prog Try.f3 false true false false) := by
  refine returnsInHanded_of_change (C := Try.checked) own started (by kernel_rfl) Try.func3
    (ChangeSpec.witness6 (enc := enc) (C := Try.checked) false ⟨#[], #[.slice none 0 0, .slice none 0 0], []⟩ 8 (by kernel_rfl) (by kernel_rfl) (by kernel_rfl) (by kernel_rfl)) ?_
  intro W base args ds gs before hval0 hW hcnd _
  have hval : ∀ (j : Nat) t v, Try.f3.params[j]? = some t → args[j]? = some v → Value.okWide Try.prog W .any base t v := hval0
  have hW' := hW
  obtain ⟨p, q, hA0, hV, rfl, hfz, hnd⟩ := hW
  have hA : DataW.TrodAll enc Try.prog W 0 (fun _ => true) true Try.f3.params.toList args.toList ds p := hA0
  rw [Try.params3] at hA hval
  obtain ⟨v0, v1, d0, d1, p0, p1, rfl, rfl, rfl, h0, h1⟩ := trodAll_two hA
  obtain ⟨rfl, rfl⟩ := trodVars_none hV
  obtain ⟨a0, len0, cap0, rfl⟩ := okWide_slice Try.underlying22 (hval 0 22 v0 rfl rfl)
  have k0 := h0
  have lt0 : ∀ x ∈ p0, x.block < W.heap.size := fun x hx => hW'.lt x (by simp [hx])
  obtain ⟨fuel0, hf0⟩ := h0
  obtain ⟨xs0, _, hxs0⟩ := ints_of Try.underlying22 Try.underlying3 (by kernel_rfl) hf0
  obtain ⟨a1, len1, cap1, rfl⟩ := okWide_slice Try.underlying22 (hval 1 22 v1 rfl rfl)
  have k1 := h1
  have lt1 : ∀ x ∈ p1, x.block < W.heap.size := fun x hx => hW'.lt x (by simp [hx])
  obtain ⟨fuel1, hf1⟩ := h1
  obtain ⟨xs1, _, hxs1⟩ := ints_of Try.underlying22 Try.underlying3 (by kernel_rfl) hf1
  clear hA0 hval0
  simp only [List.append_nil] at hW'
  refine (silentUnions_any W _ _ xs0 xs1 hxs0 hxs1).mono fun e W' ⟨he, hb⟩ => ?_
  subst he
  exact ⟨_, rfl, _, _, _, [], _, [], hW', trodAll_mk1 (shut_bool Try.underlying4 _), (trodAll_cons_mk (Below.trod laidOut (by kernel_rfl) (of_decide_eq_true (by kernel_rfl)) k0 hb lt0) (trodAll_cons_mk (Below.trod laidOut (by kernel_rfl) (of_decide_eq_true (by kernel_rfl)) k1 hb lt1) trodAll_mk0)), rfl, hb.frame _, fun h => by cases h⟩

theorem silentUnions_holds : Rows.SilentUnionsSaid :=
  OpenClaim.holds_of_wide 3 Try.f3 rfl rfl rfl rfl rfl rfl rfl ⟨rfl, rfl, rfl, rfl, rfl⟩ rfl rfl rfl rfl rfl (by kernel_rfl) Try.func3 (by kernel_rfl)
    (of_decide_eq_true (by kernel_rfl)) (by unfold Func.isWrapper; first | (rw [if_pos (by decide +kernel)]; kernel_rfl) | (rw [if_neg (by decide +kernel)]; exact ⟨rfl, rfl⟩))
    (fun os started H enc _ => silentUnions_lifted os started H enc)
end Go.Proofs.Ytdibfpjhmfkbkaa
