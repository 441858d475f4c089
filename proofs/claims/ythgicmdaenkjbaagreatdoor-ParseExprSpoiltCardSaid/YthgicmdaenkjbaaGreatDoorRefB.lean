/-
  Contracts of the reference's Number (at digits) and signAt.
-/
import Derived.Test.YthgicmdaenkjbaaGreatDoorRefA
import Derived.Test.YthgicmdaenkjbaaGreatDoorTokLaws4
namespace Go.Proofs.YthgicmdaenkjbaaGreatDoor
open Go.RowKit
open Tok

namespace Tok
theorem dec_snoc (l : Bs) (k : Nat) (h : k < l.length) : dec 0 (l.take (k + 1)) = dec 0 (l.take k) * 10 + (l[k].toNat - 48) := by
  unfold dec
  rw [List.take_succ_eq_append_getElem h, List.foldl_append]
  rfl
theorem dec_take_le (l : Bs) (k : Nat) : dec 0 (l.take k) ≤ dec 0 l := by
  have e : dec 0 l = dec (dec 0 (l.take k)) (l.drop k) := by
    unfold dec
    rw [← List.foldl_append, List.take_append_drop]
  rw [e]
  exact dec_mono _ _
def NumTo (l : Bs) (n : Nat) (nv iv : Value) : Prop := ∃ (k v : Nat), k ≤ n ∧ iv = .int .i64 k ∧ nv = .int .i64 v ∧ v ≤ 9223372036854775807 ∧ v = dec 0 (l.take k)
theorem ret_two {a a' : Int} {b b' : Bool} (h1 : a = a') (h2 : b = b') : Ending.returned (.tuple #[.int .i64 a, .bool b]) = .returned (.tuple #[.int .i64 a', .bool b']) := by rw [h1, h2]
end Tok

set_option maxHeartbeats 1000000 in
theorem number_ref (s : ByteArray) (w : World) (h0 : 0 < s.size) (hs : s.size ≤ 65536) (hd : ∀ c ∈ s.data.toList, isDigit c = true) :
    Calls Tryz.prog 88 #[.string s] w fun e w' => (∃ v : Int, e = .returned (.tuple #[.int .i64 v, .bool (decide (dec 0 s.data.toList < lim))])) ∧ w = w' := by
  have HD := Lib.hid hd
  clear hd
  go_enter Tryz.func88, Tryz.ntmps88
  go_wp2_with fail
  go_loop [4, 5] (fun nv iv => NumTo s.data.toList s.size nv iv) (fun _ iv => s.size - (intOf iv).toNat)
  case atStart => exact ⟨0, 0, by omega, rfl, rfl, by omega, rfl⟩
  case round =>
    obtain ⟨k, v, hk, rfl, rfl, hv, hvd⟩ := hrel
    have HV := Lib.hid hvd
    clear hvd
    by_cases hlt : k < s.size
    · have hkl : k < s.data.toList.length := by rw [size_list]; exact hlt
      have hdig : isDigit s[k] = true := HD.out _ (List.getElem_mem hkl)
      have hbd : 48 ≤ s[k].toNat ∧ s[k].toNat ≤ 57 := by simpa [isDigit] using hdig
      have hsn := dec_snoc s.data.toList k hkl
      have hmono := dec_take_le s.data.toList (k + 1)
      have hget : s.data.toList[k] = s[k] := rfl
      rw [hget, ← HV.out] at hsn
      have HSN := Lib.hid hsn
      have HMO := Lib.hid hmono
      clear hsn hmono hget
      obtain ⟨d, hdd⟩ : ∃ d : Nat, s[k].toNat = d + 48 := ⟨s[k].toNat - 48, by omega⟩
      have hd9 : d ≤ 9 := by omega
      rw [hdd] at HSN
      have hDI : isDigI ((d : Int) + 48) = true := by rw [← isDigI_cast, hdd] at hdig; simpa using hdig
      have hsub : d + 48 - 48 = d := by omega
      rw [hsub] at HSN
      clear hsub
      go_wp2_with (first | (go_at_call 87; refine (refDigit_any _ _).mono ?_; rintro e w' ⟨rfl, rfl⟩))
      · have HE := Lib.hid (show ¬ dec 0 s.data.toList < lim by
          have h1 := HSN.out
          have h2 := HMO.out
          unfold lim
          omega)
        go_ret2
        exact ⟨⟨0, ret_two rfl (by rw [decide_eq_false HE.out])⟩, rfl⟩
      · go_round
        case rel => exact ⟨k + 1, v * 10 + d, by omega, by go_num, by go_num, by omega, HSN.out.symm⟩
        case measure => simp [intOf]; omega
    · have HE := Lib.hid (show dec 0 s.data.toList < lim by
        have := HV.out
        rw [List.take_of_length_le (by rw [size_list]; omega)] at this
        unfold lim
        omega)
      go_wp2_with fail
      go_ret2
      exact ⟨⟨v, ret_two rfl (by rw [decide_eq_true HE.out])⟩, rfl⟩

set_option maxHeartbeats 1000000 in
theorem signs_any (w : World) : Calls Tryz.prog 138 #[] w fun e w' => ∃ g, e = .returned (.slice (some ⟨g, 0, none⟩) 23 23) ∧ IsStrs w' g signs ∧ Below w.heap.size w w' := by
  go_enter Tryz.func138, Tryz.ntmps138
  go_wp2
  go_ret
  exact ⟨_, rfl, IsStrs.of_new _ signs _ _ rfl, (Below.refl _ _).alloc (Nat.le_refl _) _⟩

namespace Tok
/-- The sign g begins l. -/
def begins (l g : Bs) : Bool := decide (g.length ≤ l.length) && (l.take g.length == g)
theorem signLen_two' (l : Bs) (h : signs2.contains (l.take 2) = true) : signLen l = 2 := by unfold signLen; rw [if_pos h]
theorem begins_two (l g : Bs) (h : begins l g = true) (h2 : g ∈ signs2) : signLen l = 2 ∧ g.length = 2 := by
  have h3 : ∀ g ∈ signs2, g.length = 2 := by decide
  have h4 := h3 g h2
  have h5 : l.take g.length = g := by
    unfold begins at h
    simp only [Bool.and_eq_true, beq_iff_eq] at h
    exact h.2
  rw [h4] at h5
  exact ⟨signLen_two' l (by rw [h5]; simpa using h2), h4⟩
theorem none_two (l : Bs) (h : ∀ g ∈ signs2, begins l g = false) : signs2.contains (l.take 2) = false := by
  cases hc : signs2.contains (l.take 2)
  · rfl
  · have hm : l.take 2 ∈ signs2 := by simpa using hc
    have h3 : ∀ g ∈ signs2, g.length = 2 := by decide
    have h4 := h3 _ hm
    have h5 := h _ hm
    unfold begins at h5
    rw [h4] at h5
    rw [List.length_take] at h4
    simp at h5
    omega
theorem signs_low : ∀ k, (h : k < signs.length) → k < 6 → signs[k] ∈ signs2 := by decide
theorem signs_high : ∀ k, (h : k < signs.length) → 6 ≤ k → ∃ x, signs[k] = [x] ∧ signs1.contains x = true := by
  have h0 : ∀ g ∈ signs.drop 6, g.length = 1 ∧ signs1.contains (g.headD 0) = true := by decide
  intro k h h6
  have hm : signs[k] ∈ signs.drop 6 := by
    have e : signs[k] = (signs.drop 6)[k - 6]'(by rw [List.length_drop]; omega) := by
      rw [List.getElem_drop]
      congr 1
      omega
    rw [e]
    exact List.getElem_mem _
  obtain ⟨h1, h2⟩ := h0 _ hm
  match hs : signs[k], h1, h2 with
  | [x], _, h2 => exact ⟨x, rfl, h2⟩
theorem signs_all2 : ∀ g ∈ signs2, ∃ k, ∃ h : k < signs.length, k < 6 ∧ signs[k] = g := by decide
theorem signs_all1 : ∀ x ∈ signs1, ∃ k, ∃ h : k < signs.length, signs[k] = [x] := by decide
theorem sign_hit (l : Bs) (k : Nat) (hk : k < signs.length) (h : begins l signs[k] = true) (hn : ∀ j, (hj : j < signs.length) → j < k → begins l signs[j] = false) : signs[k] = l.take (signLen l) := by
  have ht : l.take signs[k].length = signs[k] := by
    unfold begins at h
    simp only [Bool.and_eq_true, beq_iff_eq] at h
    exact h.2
  rcases Nat.lt_or_ge k 6 with h6 | h6
  · obtain ⟨h1, h2⟩ := begins_two l _ h (signs_low k hk h6)
    rw [h1, ← h2]
    exact ht.symm
  · have hno := none_two l (fun g hg => by
      obtain ⟨j, hj, hj6, e⟩ := signs_all2 g hg
      rw [← e]
      exact hn j hj (by omega))
    obtain ⟨x, hx, hx1⟩ := signs_high k hk h6
    rw [hx] at ht ⊢
    cases l with
    | nil => simp at ht
    | cons c r =>
      have e : c = x := by simpa using ht
      subst e
      unfold signLen
      rw [if_neg (by rw [hno]; simp)]
      simp only
      rw [if_pos hx1]
      rfl
theorem sign_miss (l : Bs) (hn : ∀ j, (hj : j < signs.length) → begins l signs[j] = false) : signLen l = 0 := by
  have hno := none_two l (fun g hg => by
    obtain ⟨j, hj, _, e⟩ := signs_all2 g hg
    rw [← e]
    exact hn j hj)
  unfold signLen
  rw [if_neg (by rw [hno]; simp)]
  cases l with
  | nil => rfl
  | cons c r =>
    simp only
    by_cases hc : signs1.contains c = true
    · obtain ⟨j, hj, e⟩ := signs_all1 c (by simpa using hc)
      have := hn j hj
      rw [e] at this
      simp [begins] at this
    · rw [if_neg hc]
theorem extract_list (s : ByteArray) (i m : Nat) : (s.extract i (i + m)).toList = (s.data.toList.drop i).take m := by
  rw [Lib.toList_data, Lib.extract_data]
  congr 1
  omega
end Tok

set_option maxHeartbeats 2000000 in
theorem signAt_any (s : ByteArray) (i : Nat) (w : World) (hi : i ≤ s.size) (hs : s.size ≤ 65536) :
    Calls Tryz.prog 89 #[.string s, .int .i64 i] w fun e w' => (∃ y : ByteArray, e = .returned (.string y) ∧ y.data.toList = (s.data.toList.drop i).take (signLen (s.data.toList.drop i))) ∧ Below w.heap.size w w' := by
  have hll : (s.data.toList.drop i).length = s.size - i := by rw [List.length_drop, size_list]
  have HL := Lib.hid hll
  clear hll
  go_enter Tryz.func89, Tryz.ntmps89
  go_wp2_with (go_at_call 138; refine (signs_any _).mono ?_; rintro e w1 ⟨g, rfl, hc, hb⟩)
  have HC := Lib.hid hc
  clear hc
  go_loopw [6] (fun iv wr => ∃ k : Nat, k ≤ 23 ∧ iv = .int .i64 k ∧ Below w1.heap.size w1 wr ∧ RowKit.Hid (∀ j, (hj : j < signs.length) → j < k → begins (s.data.toList.drop i) signs[j] = false)) (fun iv _ => 23 - (intOf iv).toNat)
  case atStart => exact ⟨0, by omega, rfl, Below.refl _ _, fun j hj h => absurd h (by omega)⟩
  case round =>
    obtain ⟨k, hk, rfl, hbel, HN⟩ := hrel
    by_cases hlt : k < 23
    · have hks : k < signs.length := by rw [show signs.length = 23 from rfl]; exact hlt
      have hcs := (hbel.cell (p := ⟨g, k, none⟩) HC.out.1).trans (HC.out.2 k hks)
      have hys : (⟨signs[k].toArray⟩ : ByteArray).size = signs[k].length := by show signs[k].toArray.size = _; simp
      have hyl : (⟨signs[k].toArray⟩ : ByteArray).toList = signs[k] := by rw [Lib.toList_data]
      have hyd : (⟨signs[k].toArray⟩ : ByteArray).data.toList = signs[k] := rfl
      have hlen : ∀ g ∈ signs, g.length ≤ 2 := by decide
      have hl2 := hlen _ (List.getElem_mem hks)
      have hext := extract_list s i signs[k].length
      have hmt : begins (s.data.toList.drop i) signs[k] = (decide (signs[k].length ≤ s.size - i) && ((s.data.toList.drop i).take signs[k].length == signs[k])) := by
        unfold begins
        rw [HL.out]
      have HH := Lib.hid (fun h => sign_hit (s.data.toList.drop i) k hks h HN.out)
      have HM : RowKit.Hid (begins (s.data.toList.drop i) signs[k] = false → ∀ j, (hj : j < signs.length) → j < k + 1 → begins (s.data.toList.drop i) signs[j] = false) := by
        show _ → _
        intro h0 j hj h
        rcases Nat.lt_or_ge j k with h1 | h1
        · exact HN.out j hj h1
        · obtain rfl : j = k := by omega
          exact h0
      rw [← hys] at hext hmt hl2
      rw [← hext] at hmt
      have hmt2 : begins (s.data.toList.drop i) signs[k] = (decide ((⟨signs[k].toArray⟩ : ByteArray).size ≤ s.size - i) && ((s.extract i (i + (⟨signs[k].toArray⟩ : ByteArray).size)).toList == (⟨signs[k].toArray⟩ : ByteArray).toList)) := by
        rw [hmt, hyl]
      clear hmt hext hyl hys hlen
      have HMT := Lib.hid hmt2
      have HYD := Lib.hid hyd
      clear hmt2 hyd
      have hi0 : (0 : Int) ≤ i := by omega
      have hk0 : (0 : Int) ≤ k := by omega
      generalize hy : (⟨signs[k].toArray⟩ : ByteArray) = y at hcs hl2 HMT HYD
      clear hy
      by_cases hsz : y.size ≤ s.size - i
      · have hszI : (y.size : Int) ≤ (s.size : Int) - (i : Int) := by omega
        have hd1 : decide ((y.size : Int) ≤ (s.size : Int) - (i : Int)) = true := decide_eq_true hszI
        have hb2 : i + y.size ≤ s.size := by omega
        cases heq : ((s.extract i (i + y.size)).toList == y.toList)
        · have HNX := Lib.hid (HM.out (by rw [HMT.out, heq]; simp))
          clear HM HH
          go_wp2_with fail
          go_quiet (fail)
          go_wp2_with fail
          go_roundw
          case rel => exact ⟨k + 1, by omega, by go_num, below_drewN hbel _, HNX.out⟩
          case measure => simp [intOf]; omega
        · have HNX := Lib.hid (HH.out (by rw [HMT.out, heq]; simp [hsz]))
          clear HM HH
          go_wp2_with fail
          go_quiet (fail)
          go_wp2_with fail
          go_ret
          exact ⟨⟨y, rfl, by rw [HYD.out]; exact HNX.out⟩, below_trans hb (below_drewN hbel _)⟩
      · have hszI : ¬ (y.size : Int) ≤ (s.size : Int) - (i : Int) := by omega
        have hd1 : decide ((y.size : Int) ≤ (s.size : Int) - (i : Int)) = false := decide_eq_false hszI
        have HNX := Lib.hid (HM.out (by rw [HMT.out, decide_eq_false hsz]; rfl))
        clear HM HH
        go_wp2_with fail
        go_quiet (fail)
        go_wp2_with fail
        go_roundw
        case rel => exact ⟨k + 1, by omega, by go_num, below_drewN hbel _, HNX.out⟩
        case measure => simp [intOf]; omega
    · have HZ := Lib.hid (sign_miss (s.data.toList.drop i) (fun j hj => HN.out j hj (by have : signs.length = 23 := rfl; omega)))
      go_wp2_with fail
      go_ret
      exact ⟨⟨⟨#[]⟩, rfl, by rw [HZ.out]; rfl⟩, below_trans hb hbel⟩
end Go.Proofs.YthgicmdaenkjbaaGreatDoor
