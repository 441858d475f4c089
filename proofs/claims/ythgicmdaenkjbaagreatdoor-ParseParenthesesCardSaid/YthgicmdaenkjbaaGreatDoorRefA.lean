/-
  Contracts of the reference's small functions: Letter, Digit, inner, Keywords, IsKeyword, IsName.
-/
import Derived.Test.YthgicmdaenkjbaaGreatDoorTokE
import Derived.Below
import Derived.WalkSpells
import Derived.WalkSmall
import Derived.RegionTactic
import Derived.OwnWalk
import Derived.Deep.RegionWith
namespace Go.Proofs.YthgicmdaenkjbaaGreatDoor
open Go.RowKit
open Tok

set_option maxHeartbeats 400000 in
theorem refLetter_any (c : Int) (w : World) : Calls Tryz.prog 84 #[.int .u8 c] w fun e w' => e = .returned (.bool (isLetI c)) ∧ w = w' := by
  go_enter Tryz.func84, Tryz.ntmps84
  go_wp2
  all_goals
    go_ret
    exact ⟨by unfold isLetI; simp [*] <;> omega, rfl⟩

set_option maxHeartbeats 400000 in
theorem refDigit_any (c : Int) (w : World) : Calls Tryz.prog 87 #[.int .u8 c] w fun e w' => e = .returned (.bool (isDigI c)) ∧ w = w' := by
  go_enter Tryz.func87, Tryz.ntmps87
  go_wp2
  all_goals
    go_ret
    exact ⟨by unfold isDigI; simp [*] <;> omega, rfl⟩

set_option maxHeartbeats 400000 in
theorem refInner_any (c : Int) (w : World) : Calls Tryz.prog 85 #[.int .u8 c] w fun e w' => e = .returned (.bool (isPartI c)) ∧ w = w' := by
  go_enter Tryz.func85, Tryz.ntmps85
  go_wp2_with (first | (go_at_call 84; refine (refLetter_any _ _).mono ?_; rintro e w' ⟨rfl, rfl⟩) | (go_at_call 87; refine (refDigit_any _ _).mono ?_; rintro e w' ⟨rfl, rfl⟩))
  all_goals
    go_ret
    exact ⟨by unfold isPartI; simp [*], rfl⟩

namespace Tok
def strs (l : List Bs) : List Value := l.map fun b => .string ⟨b.toArray⟩
theorem strs_at (l : List Bs) (k : Nat) (h : k < l.length) : (strs l)[k]? = some (.string ⟨(l[k]).toArray⟩) := by
  simp [strs, h]
theorem cells_new (w : World) (xs : Array Value) (t : TypeId) (j : Nat) (u : Value) (h : xs[j]? = some u) : (w.alloc (.cells xs t)).cell? ⟨w.heap.size, j, none⟩ = some u :=
  (cell_of_row _ _ j xs t (0, 0) (heap_alloc_new w _)).trans h
/-- A slice of strings, its cells known. -/
def IsStrs (w : World) (g : Nat) (l : List Bs) : Prop := g < w.heap.size ∧ ∀ k, (h : k < l.length) → w.cell? ⟨g, k, none⟩ = some (.string ⟨(l[k]).toArray⟩)
theorem IsStrs.below {w w' : World} {g : Nat} {l : List Bs} (h : IsStrs w g l) (hb : Below w.heap.size w w') : IsStrs w' g l :=
  ⟨Nat.lt_of_lt_of_le h.1 hb.size, fun k hk => (hb.cell (p := ⟨g, k, none⟩) h.1).trans (h.2 k hk)⟩
theorem IsStrs.of_new (w : World) (l : List Bs) (t : TypeId) (xs : Array Value) (hx : xs.toList = strs l) : IsStrs (w.alloc (.cells xs t)) w.heap.size l := by
  refine ⟨by simp, fun k hk => cells_new w xs t k _ ?_⟩
  rw [← Array.getElem?_toList, hx]
  exact strs_at l k hk
end Tok

set_option maxHeartbeats 1000000 in
theorem keywords_any (w : World) : Calls Tryz.prog 137 #[] w fun e w' => ∃ g, e = .returned (.slice (some ⟨g, 0, none⟩) 22 22) ∧ IsStrs w' g keywords ∧ Below w.heap.size w w' := by
  go_enter Tryz.func137, Tryz.ntmps137
  go_wp2
  go_ret
  exact ⟨_, rfl, IsStrs.of_new _ keywords _ _ rfl, (Below.refl _ _).alloc (Nat.le_refl _) _⟩

namespace Tok
theorem contains_false {l : Bs} {k : Nat} (h : ∀ j, (hj : j < keywords.length) → j < k → (keywords[j] == l) = false) (hk : keywords.length ≤ k) : isKw l = false := by
  unfold isKw
  rw [List.contains_eq_any_beq, List.any_eq_false]
  intro x hx
  obtain ⟨j, hj, rfl⟩ := List.getElem_of_mem hx
  have := h j hj (by omega)
  intro e
  have e1 : l = keywords[j] := by simpa using e
  rw [← e1] at this
  simp at this
theorem contains_true {l : Bs} {k : Nat} (hk : k < keywords.length) (h : (keywords[k] == l) = true) : isKw l = true := by
  unfold isKw
  have e1 : keywords[k] = l := by simpa using h
  rw [← e1]
  exact List.contains_iff_mem.2 (List.getElem_mem hk)
end Tok

set_option maxHeartbeats 1000000 in
theorem refIsKeyword_any (s : ByteArray) (w : World) : Calls Tryz.prog 86 #[.string s] w fun e w' => e = .returned (.bool (isKw s.data.toList)) ∧ Below w.heap.size w w' := by
  have hkl : keywords.length = 22 := rfl
  have HK := Lib.hid hkl
  clear hkl
  go_enter Tryz.func86, Tryz.ntmps86
  go_wp2_with (go_at_call 137; refine (keywords_any _).mono ?_; rintro e w1 ⟨g, rfl, hc, hb⟩)
  have HC := Lib.hid hc
  clear hc
  go_loop [4] (fun iv => ∃ k : Nat, k ≤ 22 ∧ iv = .int .i64 k ∧ RowKit.Hid (∀ j, (hj : j < keywords.length) → j < k → (keywords[j] == s.data.toList) = false)) (fun iv => 22 - (intOf iv).toNat)
  case atStart => exact ⟨0, by omega, rfl, fun j hj h => absurd h (by omega)⟩
  case round =>
    obtain ⟨k, hk, rfl, HN⟩ := hrel
    by_cases hlt : k < 22
    · have hk2 : k < keywords.length := by have := HK.out; omega
      obtain ⟨kw, hkw⟩ : ∃ kw, kw = keywords[k] := ⟨_, rfl⟩
      have hcell : w1.cell? ⟨g, k, none⟩ = some (.string ⟨kw.toArray⟩) := by rw [hkw]; exact HC.out.2 k hk2
      have HKW := Lib.hid hkw
      clear hkw
      cases heq : (kw == s.data.toList)
      · have HE := Lib.hid heq
        have he : (kw == s.toList) = false := by rw [Lib.toList_data]; exact heq
        clear heq
        go_wp2_with fail
        go_round
        case rel =>
          refine ⟨k + 1, by omega, by go_num, fun j hj h => ?_⟩
          rcases Nat.lt_or_ge j k with h1 | h1
          · exact HN.out j hj h1
          · obtain rfl : j = k := by omega
            rw [← HKW.out]; exact HE.out
        case measure => simp [intOf]; omega
      · have HE := Lib.hid (contains_true hk2 (by rw [← HKW.out]; exact heq))
        have he : (kw == s.toList) = true := by rw [Lib.toList_data]; exact heq
        clear heq
        go_wp2_with fail
        go_ret
        exact ⟨ret_bool HE.out.symm, hb⟩
    · have HE := Lib.hid (contains_false HN.out (by have := HK.out; omega))
      go_wp2_with fail
      go_ret
      exact ⟨ret_bool HE.out.symm, hb⟩

set_option maxHeartbeats 1000000 in
theorem refIsName_any (s : ByteArray) (w : World) (hs : s.size ≤ maxLen) : Calls Tryz.prog 63 #[.string s] w fun e w' => e = .returned (.bool (isName s.data.toList)) ∧ Below w.heap.size w w' := by
  unfold maxLen at hs
  have hl := size_list s
  by_cases h0 : s.size = 0
  · have hN := Lib.hid (show isName s.data.toList = false by unfold isName; simp [show s.data.toList = [] from List.eq_nil_of_length_eq_zero (by omega)])
    have h0' : (s.size : Int) < 1 := by omega
    clear hl h0 hs
    go_enter Tryz.func63, Tryz.ntmps63
    go_wp2_with fail
    go_ret
    exact ⟨ret_bool hN.out.symm, Below.refl _ _⟩
  · have hpos : 0 < s.size := by omega
    have hne : s.data.toList.isEmpty = false := by rw [← Lib.toList_data]; exact nonempty_bool s hpos
    have hge1 : ¬ (s.size : Int) < 1 := by omega
    by_cases h12 : s.size ≤ 12
    · have hwl := wordLen_eq s.data.toList s[0] (s.data.toList.drop 1) (drop_at s 0 hpos)
      cases hlet : isLetter s[0]
      · rw [hlet] at hwl
        have hN := Lib.hid (show isName s.data.toList = false by
          unfold isName
          rw [hne, hl, hwl]
          simp
          omega)
        have hL : isLetI (s[0].toNat : Int) = false := by rw [isLetI_cast]; exact hlet
        clear hl h0 hne hwl hlet
        go_enter Tryz.func63, Tryz.ntmps63
        go_wp2_with (first | (go_at_call 84; refine (refLetter_any _ _).mono ?_; rintro e w' ⟨rfl, rfl⟩) | (go_at_call 86; refine (refIsKeyword_any _ _).mono ?_; rintro e w1 ⟨rfl, hb⟩) | (go_at_call 85; refine (refInner_any _ _).mono ?_; rintro e w' ⟨rfl, rfl⟩))
        go_ret
        exact ⟨ret_bool hN.out.symm, Below.refl _ _⟩
      · have hL : isLetI (s[0].toNat : Int) = true := by rw [isLetI_cast]; exact hlet
        rw [hlet, if_pos rfl] at hwl
        cases hk : isKw s.data.toList
        · have HW := Lib.hid hwl
          have HN := Lib.hid (show isName s.data.toList = decide ((s.data.toList.takeWhile isPart).length = s.size) by
            unfold isName
            rw [hne, hl, hwl, hk]
            simp [h12])
          clear hl h0 hne hwl hlet
          go_enter Tryz.func63, Tryz.ntmps63
          go_wp2_with (first | (go_at_call 84; refine (refLetter_any _ _).mono ?_; rintro e w' ⟨rfl, rfl⟩) | (go_at_call 86; refine (refIsKeyword_any _ _).mono ?_; rintro e w1 ⟨rfl, hb⟩) | (go_at_call 85; refine (refInner_any _ _).mono ?_; rintro e w' ⟨rfl, rfl⟩))
          clear hL hk
          go_loop [3] (fun iv => ∃ k : Nat, k ≤ s.size ∧ iv = .int .i64 k ∧ RowKit.Hid ((s.data.toList.takeWhile isPart).length = k + ((s.data.toList.drop k).takeWhile isPart).length)) (fun iv => s.size - (intOf iv).toNat)
          case atStart => exact ⟨0, by omega, rfl, by show _ = _; simp⟩
          case round =>
            obtain ⟨k, hk, rfl, HR⟩ := hrel
            by_cases hlt : k < s.size
            · cases hp : isPart s[k]
              · have hP : isPartI (s[k].toNat : Int) = false := by rw [isPartI_cast]; exact hp
                have HE := Lib.hid (show isName s.data.toList = false by
                  have h1 := HR.out
                  have h2 := tw_none isPart s k hlt hp
                  rw [HN.out]
                  simp only [decide_eq_false_iff_not]
                  omega)
                clear hp
                go_wp2_with (first | (go_at_call 84; refine (refLetter_any _ _).mono ?_; rintro e w' ⟨rfl, rfl⟩) | (go_at_call 86; refine (refIsKeyword_any _ _).mono ?_; rintro e w1 ⟨rfl, hb⟩) | (go_at_call 85; refine (refInner_any _ _).mono ?_; rintro e w' ⟨rfl, rfl⟩))
                go_ret
                exact ⟨ret_bool HE.out.symm, hb⟩
              · have hP : isPartI (s[k].toNat : Int) = true := by rw [isPartI_cast]; exact hp
                have HT := Lib.hid (tw_cons isPart s k hlt hp)
                clear hp
                go_wp2_with (first | (go_at_call 84; refine (refLetter_any _ _).mono ?_; rintro e w' ⟨rfl, rfl⟩) | (go_at_call 86; refine (refIsKeyword_any _ _).mono ?_; rintro e w1 ⟨rfl, hb⟩) | (go_at_call 85; refine (refInner_any _ _).mono ?_; rintro e w' ⟨rfl, rfl⟩))
                go_round
                case rel => exact ⟨k + 1, by omega, by go_num, by show _ = _; have h1 := HR.out; have h2 := HT.out; omega⟩
                case measure => simp [intOf]; omega
            · have HE := Lib.hid (show isName s.data.toList = true by
                have h1 := HR.out
                have h2 := tw_end isPart s k hlt
                rw [HN.out]
                simp only [decide_eq_true_eq]
                omega)
              go_wp2_with fail
              go_ret
              exact ⟨ret_bool HE.out.symm, hb⟩
        · have hN := Lib.hid (show isName s.data.toList = false by
            unfold isName
            rw [hk]
            simp)
          clear hl h0 hne hwl hlet
          go_enter Tryz.func63, Tryz.ntmps63
          go_wp2_with (first | (go_at_call 84; refine (refLetter_any _ _).mono ?_; rintro e w' ⟨rfl, rfl⟩) | (go_at_call 86; refine (refIsKeyword_any _ _).mono ?_; rintro e w1 ⟨rfl, hb⟩) | (go_at_call 85; refine (refInner_any _ _).mono ?_; rintro e w' ⟨rfl, rfl⟩))
          go_ret
          exact ⟨ret_bool hN.out.symm, hb⟩
    · have hN := Lib.hid (show isName s.data.toList = false by
        unfold isName
        rw [hne, hl]
        simp [h12])
      clear hl h0 hne
      go_enter Tryz.func63, Tryz.ntmps63
      go_wp2_with fail
      go_ret
      exact ⟨ret_bool hN.out.symm, Below.refl _ _⟩
end Go.Proofs.YthgicmdaenkjbaaGreatDoor
