/-
  Contracts of gapLength, signLength of package token.
-/
import Derived.Test.YtncflfadgcaldaaGreatDoorTokB
import Derived.Test.YtncflfadgcaldaaGreatDoorShelf
namespace Go.Proofs.YtncflfadgcaldaaGreatDoor
open Go.RowKit
open Tok

namespace Tok
theorem indexByte_in (c : UInt8) : ∀ l : Bs, c ∈ l → Lib.indexByte l c = ((l.takeWhile (fun b => b != c)).length : Int)
  | [], h => by simp at h
  | b :: r, h => by
    unfold Lib.indexByte
    by_cases hb : b = c
    · subst hb; simp
    · have hr : c ∈ r := by
        rcases List.mem_cons.1 h with h | h
        · exact absurd h.symm hb
        · exact h
      have ih := indexByte_in c r hr
      have h1 : (b == c) = false := by simpa using hb
      have h2 : (b != c) = true := by simpa using hb
      rw [h1, ih, List.takeWhile_cons, h2]
      simp
theorem indexByte_out (c : UInt8) : ∀ l : Bs, c ∉ l → Lib.indexByte l c = -1 ∧ (l.takeWhile (fun b => b != c)).length = l.length
  | [], _ => by simp [Lib.indexByte]
  | b :: r, h => by
    have hb : ¬ b = c := fun e => h (by simp [e])
    have hr : c ∉ r := fun e => h (by simp [e])
    have ih := indexByte_out c r hr
    have h1 : (b == c) = false := by simpa using hb
    have h2 : (b != c) = true := by simpa using hb
    constructor
    · unfold Lib.indexByte
      rw [h1, ih.1]
      rfl
    · rw [List.takeWhile_cons, h2]
      simpa using ih.2
theorem gap_comment (l : Bs) (h : Lib.hasPrefix l [47, 47] = true) : gapLen l = (l.takeWhile (fun b => b != 10)).length := by
  unfold Lib.hasPrefix at h
  match l, h with
  | [], h => simp at h
  | [a], h => simp [List.isPrefixOf] at h
  | a :: b :: r, h =>
    have : a = 47 ∧ b = 47 := by
      simp [List.isPrefixOf] at h
      exact ⟨h.1.symm, h.2.symm⟩
    obtain ⟨rfl, rfl⟩ := this
    simp [gapLen]
theorem gap_other (l : Bs) (c : UInt8) (r : Bs) (hl : l = c :: r) (h : Lib.hasPrefix l [47, 47] = false) : gapLen l = if c.toNat = 32 ∨ c.toNat = 9 ∨ c.toNat = 13 ∨ c.toNat = 10 then 1 else 0 := by
  subst hl
  simp only [gapLen]
  have e (n : UInt8) : (c = n) = (c.toNat = n.toNat) := by rw [UInt8.toNat_inj]
  rw [if_neg]
  · simp only [e]
    rfl
  rintro ⟨rfl, h2⟩
  unfold Lib.hasPrefix at h
  cases r with
  | nil => simp at h2
  | cons b r =>
    simp at h2
    subst h2
    simp [List.isPrefixOf] at h
end Tok

set_option maxHeartbeats 1000000 in
theorem gapLength_any (s : ByteArray) (w : World) (h0 : 0 < s.size) : Calls Tryz.prog 29 #[.string s] w fun e w' => e = .returned (.int .i64 (gapLen s.data.toList)) ∧ w = w' := by
  cases hp : Lib.hasPrefix s.data.toList [47, 47]
  · have hg := Lib.hid (gap_other s.data.toList _ _ (drop_at s 0 h0) hp)
    go_enter Tryz.func29, Tryz.ntmps29
    go_wp2_with (go_at_call 54; refine (Tryz.strings_HasPrefix _ _ _).mono ?_; rintro e w' ⟨rfl, rfl⟩)
    all_goals
      go_ret
      refine ⟨ret_int ?_, rfl⟩
      have hg1 := hg.out
      rw [hg1]
      clear hg hg1 hp
      simp only [beq_iff_eq, beq_eq_false_iff_ne, ne_eq] at *
      first | (rw [if_pos (by omega)]; done) | (rw [if_pos (by omega)]; rfl) | (rw [if_neg (by omega)]; rfl)
  · have hg := gap_comment _ hp
    by_cases hn : (10 : UInt8) ∈ s.data.toList
    · have hi := indexByte_in 10 _ hn
      rw [← hg] at hi
      have HG := Lib.hid hi
      have hge : 0 ≤ Lib.indexByte s.data.toList 10 := by omega
      clear hi hg hn
      go_enter Tryz.func29, Tryz.ntmps29
      go_wp2_with (first | (go_at_call 54; refine (Tryz.strings_HasPrefix _ _ _).mono ?_; rintro e w' ⟨rfl, rfl⟩) | (go_at_call 55; refine (Tryz.strings_IndexByte _ _ _).mono ?_; rintro e w' ⟨rfl, rfl⟩))
      all_goals
        go_ret
        exact ⟨ret_int (by rw [HG.out]), rfl⟩
    · have hi := indexByte_out 10 _ hn
      have HG := Lib.hid (show Lib.indexByte s.data.toList 10 = -1 ∧ gapLen s.data.toList = s.size by rw [hg, hi.2, size_list]; exact ⟨hi.1, rfl⟩)
      have hlt : Lib.indexByte s.data.toList 10 < 0 := by have := hi.1; omega
      clear hi hg hn
      go_enter Tryz.func29, Tryz.ntmps29
      go_wp2_with (first | (go_at_call 54; refine (Tryz.strings_HasPrefix _ _ _).mono ?_; rintro e w' ⟨rfl, rfl⟩) | (go_at_call 55; refine (Tryz.strings_IndexByte _ _ _).mono ?_; rintro e w' ⟨rfl, rfl⟩))
      all_goals
        go_ret
        exact ⟨ret_int (by rw [HG.out.2]), rfl⟩

namespace Tok
theorem take_two (s : ByteArray) : (s.extract 0 2).toList = s.data.toList.take 2 := by rw [Lib.extract_toList]; rfl
theorem signLen_two (l : Bs) (h : signs2.contains (l.take 2) = true) : signLen l = 2 := by unfold signLen; rw [if_pos h]
theorem signLen_one (l : Bs) (c : UInt8) (r : Bs) (hl : l = c :: r) (h : signs2.contains (l.take 2) = false) : signLen l = if signs1.contains c then 1 else 0 := by
  subst hl
  unfold signLen
  rw [if_neg (by rw [h]; simp)]
theorem short_two (l : Bs) (h : l.length < 2) : signs2.contains (l.take 2) = false := by
  match l, h with
  | [], _ => decide
  | [a], _ => simp [signs2]
/-- Which of the bytes 'signs1' holds is asked by IndexByte. -/
theorem index_signs1 (c : UInt8) : ((0 : Int) ≤ Lib.indexByte signs1 c) = (signs1.contains c = true) := by
  by_cases h : c ∈ signs1
  · rw [indexByte_in c _ h]
    simp [h]
  · rw [(indexByte_out c _ h).1]
    simp [h]
end Tok

set_option maxHeartbeats 1000000 in
theorem signLength_any (s : ByteArray) (w : World) (h0 : 0 < s.size) : Calls Tryz.prog 63 #[.string s] w fun e w' => e = .returned (.int .i64 (signLen s.data.toList)) ∧ w = w' := by
  have h1 : signs2.contains (s.data.toList.take 2) = false → signLen s.data.toList = if (0 : Int) ≤ Lib.indexByte signs1 s[0] then 1 else 0 := fun h => by
    rw [signLen_one s.data.toList s[0] _ (drop_at s 0 h0) h]
    by_cases hq : signs1.contains s[0] = true
    · rw [if_pos hq, if_pos ((index_signs1 _).mpr hq)]
    · rw [if_neg hq, if_neg (fun e => hq ((index_signs1 _).mp e))]
  have H1 := Lib.hid h1
  clear h1
  by_cases h2 : 2 ≤ s.size
  · go_enter Tryz.func63, Tryz.ntmps63
    go_wp2_with (go_at_call 55; refine (Tryz.strings_IndexByte _ _ _).mono ?_; rintro e w' ⟨rfl, rfl⟩)
    all_goals
      go_ret
      refine ⟨ret_int ?_, rfl⟩
      first
        | (rw [signLen_two _ (by rw [← take_two]; simp_all [signs2])]; done)
        | (rw [signLen_two _ (by rw [← take_two]; simp_all [signs2])]; rfl)
        | (rw [H1.out (by rw [← take_two]; simp_all [signs2]), if_pos (by assumption)]; rfl)
        | (rw [H1.out (by rw [← take_two]; simp_all [signs2]), if_neg (by unfold signs1; omega)]; rfl)
        | (exfalso; simp_all; done)
  · have HS := Lib.hid (H1.out (short_two _ (by rw [size_list]; omega)))
    go_enter Tryz.func63, Tryz.ntmps63
    go_wp2_with (go_at_call 55; refine (Tryz.strings_IndexByte _ _ _).mono ?_; rintro e w' ⟨rfl, rfl⟩)
    all_goals
      go_ret
      refine ⟨ret_int ?_, rfl⟩
      rw [HS.out]
      first
        | (rw [if_pos (by assumption)]; rfl)
        | (rw [if_neg (by unfold signs1; omega)]; rfl)
end Go.Proofs.YtncflfadgcaldaaGreatDoor
