/-
  Contracts of the functions of package token that call no library: IsKeyword, word, IsName.
-/
import Derived.Test.YtkjmcfphkihanaaGreatDoorTokA
namespace Go.Proofs.YtkjmcfphkihanaaGreatDoor
open Go.RowKit
open Tok

set_option maxHeartbeats 1000000 in
theorem isKeyword_any (s : ByteArray) (w : World) : Calls Tryz.prog 95 #[.string s] w fun e w' => e = .returned (.bool (isKw s.data.toList)) ∧ w = w' := by
  go_enter Tryz.func95, Tryz.ntmps95
  go_wp2
  all_goals
    go_ret
    exact ⟨by rw [← Lib.toList_data]; simp_all [isKw, keywords], rfl⟩

theorem ret_three (a b c a' b' c' : Int) (h1 : a = a') (h2 : b = b') (h3 : c = c') :
    Ending.returned (.tuple #[.int .i64 a, .int .i64 b, .int .i64 c]) = .returned (.tuple #[.int .i64 a', .int .i64 b', .int .i64 c']) := by rw [h1, h2, h3]

set_option maxHeartbeats 1000000 in
theorem word_any (s : ByteArray) (w : World) (hs : s.size ≤ maxLen) : Calls Tryz.prog 79 #[.string s] w fun e w' =>
    e = .returned (.tuple #[.int .i64 (word s.data.toList).1, .int .i64 (word s.data.toList).2.1, .int .i64 (word s.data.toList).2.2]) ∧ w = w' := by
  unfold maxLen at hs
  have hl := size_list s
  by_cases h1 : 12 < s.size
  · have HW := Lib.hid (show word s.data.toList = (0, 0, 2) by unfold word; rw [if_pos (by omega)])
    clear hl
    go_enter Tryz.func79, Tryz.ntmps79
    go_wp2_with fail
    go_ret3
    rw [HW.out]
    exact ⟨rfl, rfl⟩
  · by_cases hk : isKw s.data.toList = true
    · have HW := Lib.hid (show word s.data.toList = (3, s.size, 0) by unfold word; rw [if_neg (by omega), if_pos hk, hl])
      clear hl
      go_enter Tryz.func79, Tryz.ntmps79
      go_wp2_with (go_at_call 95; refine (isKeyword_any _ _).mono ?_; rintro e w' ⟨rfl, rfl⟩)
      go_ret3
      rw [HW.out]
      exact ⟨rfl, rfl⟩
    · have hk' : isKw s.data.toList = false := by simpa using hk
      have HW := Lib.hid (show word s.data.toList = (1, s.size, 0) by unfold word; rw [if_neg (by omega), if_neg hk, hl])
      clear hl hk
      go_enter Tryz.func79, Tryz.ntmps79
      go_wp2_with (go_at_call 95; refine (isKeyword_any _ _).mono ?_; rintro e w' ⟨rfl, rfl⟩)
      go_ret3
      rw [HW.out]
      exact ⟨rfl, rfl⟩
end Go.Proofs.YtkjmcfphkihanaaGreatDoor
