/-
  The contract of IsName of package token.
-/
import Derived.Test.YtncflfadgcaldaaGreatDoorTokD
namespace Go.Proofs.YtncflfadgcaldaaGreatDoor
open Go.RowKit
open Tok

set_option maxHeartbeats 1000000 in
theorem isName_any (s : ByteArray) (w : World) (hs : s.size ≤ maxLen) : Calls Tryz.prog 69 #[.string s] w fun e w' => e = .returned (.bool (isName s.data.toList)) ∧ Below w.heap.size w w' := by
  have hl := size_list s
  by_cases h0 : s.size = 0
  · have hN := Lib.hid (show isName s.data.toList = false by unfold isName; simp [show s.data.toList = [] from List.eq_nil_of_length_eq_zero (by omega)])
    have he := empty_bool s h0
    have he2 := empty_list s h0
    clear hl h0 hs
    go_enter Tryz.func69, Tryz.ntmps69
    go_wp2_with fail
    go_ret
    exact ⟨ret_bool hN.out.symm, Below.refl _ _⟩
  · have he := nonempty_bool s (by omega)
    have hne : s.data.toList.isEmpty = false := by rw [← Lib.toList_data]; exact he
    by_cases h12 : s.size ≤ 12
    · by_cases hw : wordLen s.data.toList = s.size
      · have hN := Lib.hid (show isName s.data.toList = !isKw s.data.toList by
          unfold isName
          rw [hne, hl, hw]
          simp [h12])
        have hw1 : (((wordLen s.data.toList : Nat) : Int) == (s.size : Int)) = true := by rw [hw]; simp
        clear hl h0 hne hw
        go_enter Tryz.func69, Tryz.ntmps69
        go_wp2_with (first | (go_at_call 59; refine (wordLength_any _ _ hs).mono ?_; rintro e w' ⟨rfl, hb⟩) | (go_at_call 94; refine (isKeyword_any _ _).mono ?_; rintro e w' ⟨rfl, rfl⟩))
        go_ret
        exact ⟨ret_bool (by rw [hN.out]), hb⟩
      · have hN := Lib.hid (show isName s.data.toList = false by
          unfold isName
          rw [hne, hl]
          simp [h12, hw])
        have hw1 : (((wordLen s.data.toList : Nat) : Int) == (s.size : Int)) = false := by simp; omega
        clear hl h0 hne hw
        go_enter Tryz.func69, Tryz.ntmps69
        go_wp2_with (first | (go_at_call 59; refine (wordLength_any _ _ hs).mono ?_; rintro e w' ⟨rfl, hb⟩) | (go_at_call 94; refine (isKeyword_any _ _).mono ?_; rintro e w' ⟨rfl, rfl⟩))
        go_ret
        exact ⟨ret_bool (by rw [hN.out]), hb⟩
    · have hN := Lib.hid (show isName s.data.toList = false by
        unfold isName
        rw [hne, hl]
        simp [h12])
      clear hl h0 hne
      go_enter Tryz.func69, Tryz.ntmps69
      go_wp2_with fail
      go_ret
      exact ⟨ret_bool (by rw [hN.out]), Below.refl _ _⟩
end Go.Proofs.YtncflfadgcaldaaGreatDoor
