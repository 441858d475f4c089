/-
  Contracts of the small functions of package token: what isLetter, isDigit, isWordPart, wordLength and digitsLength return.
  Contracts of the functions of package token that call no library: IsKeyword, word, IsName.
-/
import Derived.Test.YtncflfadgcaldaaGreatDoorRows
import Derived.Test.YtncflfadgcaldaaGreatDoorTokSpec
import Derived.WalkKit
import Derived.WalkSpells
import Derived.WalkLawsBesides
import Derived.Lib.Hide
import Derived.Lib.Strings
import Derived.Lib.IndexBytes
namespace Go.Proofs.YtncflfadgcaldaaGreatDoor
open Go.RowKit

namespace Tok
def isLetI (c : Int) : Bool := (decide (97 ≤ c) && decide (c ≤ 122)) || (decide (65 ≤ c) && decide (c ≤ 90))
def isDigI (c : Int) : Bool := decide (48 ≤ c) && decide (c ≤ 57)
def isPartI (c : Int) : Bool := isLetI c || isDigI c || c == 95
theorem isLetI_cast (c : UInt8) : isLetI (c.toNat : Int) = isLetter c := by
  unfold isLetI isLetter
  have h (a b : Nat) : decide ((a : Int) ≤ (b : Int)) = decide (a ≤ b) := by simp
  rw [← h 97 c.toNat, ← h c.toNat 122, ← h 65 c.toNat, ← h c.toNat 90]
  rfl
theorem isDigI_cast (c : UInt8) : isDigI (c.toNat : Int) = isDigit c := by
  unfold isDigI isDigit
  have h (a b : Nat) : decide ((a : Int) ≤ (b : Int)) = decide (a ≤ b) := by simp
  rw [← h 48 c.toNat, ← h c.toNat 57]
  rfl
theorem isPartI_cast (c : UInt8) : isPartI (c.toNat : Int) = isPart c := by
  unfold isPartI isPart
  rw [isLetI_cast, isDigI_cast]
  congr 1
  rw [Bool.eq_iff_iff]
  simp
  omega
theorem isLetI_high (n : Nat) (h : 128 ≤ n) : isLetI (n : Int) = false := by
  unfold isLetI; simp; omega
theorem isDigI_high (n : Nat) (h : 128 ≤ n) : isDigI (n : Int) = false := by
  unfold isDigI; simp; omega
theorem isPartI_high (n : Nat) (h : 128 ≤ n) : isPartI (n : Int) = false := by
  unfold isPartI; rw [isLetI_high n h, isDigI_high n h]; simp; omega
/-- What a range over a string hands over at a place inside it. -/
theorem next_rune (w : World) (s : ByteArray) (pos : Nat) (h : pos < s.size) : ∃ (r : Int) (wd : Nat),
    (∀ ty, (Instr.next (.pointer (some ⟨w.heap.size, 0, none⟩)) true ty).run Tryz.prog (w.iter s pos) = .ok (.tuple #[.bool true, .int .i64 pos, .int .i32 r]) (w.iter s (pos + wd))) ∧
    isLetI r = isLetter s[pos] ∧ isDigI r = isDigit s[pos] ∧ isPartI r = isPart s[pos] ∧ (isPart s[pos] = true → wd = 1) := by
  refine ⟨(Utf8.decode s pos).1, (Utf8.decode s pos).2, fun ty => run_next_any w s pos ty h, ?_⟩
  by_cases ha : (s[pos]'h).toNat < 128
  · rw [decode_ascii s pos h ha]
    exact ⟨isLetI_cast _, isDigI_cast _, isPartI_cast _, fun _ => rfl⟩
  · have hd := (decode_high s pos h (by omega)).1
    have h1 := isLetI_high _ (show 128 ≤ (s[pos]'h).toNat by omega)
    have h2 := isDigI_high _ (show 128 ≤ (s[pos]'h).toNat by omega)
    have h3 := isPartI_high _ (show 128 ≤ (s[pos]'h).toNat by omega)
    rw [isLetI_cast] at h1
    rw [isDigI_cast] at h2
    rw [isPartI_cast] at h3
    exact ⟨(isLetI_high _ hd).trans h1.symm, (isDigI_high _ hd).trans h2.symm, (isPartI_high _ hd).trans h3.symm, fun h => by rw [h3] at h; cases h⟩
theorem drop_at (s : ByteArray) (pos : Nat) (h : pos < s.size) : s.data.toList.drop pos = s[pos] :: s.data.toList.drop (pos + 1) :=
  List.drop_eq_getElem_cons (by simpa using h)
theorem size_list (s : ByteArray) : s.data.toList.length = s.size := by simp
theorem part_of_letter (c : UInt8) (h : isLetter c = true) : isPart c = true := by simp [isPart, h]
theorem wordLen_eq (l : Bs) (c : UInt8) (r : Bs) (h : l = c :: r) : wordLen l = if isLetter c then (l.takeWhile isPart).length else 0 := by
  subst h
  simp only [wordLen]
  by_cases hc : isLetter c = true
  · rw [if_pos hc, if_pos hc, List.takeWhile_cons, if_pos (part_of_letter c hc), List.length_cons]
    omega
  · rw [if_neg hc, if_neg hc]
theorem tw_cons (p : UInt8 → Bool) (s : ByteArray) (pos : Nat) (h : pos < s.size) (hp : p s[pos] = true) :
    ((s.data.toList.drop pos).takeWhile p).length = 1 + ((s.data.toList.drop (pos + 1)).takeWhile p).length := by
  rw [drop_at s pos h, List.takeWhile_cons, if_pos hp, List.length_cons]
  omega
theorem tw_none (p : UInt8 → Bool) (s : ByteArray) (pos : Nat) (h : pos < s.size) (hp : p s[pos] = false) :
    ((s.data.toList.drop pos).takeWhile p).length = 0 := by
  rw [drop_at s pos h, List.takeWhile_cons, if_neg (by simp [hp])]
  rfl
theorem tw_end (p : UInt8 → Bool) (s : ByteArray) (pos : Nat) (h : ¬ pos < s.size) : ((s.data.toList.drop pos).takeWhile p).length = 0 := by
  rw [List.drop_eq_nil_of_le (by rw [size_list]; omega)]
  rfl
end Tok
open Tok

set_option maxHeartbeats 400000 in
theorem isLetter_any (c : Int) (w : World) : Calls Tryz.prog 92 #[.int .i32 c] w fun e w' => e = .returned (.bool (isLetI c)) ∧ w = w' := by
  go_enter Tryz.func92, Tryz.ntmps92
  go_wp2
  all_goals
    go_ret
    exact ⟨by unfold isLetI; simp [*] <;> omega, rfl⟩

set_option maxHeartbeats 400000 in
theorem isDigit_any (c : Int) (w : World) : Calls Tryz.prog 95 #[.int .i32 c] w fun e w' => e = .returned (.bool (isDigI c)) ∧ w = w' := by
  go_enter Tryz.func95, Tryz.ntmps95
  go_wp2
  all_goals
    go_ret
    exact ⟨by unfold isDigI; simp [*] <;> omega, rfl⟩

set_option maxHeartbeats 400000 in
theorem isWordPart_any (c : Int) (w : World) : Calls Tryz.prog 93 #[.int .i32 c] w fun e w' => e = .returned (.bool (isPartI c)) ∧ w = w' := by
  go_enter Tryz.func93, Tryz.ntmps93
  go_wp2_with (first | (go_at_call 92; refine (isLetter_any _ _).mono ?_; rintro e w' ⟨rfl, rfl⟩) | (go_at_call 95; refine (isDigit_any _ _).mono ?_; rintro e w' ⟨rfl, rfl⟩))
  all_goals
    go_ret
    exact ⟨by unfold isPartI; simp [*], rfl⟩

theorem ret_int {k : IntKind} {a b : Int} (h : a = b) : Ending.returned (.int k a) = .returned (.int k b) := by rw [h]

set_option maxHeartbeats 400000 in
theorem digitsLength_any (s : ByteArray) (w : World) (hs : s.size ≤ maxLen) :
    Calls Tryz.prog 61 #[.string s] w fun e w' => e = .returned (.int .i64 (digLen s.data.toList)) ∧ Below w.heap.size w w' := by
  unfold maxLen at hs
  go_enter Tryz.func61, Tryz.ntmps61
  go_wp2
  go_loopw [3] (fun _ w' => ∃ pos : Nat, w' = w.iter s pos ∧ pos ≤ s.size ∧ digLen s.data.toList = pos + ((s.data.toList.drop pos).takeWhile isDigit).length) (fun _ w' => s.size - w'.iterPos w.heap.size)
  case atStart => exact ⟨0, rfl, by omega, by simp [digLen]⟩
  case round =>
    obtain ⟨pos, rfl, hp, hrel⟩ := hrel
    have HR := Lib.hid hrel
    clear hrel
    by_cases hlt : pos < s.size
    · obtain ⟨r, wd, hnx, _, hD, _, hwd⟩ := next_rune w s pos hlt
      by_cases hdig : isDigit s[pos] = true
      · have hw1 : wd = 1 := hwd (by simp [isPart, hdig])
        subst hw1
        rw [hdig] at hD
        have HT := Lib.hid (tw_cons isDigit s pos hlt hdig)
        clear hdig hwd
        go_wp2_with (first | (go_at_call 95; refine (isDigit_any _ _).mono ?_; rintro e w' ⟨rfl, rfl⟩))
        go_roundw
        case rel => exact ⟨pos + 1, rfl, by omega, by have h1 := HR.out; have h2 := HT.out; omega⟩
        case measure => simp; omega
      · have hdig : isDigit s[pos] = false := by simpa using hdig
        rw [hdig] at hD
        have HT := Lib.hid (tw_none isDigit s pos hlt hdig)
        clear hdig hwd
        go_wp2_with (first | (go_at_call 95; refine (isDigit_any _ _).mono ?_; rintro e w' ⟨rfl, rfl⟩))
        go_ret
        exact ⟨ret_int (by have h1 := HR.out; have h2 := HT.out; omega), (Below.refl _ _).alloc (Nat.le_refl _) _⟩
    · have hnx : ∀ ty, (Instr.next (.pointer (some ⟨w.heap.size, 0, none⟩)) true ty).run Tryz.prog (w.iter s pos) = _ := fun ty => run_next_end w s pos ty hlt
      have HT := Lib.hid (tw_end isDigit s pos hlt)
      go_wp2
      go_ret
      exact ⟨ret_int (by have h1 := HR.out; have h2 := HT.out; omega), (Below.refl _ _).alloc (Nat.le_refl _) _⟩

set_option maxHeartbeats 400000 in
theorem wordLength_any (s : ByteArray) (w : World) (hs : s.size ≤ maxLen) :
    Calls Tryz.prog 59 #[.string s] w fun e w' => e = .returned (.int .i64 (wordLen s.data.toList)) ∧ Below w.heap.size w w' := by
  unfold maxLen at hs
  go_enter Tryz.func59, Tryz.ntmps59
  go_wp2
  go_loopw [3] (fun _ w' => ∃ pos : Nat, w' = w.iter s pos ∧ pos ≤ s.size ∧ (0 < pos → wordLen s.data.toList = pos + ((s.data.toList.drop pos).takeWhile isPart).length)) (fun _ w' => s.size - w'.iterPos w.heap.size)
  case atStart => exact ⟨0, rfl, by omega, fun h => absurd h (by omega)⟩
  case round =>
    obtain ⟨pos, rfl, hp, hrel⟩ := hrel
    have HR := Lib.hid hrel
    clear hrel
    by_cases hlt : pos < s.size
    · obtain ⟨r, wd, hnx, hL, _, hP, hwd⟩ := next_rune w s pos hlt
      by_cases h0 : pos = 0
      · subst h0
        have hw := wordLen_eq s.data.toList s[0] (s.data.toList.drop 1) (drop_at s 0 hlt)
        by_cases hl : isLetter s[0] = true
        · have hpt := part_of_letter _ hl
          have hw1 : wd = 1 := hwd hpt
          subst hw1
          rw [hl] at hL
          rw [hpt] at hP
          rw [if_pos hl] at hw
          have ht := tw_cons isPart s 0 hlt hpt
          rw [List.drop_zero] at ht
          have HT := Lib.hid (hw.trans ht)
          clear hl hpt hwd hw ht
          go_wp2_with (first | (go_at_call 92; refine (isLetter_any _ _).mono ?_; rintro e w' ⟨rfl, rfl⟩) | (go_at_call 93; refine (isWordPart_any _ _).mono ?_; rintro e w' ⟨rfl, rfl⟩))
          go_roundw
          case rel => exact ⟨1, rfl, by omega, fun _ => HT.out⟩
          case measure => simp; omega
        · have hl' : isLetter s[0] = false := by simpa using hl
          rw [hl'] at hL
          rw [if_neg hl] at hw
          have HT := Lib.hid hw
          clear hl hl' hwd hw hP
          go_wp2_with (first | (go_at_call 92; refine (isLetter_any _ _).mono ?_; rintro e w' ⟨rfl, rfl⟩) | (go_at_call 93; refine (isWordPart_any _ _).mono ?_; rintro e w' ⟨rfl, rfl⟩))
          go_ret
          exact ⟨ret_int (by have h2 := HT.out; omega), (Below.refl _ _).alloc (Nat.le_refl _) _⟩
      · have hb0 : ((pos : Int) == 0) = false := by simp; omega
        by_cases hl : isPart s[pos] = true
        · have hw1 : wd = 1 := hwd hl
          subst hw1
          rw [hl] at hP
          have HT := Lib.hid (tw_cons isPart s pos hlt hl)
          clear hl hwd
          go_wp2_with (first | (go_at_call 92; refine (isLetter_any _ _).mono ?_; rintro e w' ⟨rfl, rfl⟩) | (go_at_call 93; refine (isWordPart_any _ _).mono ?_; rintro e w' ⟨rfl, rfl⟩))
          go_roundw
          case rel => exact ⟨pos + 1, rfl, by omega, fun _ => by have h1 := HR.out (by omega); have h2 := HT.out; omega⟩
          case measure => simp; omega
        · have hl' : isPart s[pos] = false := by simpa using hl
          rw [hl'] at hP
          have HT := Lib.hid (tw_none isPart s pos hlt hl')
          clear hl hl' hwd
          go_wp2_with (first | (go_at_call 92; refine (isLetter_any _ _).mono ?_; rintro e w' ⟨rfl, rfl⟩) | (go_at_call 93; refine (isWordPart_any _ _).mono ?_; rintro e w' ⟨rfl, rfl⟩))
          go_ret
          exact ⟨ret_int (by have h1 := HR.out (by omega); have h2 := HT.out; omega), (Below.refl _ _).alloc (Nat.le_refl _) _⟩
    · have hnx : ∀ ty, (Instr.next (.pointer (some ⟨w.heap.size, 0, none⟩)) true ty).run Tryz.prog (w.iter s pos) = _ := fun ty => run_next_end w s pos ty hlt
      have HT := Lib.hid (tw_end isPart s pos hlt)
      have HE : RowKit.Hid (wordLen s.data.toList = s.size) := by
        show wordLen s.data.toList = s.size
        by_cases h0 : pos = 0
        · have : s.data.toList = [] := List.eq_nil_of_length_eq_zero (by rw [size_list]; omega)
          rw [this]
          simp only [wordLen]
          omega
        · have h1 := HR.out (by omega)
          have h2 := HT.out
          omega
      go_wp2
      go_ret
      exact ⟨ret_int (by have h1 := HE.out; omega), (Below.refl _ _).alloc (Nat.le_refl _) _⟩
end Go.Proofs.YtncflfadgcaldaaGreatDoor

namespace Go.Proofs.YtncflfadgcaldaaGreatDoor
open Go.RowKit
open Tok

set_option maxHeartbeats 1000000 in
theorem isKeyword_any (s : ByteArray) (w : World) : Calls Tryz.prog 94 #[.string s] w fun e w' => e = .returned (.bool (isKw s.data.toList)) ∧ w = w' := by
  go_enter Tryz.func94, Tryz.ntmps94
  go_wp2
  all_goals
    go_ret
    exact ⟨by rw [← Lib.toList_data]; simp_all [isKw, keywords], rfl⟩

theorem ret_three (a b c a' b' c' : Int) (h1 : a = a') (h2 : b = b') (h3 : c = c') :
    Ending.returned (.tuple #[.int .i64 a, .int .i64 b, .int .i64 c]) = .returned (.tuple #[.int .i64 a', .int .i64 b', .int .i64 c']) := by rw [h1, h2, h3]

set_option maxHeartbeats 1000000 in
theorem word_any (s : ByteArray) (w : World) (hs : s.size ≤ maxLen) : Calls Tryz.prog 60 #[.string s] w fun e w' =>
    e = .returned (.tuple #[.int .i64 (word s.data.toList).1, .int .i64 (word s.data.toList).2.1, .int .i64 (word s.data.toList).2.2]) ∧ w = w' := by
  unfold maxLen at hs
  have hl := size_list s
  by_cases h1 : 12 < s.size
  · have HW := Lib.hid (show word s.data.toList = (0, 0, 2) by unfold word; rw [if_pos (by omega)])
    clear hl
    go_enter Tryz.func60, Tryz.ntmps60
    go_wp2_with fail
    go_ret3
    rw [HW.out]
    exact ⟨rfl, rfl⟩
  · by_cases hk : isKw s.data.toList = true
    · have HW := Lib.hid (show word s.data.toList = (3, s.size, 0) by unfold word; rw [if_neg (by omega), if_pos hk, hl])
      clear hl
      go_enter Tryz.func60, Tryz.ntmps60
      go_wp2_with (go_at_call 94; refine (isKeyword_any _ _).mono ?_; rintro e w' ⟨rfl, rfl⟩)
      go_ret3
      rw [HW.out]
      exact ⟨rfl, rfl⟩
    · have hk' : isKw s.data.toList = false := by simpa using hk
      have HW := Lib.hid (show word s.data.toList = (1, s.size, 0) by unfold word; rw [if_neg (by omega), if_neg hk, hl])
      clear hl hk
      go_enter Tryz.func60, Tryz.ntmps60
      go_wp2_with (go_at_call 94; refine (isKeyword_any _ _).mono ?_; rintro e w' ⟨rfl, rfl⟩)
      go_ret3
      rw [HW.out]
      exact ⟨rfl, rfl⟩
end Go.Proofs.YtncflfadgcaldaaGreatDoor
