/-
  The plain functions on bytes that the contracts of package token speak of, and their first laws. Nothing of the program stands here.
-/
import Derived.Lib.ParseIntB
import Derived.Lib.ParseIntBCases
namespace Go.Proofs.YtncflfadgcaldaaGreatDoor.Tok

abbrev Bs := List UInt8

def isLetter (c : UInt8) : Bool := (decide (97 ≤ c.toNat) && decide (c.toNat ≤ 122)) || (decide (65 ≤ c.toNat) && decide (c.toNat ≤ 90))
def isDigit (c : UInt8) : Bool := decide (48 ≤ c.toNat) && decide (c.toNat ≤ 57)
def isPart (c : UInt8) : Bool := isLetter c || isDigit c || decide (c.toNat = 95)

/-- The length of the word that begins l, or 0. -/
def wordLen : Bs → Nat
  | [] => 0
  | c :: r => if isLetter c then 1 + (r.takeWhile isPart).length else 0
def digLen (l : Bs) : Nat := (l.takeWhile isDigit).length

def keywords : List Bs := [
  [118, 97, 114], [118, 111, 108, 97, 116, 105, 108, 101], [109, 117, 116, 101, 120], [114, 119, 108, 111, 99, 107], [99, 111, 110, 100], [102, 117, 116, 117, 114, 101], [116, 104, 114, 101, 97, 100],
  [105, 102], [101, 108, 115, 101], [119, 104, 105, 108, 101], [108, 111, 99, 107], [114, 101, 97, 100], [119, 114, 105, 116, 101], [116, 114, 97, 110, 115, 97, 99, 116, 105, 111, 110], [97, 116, 111, 109, 105, 99],
  [119, 97, 105, 116], [110, 111, 116, 105, 102, 121], [110, 111, 116, 105, 102, 121, 97, 108, 108], [115, 112, 97, 119, 110], [106, 111, 105, 110], [115, 101, 116], [103, 101, 116]]
def isKw (l : Bs) : Bool := keywords.contains l

def isName (l : Bs) : Bool := !l.isEmpty && decide (l.length ≤ 12) && decide (wordLen l = l.length) && !isKw l

def signs : List Bs := [[124, 124], [38, 38], [61, 61], [33, 61], [60, 61], [62, 61], [60], [62], [43], [45], [42], [47], [37], [33], [61], [40], [41], [91], [93], [123], [125], [44], [59]]
def signs1 : Bs := [60, 62, 43, 45, 42, 47, 37, 33, 61, 40, 41, 91, 93, 123, 125, 44, 59]
def signs2 : List Bs := [[124, 124], [38, 38], [61, 61], [33, 61], [60, 61], [62, 61]]
/-- The length of the longest sign that begins l, or 0. -/
def signLen (l : Bs) : Nat :=
  if signs2.contains (l.take 2) then 2
  else match l with
    | [] => 0
    | c :: _ => if signs1.contains c then 1 else 0

/-- The length of the blank or the comment that begins l, or 0. -/
def gapLen : Bs → Nat
  | [] => 0
  | c :: r =>
    if c = 47 ∧ r.head? = some 47 then ((c :: r).takeWhile (fun b => b != 10)).length
    else if c = 32 ∨ c = 9 ∨ c = 13 ∨ c = 10 then 1 else 0

/-- The number that digits spell. -/
def step (n : Nat) (c : UInt8) : Nat := n * 10 + (c.toNat - 48)
def dec (a : Nat) (l : Bs) : Nat := l.foldl step a

/-- Kind, length, error of a word. -/
def word (l : Bs) : Nat × Nat × Nat := if 12 < l.length then (0, 0, 2) else if isKw l then (3, l.length, 0) else (1, l.length, 0)
/-- 2^63. -/
def lim : Nat := 9223372036854775808
/-- The text begins with a letter, a digit or an underscore. -/
def headPart : Bs → Bool
  | [] => false
  | c :: _ => isPart c
/-- Kind, length, error of a number with what follows. -/
def number (d r : Bs) : Nat × Nat × Nat :=
  if headPart r = true then (0, 0, 3) else if dec 0 d < lim then (2, d.length, 0) else (0, 0, 3)
/-- Kind, length, error of the token that begins l. -/
def first (l : Bs) : Nat × Nat × Nat :=
  if 0 < wordLen l then word (l.take (wordLen l))
  else if 0 < digLen l then number (l.take (digLen l)) (l.drop (digLen l))
  else if 0 < signLen l then (4, signLen l, 0)
  else (0, 0, 3)

/-- A token: kind, text, line. -/
abbrev T := Nat × Bs × Nat
/-- Tokens (in order), error, line. -/
abbrev R := List T × Nat × Nat

def lf (l : Bs) : Nat := l.count 10

def go : Nat → Bs → Nat → List T → R
  | 0, _, _, acc => (acc, 0, 0)
  | f + 1, l, line, acc =>
    if l = [] then (acc, 0, 0)
    else if 0 < gapLen l then go f (l.drop (gapLen l)) (line + lf (l.take (gapLen l))) acc
    else if (first l).2.2 = 0 then go f (l.drop (first l).2.1) line (acc ++ [((first l).1, l.take (first l).2.1, line)])
    else ([], (first l).2.2, line)

def scan (l : Bs) : R := if 4096 < l.length then ([], 2, 0) else go l.length l 1 []

/- Laws. -/
theorem takeWhile_le (p : UInt8 → Bool) (l : Bs) : (l.takeWhile p).length ≤ l.length := List.IsPrefix.length_le (List.takeWhile_prefix p)
theorem wordLen_le (l : Bs) : wordLen l ≤ l.length := by
  cases l with
  | nil => simp [wordLen]
  | cons c r =>
    have := takeWhile_le isPart r
    simp only [wordLen, List.length_cons]
    split <;> omega
theorem digLen_le (l : Bs) : digLen l ≤ l.length := takeWhile_le _ _
theorem signLen_le (l : Bs) : signLen l ≤ l.length := by
  unfold signLen
  split
  · rename_i h
    match l, h with
    | [], h => exact absurd h (by decide)
    | [a], h =>
      have h' : signs2.contains [a] = true := h
      simp [signs2] at h'
    | a :: b :: r, _ => simp
  · cases l with
    | nil => simp
    | cons c r =>
      simp only [List.length_cons]
      split <;> omega
theorem gapLen_le (l : Bs) : gapLen l ≤ l.length := by
  cases l with
  | nil => simp [gapLen]
  | cons c r =>
    simp only [gapLen]
    split
    · exact takeWhile_le _ _
    · split <;> simp
theorem first_le (l : Bs) : (first l).2.1 ≤ l.length := by
  have h1 := wordLen_le l
  have h2 := digLen_le l
  have h3 := signLen_le l
  unfold first
  split
  · unfold word
    split
    · simp
    · split <;> simp <;> omega
  · split
    · unfold number
      split
      · simp
      · split <;> simp <;> omega
    · split <;> simp <;> omega
theorem first_pos (l : Bs) (h : (first l).2.2 = 0) : 0 < (first l).2.1 := by
  have h1 := wordLen_le l
  have h2 := digLen_le l
  unfold first at h ⊢
  split
  · rename_i hw
    rw [if_pos hw] at h
    unfold word at h ⊢
    split
    · rename_i hl
      rw [if_pos hl] at h
      simp at h
    · split <;> simp <;> omega
  · rename_i hw
    rw [if_neg hw] at h
    split
    · rename_i hd
      rw [if_pos hd] at h
      unfold number at h ⊢
      split
      · rename_i hp
        rw [if_pos hp] at h
        simp at h
      · rename_i hp
        rw [if_neg hp] at h
        split
        · simp; omega
        · rename_i hn
          rw [if_neg hn] at h
          simp at h
    · rename_i hd
      rw [if_neg hd] at h
      split
      · simpa
      · rename_i hs
        rw [if_neg hs] at h
        simp at h
theorem dec_cons (c : UInt8) (r : Bs) (a : Nat) : dec a (c :: r) = dec (a * 10 + (c.toNat - 48)) r := by unfold dec; rw [List.foldl_cons, step]
theorem dec_mono : ∀ (l : Bs) (a : Nat), a ≤ dec a l
  | [], a => by unfold dec; rw [List.foldl_nil]; exact Nat.le_refl _
  | c :: r, a => by
    have := dec_mono r (a * 10 + (c.toNat - 48))
    rw [dec_cons]
    omega
theorem parseUintM_cons (M a : Nat) (c : UInt8) (r : Bs) (hc : 48 ≤ c.toNat ∧ c.toNat ≤ 57) (h1 : ¬ 1844674407370955162 ≤ a) (h2 : ¬ M < a * 10 + (c.toNat - 48)) :
    Lib.parseUintM M a (c :: r) = Lib.parseUintM M (a * 10 + (c.toNat - 48)) r := by
  rw [Lib.parseUintM, if_pos hc, if_neg h1, if_neg h2]
theorem parseUintM_big (M a : Nat) (c : UInt8) (r : Bs) (hc : 48 ≤ c.toNat ∧ c.toNat ≤ 57) (h : 1844674407370955162 ≤ a ∨ M < a * 10 + (c.toNat - 48)) :
    Lib.parseUintM M a (c :: r) = .range := by
  rw [Lib.parseUintM, if_pos hc]
  by_cases h1 : 1844674407370955162 ≤ a
  · rw [if_pos h1]
  · rw [if_neg h1, if_pos (h.resolve_left h1)]
theorem parseUintM_ok (M : Nat) : ∀ (l : Bs) (a : Nat), (∀ c ∈ l, isDigit c = true) → dec a l ≤ M → M ≤ 18446744073709551615 → Lib.parseUintM M a l = .ok (dec a l) := by
  intro l
  induction l with
  | nil => intro a _ _ _; rfl
  | cons c r ih =>
    intro a hd h hM
    have hc : 48 ≤ c.toNat ∧ c.toNat ≤ 57 := by simpa [isDigit] using hd c (by simp)
    have hm := dec_mono r (a * 10 + (c.toNat - 48))
    rw [dec_cons] at h ⊢
    rw [parseUintM_cons M a c r hc (by omega) (by omega)]
    exact ih _ (fun x hx => hd x (by simp [hx])) h hM
set_option maxHeartbeats 400000 in
theorem parseUintM_range (M : Nat) : ∀ (l : Bs) (a : Nat), (∀ c ∈ l, isDigit c = true) → M < dec a l → a ≤ M → Lib.parseUintM M a l = .range := by
  intro l
  induction l with
  | nil =>
    intro a _ h ha
    unfold dec at h
    rw [List.foldl_nil] at h
    exact absurd ha (Nat.not_le_of_lt h)
  | cons c r ih =>
    intro a hd h ha
    have hc : 48 ≤ c.toNat ∧ c.toNat ≤ 57 := by simpa [isDigit] using hd c (by simp)
    rw [dec_cons] at h
    by_cases hb : 1844674407370955162 ≤ a ∨ M < a * 10 + (c.toNat - 48)
    · exact parseUintM_big M a c r hc hb
    · rw [parseUintM_cons M a c r hc (by omega) (by omega)]
      exact ih _ (fun x hx => hd x (by simp [hx])) h (by omega)
theorem parseIntB_ok (l : Bs) (hne : l ≠ []) (hd : ∀ c ∈ l, isDigit c = true) (h : dec 0 l < lim) : Lib.parseIntB 64 l = .ok (dec 0 l : Int) := by
  unfold lim at h
  match l, hne with
  | c :: r, _ =>
    have hc : 48 ≤ c.toNat ∧ c.toNat ≤ 57 := by simpa [isDigit] using hd c (by simp)
    rw [Lib.parseIntB_plain 64 c r (by omega) (by omega)]
    have hu : Lib.parseUintB 64 (c :: r) = .ok (dec 0 (c :: r)) := by
      unfold Lib.parseUintB
      rw [if_neg (by simp)]
      exact parseUintM_ok (2 ^ 64 - 1) _ 0 hd (by omega) (by omega)
    rw [hu]
    generalize dec 0 (c :: r) = n at h
    simp only [Lib.signlessC]
    rw [if_neg (by omega)]
theorem parseIntB_range (l : Bs) (hne : l ≠ []) (hd : ∀ c ∈ l, isDigit c = true) (h : ¬ dec 0 l < lim) : Lib.parseIntB 64 l = .range := by
  unfold lim at h
  match l, hne with
  | c :: r, _ =>
    have hc : 48 ≤ c.toNat ∧ c.toNat ≤ 57 := by simpa [isDigit] using hd c (by simp)
    rw [Lib.parseIntB_plain 64 c r (by omega) (by omega)]
    by_cases hb : dec 0 (c :: r) ≤ 2 ^ 64 - 1
    · have hu : Lib.parseUintB 64 (c :: r) = .ok (dec 0 (c :: r)) := by
        unfold Lib.parseUintB
        rw [if_neg (by simp)]
        exact parseUintM_ok (2 ^ 64 - 1) _ 0 hd hb (by omega)
      rw [hu]
      generalize dec 0 (c :: r) = n at h
      simp only [Lib.signlessC]
      rw [if_pos (by omega)]
    · have hu : Lib.parseUintB 64 (c :: r) = .range := by
        unfold Lib.parseUintB
        rw [if_neg (by simp)]
        exact parseUintM_range (2 ^ 64 - 1) _ 0 hd (by omega) (by omega)
      rw [hu]
      rfl
theorem digits_take (l : Bs) : l.take (digLen l) = l.takeWhile isDigit := by
  unfold digLen
  exact (List.prefix_iff_eq_take.1 (List.takeWhile_prefix isDigit)).symm
theorem digits_all (l : Bs) : ∀ c ∈ l.take (digLen l), isDigit c = true := by
  rw [digits_take]
  intro c hc
  have := List.all_takeWhile (l := l) (p := isDigit)
  exact List.all_eq_true.1 this c hc
/-- Enough fuel is as good as any. -/
theorem go_fuel : ∀ (f g : Nat) (l : Bs) (line : Nat) (acc : List T), l.length ≤ f → l.length ≤ g → go f l line acc = go g l line acc
  | 0, 0, _, _, _, _, _ => rfl
  | 0, g + 1, l, _, _, hf, _ => by
    have : l = [] := List.eq_nil_of_length_eq_zero (by omega)
    subst this
    simp [go]
  | f + 1, 0, l, _, _, _, hg => by
    have : l = [] := List.eq_nil_of_length_eq_zero (by omega)
    subst this
    simp [go]
  | f + 1, g + 1, l, line, acc, hf, hg => by
    simp only [go]
    by_cases h : l = []
    · rw [if_pos h, if_pos h]
    · rw [if_neg h, if_neg h]
      have hp : 0 < l.length := List.length_pos_iff.2 h
      split
      · rename_i h1
        exact go_fuel f g _ _ _ (by rw [List.length_drop]; omega) (by rw [List.length_drop]; omega)
      · split
        · rename_i h2
          have := first_pos l h2
          exact go_fuel f g _ _ _ (by rw [List.length_drop]; omega) (by rw [List.length_drop]; omega)
        · rfl
/-- From a text, a line and the tokens so far to the end. -/
def run (l : Bs) (line : Nat) (acc : List T) : R := go l.length l line acc
theorem run_nil (line : Nat) (acc : List T) : run [] line acc = (acc, 0, 0) := rfl
theorem run_gap (l : Bs) (line : Nat) (acc : List T) (h : l ≠ []) (hg : 0 < gapLen l) : run l line acc = run (l.drop (gapLen l)) (line + lf (l.take (gapLen l))) acc := by
  have hp : 0 < l.length := List.length_pos_iff.2 h
  unfold run
  obtain ⟨f, hf⟩ : ∃ f, l.length = f + 1 := ⟨l.length - 1, by omega⟩
  rw [hf, go, if_neg h, if_pos hg]
  exact go_fuel _ _ _ _ _ (by rw [List.length_drop]; omega) (Nat.le_refl _)
theorem run_tok (l : Bs) (line : Nat) (acc : List T) (h : l ≠ []) (hg : gapLen l = 0) (hf : (first l).2.2 = 0) :
    run l line acc = run (l.drop (first l).2.1) line (acc ++ [((first l).1, l.take (first l).2.1, line)]) := by
  have hp : 0 < l.length := List.length_pos_iff.2 h
  have h1 := first_pos l hf
  unfold run
  obtain ⟨f, he⟩ : ∃ f, l.length = f + 1 := ⟨l.length - 1, by omega⟩
  rw [he, go, if_neg h, if_neg (by omega), if_pos hf]
  exact go_fuel _ _ _ _ _ (by rw [List.length_drop]; omega) (Nat.le_refl _)
theorem run_err (l : Bs) (line : Nat) (acc : List T) (h : l ≠ []) (hg : gapLen l = 0) (hf : (first l).2.2 ≠ 0) : run l line acc = ([], (first l).2.2, line) := by
  have hp : 0 < l.length := List.length_pos_iff.2 h
  unfold run
  obtain ⟨f, he⟩ : ∃ f, l.length = f + 1 := ⟨l.length - 1, by omega⟩
  rw [he, go, if_neg h, if_neg (by omega), if_neg hf]
theorem scan_run (l : Bs) (h : l.length ≤ 4096) : scan l = run l 1 [] := by unfold scan; rw [if_neg (by omega)]; rfl
theorem lf_le (l : Bs) : lf l ≤ l.length := List.count_le_length
end Go.Proofs.YtncflfadgcaldaaGreatDoor.Tok
