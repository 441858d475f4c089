/-
  Plain laws of the scanner's function on bytes: what a text followed by a blank scans as, runs of line feeds, signs, long words.
-/
import Derived.Test.YtjinbmemflgkoaaDoorTokSpec
namespace Go.Proofs.YtjinbmemflgkoaaDoor.Tok

theorem tw_append_stop (p : UInt8 → Bool) (l : Bs) (c : UInt8) (r : Bs) (hc : p c = false) : (l ++ c :: r).takeWhile p = l.takeWhile p := by
  induction l with
  | nil => simp [hc]
  | cons a t ih =>
    simp only [List.cons_append, List.takeWhile_cons]
    cases p a
    · rfl
    · simp only [if_true]
      rw [ih]
/-- Blanks, the line feed among them. -/
def isBlank (c : UInt8) : Prop := c = 32 ∨ c = 10
theorem blank_part {c : UInt8} (h : isBlank c) : isPart c = false := by rcases h with rfl | rfl <;> decide
theorem blank_digit {c : UInt8} (h : isBlank c) : isDigit c = false := by rcases h with rfl | rfl <;> decide
theorem wordLen_stop (l : Bs) (hl : l ≠ []) (c : UInt8) (r : Bs) (hc : isBlank c) : wordLen (l ++ c :: r) = wordLen l := by
  cases l with
  | nil => exact absurd rfl hl
  | cons a t =>
    simp only [List.cons_append, wordLen]
    rw [tw_append_stop isPart t c r (blank_part hc)]
theorem digLen_stop (l : Bs) (c : UInt8) (r : Bs) (hc : isBlank c) : digLen (l ++ c :: r) = digLen l := by
  unfold digLen
  rw [tw_append_stop isDigit l c r (blank_digit hc)]
theorem signs2_blank (a c : UInt8) (hc : isBlank c) : signs2.contains [a, c] = false := by
  have : ∀ b : UInt8, c ≠ b → ∀ x : UInt8, ¬ ([a, c] : Bs) = [x, b] := fun b hb x e => hb (by simpa using (List.cons.inj (List.cons.inj e).2).1)
  rw [List.contains_eq_any_beq, List.any_eq_false]
  intro x hx e
  have e1 : ([a, c] : Bs) = x := by simpa using e
  subst e1
  rcases hc with rfl | rfl <;> simp [signs2] at hx
theorem signLen_stop (l : Bs) (hl : l ≠ []) (c : UInt8) (r : Bs) (hc : isBlank c) : signLen (l ++ c :: r) = signLen l := by
  match l, hl with
  | [a], _ =>
    have h1 := signs2_blank a c hc
    have h2 : signs2.contains [a] = false := by simp [signs2]
    unfold signLen
    simp only [List.cons_append, List.nil_append]
    have e1 : List.take 2 (a :: c :: r) = [a, c] := rfl
    have e2 : List.take 2 [a] = [a] := rfl
    rw [e1, e2, h1, h2]
  | a :: b :: t, _ =>
    unfold signLen
    rfl
theorem headPart_stop (l : Bs) (c : UInt8) (r : Bs) (hc : isBlank c) : headPart (l ++ c :: r) = headPart l := by
  cases l with
  | nil => exact blank_part hc
  | cons a t => rfl
theorem first_stop (l : Bs) (hl : l ≠ []) (c : UInt8) (r : Bs) (hc : isBlank c) : first (l ++ c :: r) = first l := by
  have h1 := wordLen_le l
  have h2 := digLen_le l
  unfold first
  rw [wordLen_stop l hl c r hc, digLen_stop l c r hc, signLen_stop l hl c r hc, List.take_append_of_le_length h1, List.take_append_of_le_length h2, List.drop_append_of_le_length h2]
  have e : number (l.take (digLen l)) (l.drop (digLen l) ++ c :: r) = number (l.take (digLen l)) (l.drop (digLen l)) := by
    unfold number
    rw [headPart_stop _ c r hc]
  rw [e]

/-- The text begins a comment. -/
def comment (l : Bs) : Bool := l.take 2 == [47, 47]
theorem gapLen_comment (l : Bs) (h : comment l = true) : gapLen l = (l.takeWhile (fun b => b != 10)).length := by
  match l, h with
  | [], h => simp [comment] at h
  | [a], h => simp [comment] at h
  | a :: b :: r, h =>
    have e : a = 47 ∧ b = 47 := by simpa [comment] using h
    obtain ⟨rfl, rfl⟩ := e
    simp [gapLen]
def blankLen : Bs → Nat
  | [] => 0
  | c :: _ => if c = 32 ∨ c = 9 ∨ c = 13 ∨ c = 10 then 1 else 0
theorem gapLen_other (l : Bs) (h : comment l = false) : gapLen l = blankLen l := by
  cases l with
  | nil => rfl
  | cons c r =>
    simp only [gapLen, blankLen]
    rw [if_neg]
    rintro ⟨rfl, h2⟩
    cases r with
    | nil => simp at h2
    | cons b r =>
      simp at h2
      subst h2
      simp [comment] at h
theorem comment_stop (l : Bs) (hl : l ≠ []) (c : UInt8) (r : Bs) (hc : isBlank c) : comment (l ++ c :: r) = comment l := by
  match l, hl with
  | [a], _ =>
    have e1 : comment ([a] ++ c :: r) = (([a, c] : Bs) == [47, 47]) := rfl
    have e2 : comment [a] = (([a] : Bs) == [47, 47]) := rfl
    rw [e1, e2]
    rcases hc with rfl | rfl <;> simp
  | a :: b :: t, _ => rfl
theorem blankLen_append (l : Bs) (hl : l ≠ []) (x : Bs) : blankLen (l ++ x) = blankLen l := by
  cases l with
  | nil => exact absurd rfl hl
  | cons c r => rfl

theorem run_blank (c : UInt8) (r : Bs) (line : Nat) (acc : List T) (hc : c = 32 ∨ c = 10) : run (c :: r) line acc = run r (line + if c = 10 then 1 else 0) acc := by
  have hg : gapLen (c :: r) = 1 := by
    rcases hc with rfl | rfl
    · rfl
    · rfl
  rw [run_gap (c :: r) line acc (by simp) (by omega), hg]
  rcases hc with rfl | rfl <;> rfl
theorem run_feeds (a : Nat) (r : Bs) (acc : List T) : ∀ line, run (List.replicate a 10 ++ r) line acc = run r (line + a) acc := by
  induction a with
  | zero => intro line; rfl
  | succ a ih =>
    intro line
    rw [List.replicate_succ, List.cons_append, run_blank 10 _ line acc (.inr rfl), ih]
    simp only [if_true]
    rw [Nat.add_assoc, Nat.add_comm 1 a]
theorem tw_all (p : UInt8 → Bool) (l : Bs) (h : ∀ c ∈ l, p c = true) : l.takeWhile p = l := by
  induction l with
  | nil => rfl
  | cons a t ih =>
    rw [List.takeWhile_cons, if_pos (h a (by simp)), ih (fun c hc => h c (by simp [hc]))]
theorem wordLen_xs (n : Nat) : wordLen (List.replicate n 120) = n := by
  cases n with
  | zero => rfl
  | succ n =>
    rw [List.replicate_succ]
    simp only [wordLen]
    rw [if_pos (by decide), tw_all isPart _ (fun c hc => by rw [List.eq_of_mem_replicate hc]; decide), List.length_replicate]
    omega
theorem first_xs (n : Nat) (hn : 0 < n) : first (List.replicate n 120) = word (List.replicate n 120) := by
  unfold first
  rw [wordLen_xs, if_pos hn, List.take_of_length_le (by simp)]
theorem gap_xs (n : Nat) : gapLen (List.replicate n 120) = 0 := by
  cases n with
  | zero => rfl
  | succ n => rfl
theorem kw_x : ∀ k ∈ keywords, k.head? ≠ some 120 := by decide
theorem kw_xs (n : Nat) (hn : 0 < n) : isKw (List.replicate n 120) = false := by
  unfold isKw
  rw [List.contains_eq_any_beq, List.any_eq_false]
  intro x hx e
  have e1 : List.replicate n 120 = x := by simpa using e
  have := kw_x x hx
  rw [← e1] at this
  apply this
  cases n with
  | zero => omega
  | succ n => rfl
/-- Words of x's behind line feeds: a token up to twelve bytes, else an error. -/
theorem scan_xs (a n : Nat) (hn : 0 < n) (h : a + n ≤ 4096) :
    scan (List.replicate a 10 ++ List.replicate n 120) = if 12 < n then ([], 2, a + 1) else ([(1, List.replicate n 120, a + 1)], 0, 0) := by
  have hne : List.replicate n (120 : UInt8) ≠ [] := by
    intro e
    have := congrArg List.length e
    simp only [List.length_replicate, List.length_nil] at this
    omega
  rw [scan_run _ (by simp; omega), run_feeds, Nat.add_comm 1 a]
  by_cases h12 : 12 < n
  · have hf : first (List.replicate n 120) = (0, 0, 2) := by rw [first_xs n hn]; unfold word; rw [if_pos (by simpa using h12)]
    rw [if_pos h12, run_err _ _ _ hne (gap_xs n) (by rw [hf]; simp), hf]
  · have hf : first (List.replicate n 120) = (1, n, 0) := by
      rw [first_xs n hn]
      unfold word
      rw [if_neg (by simpa using h12), kw_xs n hn]
      simp
    rw [if_neg h12, run_tok _ _ _ hne (gap_xs n) (by rw [hf]), hf]
    simp only [List.nil_append]
    rw [List.drop_eq_nil_of_le (by simp), run_nil, List.take_of_length_le (by simp)]
theorem isName_xs (n : Nat) (hn : 0 < n) : isName (List.replicate n 120) = decide (n ≤ 12) := by
  unfold isName
  rw [wordLen_xs, kw_xs n hn]
  have : (List.replicate n (120 : UInt8)).isEmpty = false := by
    cases n with
    | zero => omega
    | succ n => rfl
  rw [this]
  simp
/-- The text of signs, a space behind each. -/
def signText (gs : List Bs) : Bs := gs.flatMap fun g => g ++ [32]
theorem sign_first (g : Bs) (hg : g ∈ signs) (r : Bs) : first (g ++ 32 :: r) = (4, g.length, 0) ∧ gapLen (g ++ 32 :: r) = 0 ∧ g ≠ [] := by
  have h0 : ∀ g ∈ signs, first g = (4, g.length, 0) ∧ comment g = false ∧ blankLen g = 0 ∧ g ≠ [] := by decide
  obtain ⟨h1, h2, h3, h4⟩ := h0 g hg
  refine ⟨by rw [first_stop g h4 32 r (.inl rfl)]; exact h1, ?_, h4⟩
  rw [gapLen_other _ (by rw [comment_stop g h4 32 r (.inl rfl)]; exact h2), blankLen_append g h4, h3]
theorem run_signs (gs : List Bs) : ∀ acc : List T, (∀ g ∈ gs, g ∈ signs) → run (signText gs) 1 acc = (acc ++ gs.map (fun g => (4, g, 1)), 0, 0) := by
  induction gs with
  | nil => intro acc _; simp [signText, run_nil]
  | cons g t ih =>
    intro acc h
    obtain ⟨h1, h2, h3⟩ := sign_first g (h g (by simp)) (signText t)
    have e : signText (g :: t) = g ++ 32 :: signText t := by simp [signText]
    rw [e, run_tok _ _ _ (by simp) h2 (by rw [h1]), h1]
    simp only [List.drop_left, List.take_left]
    rw [run_blank 32 _ _ _ (.inl rfl), if_neg (by decide), ih _ (fun x hx => h x (by simp [hx]))]
    simp
end Go.Proofs.YtjinbmemflgkoaaDoor.Tok
