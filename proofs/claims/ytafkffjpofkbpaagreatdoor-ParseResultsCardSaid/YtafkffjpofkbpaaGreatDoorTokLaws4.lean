/-
  Plain laws of the scanner's function on bytes: what a text followed by a blank scans as, runs of line feeds, signs, long words.
  Plain laws: a text behind a line feed, a comment behind a space, the tokens of a text written with spaces between them.
  Plain laws: the lines of what is scanned, shifted lines, two texts with a line feed between them.
  Plain laws: the tokens of a text, written with spaces between them, scan as themselves on one line.
-/
import Derived.Test.YtafkffjpofkbpaaGreatDoorTokSpec
namespace Go.Proofs.YtafkffjpofkbpaaGreatDoor.Tok

theorem tw_append_stop (p : UInt8 → Bool) (l : Bs) (c : UInt8) (r : Bs) (hc : p c = false) : (l ++ c :: r).takeWhile p = l.takeWhile p := by
  induction l with
  | nil => simp [hc]
  | cons a t ih =>
    simp only [List.cons_append, List.takeWhile_cons]
    cases p a
    · rfl
    · simp only [if_true]
      rw [ih]
/-- Blanks, the line feed among them. -/
def isBlank (c : UInt8) : Prop := c = 32 ∨ c = 10
theorem blank_part {c : UInt8} (h : isBlank c) : isPart c = false := by rcases h with rfl | rfl <;> decide
theorem blank_digit {c : UInt8} (h : isBlank c) : isDigit c = false := by rcases h with rfl | rfl <;> decide
theorem wordLen_stop (l : Bs) (hl : l ≠ []) (c : UInt8) (r : Bs) (hc : isBlank c) : wordLen (l ++ c :: r) = wordLen l := by
  cases l with
  | nil => exact absurd rfl hl
  | cons a t =>
    simp only [List.cons_append, wordLen]
    rw [tw_append_stop isPart t c r (blank_part hc)]
theorem digLen_stop (l : Bs) (c : UInt8) (r : Bs) (hc : isBlank c) : digLen (l ++ c :: r) = digLen l := by
  unfold digLen
  rw [tw_append_stop isDigit l c r (blank_digit hc)]
theorem signs2_blank (a c : UInt8) (hc : isBlank c) : signs2.contains [a, c] = false := by
  have : ∀ b : UInt8, c ≠ b → ∀ x : UInt8, ¬ ([a, c] : Bs) = [x, b] := fun b hb x e => hb (by simpa using (List.cons.inj (List.cons.inj e).2).1)
  rw [List.contains_eq_any_beq, List.any_eq_false]
  intro x hx e
  have e1 : ([a, c] : Bs) = x := by simpa using e
  subst e1
  rcases hc with rfl | rfl <;> simp [signs2] at hx
theorem signLen_stop (l : Bs) (hl : l ≠ []) (c : UInt8) (r : Bs) (hc : isBlank c) : signLen (l ++ c :: r) = signLen l := by
  match l, hl with
  | [a], _ =>
    have h1 := signs2_blank a c hc
    have h2 : signs2.contains [a] = false := by simp [signs2]
    unfold signLen
    simp only [List.cons_append, List.nil_append]
    have e1 : List.take 2 (a :: c :: r) = [a, c] := rfl
    have e2 : List.take 2 [a] = [a] := rfl
    rw [e1, e2, h1, h2]
  | a :: b :: t, _ =>
    unfold signLen
    rfl
theorem headPart_stop (l : Bs) (c : UInt8) (r : Bs) (hc : isBlank c) : headPart (l ++ c :: r) = headPart l := by
  cases l with
  | nil => exact blank_part hc
  | cons a t => rfl
theorem first_stop (l : Bs) (hl : l ≠ []) (c : UInt8) (r : Bs) (hc : isBlank c) : first (l ++ c :: r) = first l := by
  have h1 := wordLen_le l
  have h2 := digLen_le l
  unfold first
  rw [wordLen_stop l hl c r hc, digLen_stop l c r hc, signLen_stop l hl c r hc, List.take_append_of_le_length h1, List.take_append_of_le_length h2, List.drop_append_of_le_length h2]
  have e : number (l.take (digLen l)) (l.drop (digLen l) ++ c :: r) = number (l.take (digLen l)) (l.drop (digLen l)) := by
    unfold number
    rw [headPart_stop _ c r hc]
  rw [e]

/-- The text begins a comment. -/
def comment (l : Bs) : Bool := l.take 2 == [47, 47]
theorem gapLen_comment (l : Bs) (h : comment l = true) : gapLen l = (l.takeWhile (fun b => b != 10)).length := by
  match l, h with
  | [], h => simp [comment] at h
  | [a], h => simp [comment] at h
  | a :: b :: r, h =>
    have e : a = 47 ∧ b = 47 := by simpa [comment] using h
    obtain ⟨rfl, rfl⟩ := e
    simp [gapLen]
def blankLen : Bs → Nat
  | [] => 0
  | c :: _ => if c = 32 ∨ c = 9 ∨ c = 13 ∨ c = 10 then 1 else 0
theorem gapLen_other (l : Bs) (h : comment l = false) : gapLen l = blankLen l := by
  cases l with
  | nil => rfl
  | cons c r =>
    simp only [gapLen, blankLen]
    rw [if_neg]
    rintro ⟨rfl, h2⟩
    cases r with
    | nil => simp at h2
    | cons b r =>
      simp at h2
      subst h2
      simp [comment] at h
theorem comment_stop (l : Bs) (hl : l ≠ []) (c : UInt8) (r : Bs) (hc : isBlank c) : comment (l ++ c :: r) = comment l := by
  match l, hl with
  | [a], _ =>
    have e1 : comment ([a] ++ c :: r) = (([a, c] : Bs) == [47, 47]) := rfl
    have e2 : comment [a] = (([a] : Bs) == [47, 47]) := rfl
    rw [e1, e2]
    rcases hc with rfl | rfl <;> simp
  | a :: b :: t, _ => rfl
theorem blankLen_append (l : Bs) (hl : l ≠ []) (x : Bs) : blankLen (l ++ x) = blankLen l := by
  cases l with
  | nil => exact absurd rfl hl
  | cons c r => rfl

theorem run_blank (c : UInt8) (r : Bs) (line : Nat) (acc : List T) (hc : c = 32 ∨ c = 10) : run (c :: r) line acc = run r (line + if c = 10 then 1 else 0) acc := by
  have hg : gapLen (c :: r) = 1 := by
    rcases hc with rfl | rfl
    · rfl
    · rfl
  rw [run_gap (c :: r) line acc (by simp) (by omega), hg]
  rcases hc with rfl | rfl <;> rfl
theorem run_feeds (a : Nat) (r : Bs) (acc : List T) : ∀ line, run (List.replicate a 10 ++ r) line acc = run r (line + a) acc := by
  induction a with
  | zero => intro line; rfl
  | succ a ih =>
    intro line
    rw [List.replicate_succ, List.cons_append, run_blank 10 _ line acc (.inr rfl), ih]
    simp only [if_true]
    rw [Nat.add_assoc, Nat.add_comm 1 a]
theorem tw_all (p : UInt8 → Bool) (l : Bs) (h : ∀ c ∈ l, p c = true) : l.takeWhile p = l := by
  induction l with
  | nil => rfl
  | cons a t ih =>
    rw [List.takeWhile_cons, if_pos (h a (by simp)), ih (fun c hc => h c (by simp [hc]))]
theorem wordLen_xs (n : Nat) : wordLen (List.replicate n 120) = n := by
  cases n with
  | zero => rfl
  | succ n =>
    rw [List.replicate_succ]
    simp only [wordLen]
    rw [if_pos (by decide), tw_all isPart _ (fun c hc => by rw [List.eq_of_mem_replicate hc]; decide), List.length_replicate]
    omega
theorem first_xs (n : Nat) (hn : 0 < n) : first (List.replicate n 120) = word (List.replicate n 120) := by
  unfold first
  rw [wordLen_xs, if_pos hn, List.take_of_length_le (by simp)]
theorem gap_xs (n : Nat) : gapLen (List.replicate n 120) = 0 := by
  cases n with
  | zero => rfl
  | succ n => rfl
theorem kw_x : ∀ k ∈ keywords, k.head? ≠ some 120 := by decide
theorem kw_xs (n : Nat) (hn : 0 < n) : isKw (List.replicate n 120) = false := by
  unfold isKw
  rw [List.contains_eq_any_beq, List.any_eq_false]
  intro x hx e
  have e1 : List.replicate n 120 = x := by simpa using e
  have := kw_x x hx
  rw [← e1] at this
  apply this
  cases n with
  | zero => omega
  | succ n => rfl
/-- Words of x's behind line feeds: a token up to twelve bytes, else an error. -/
theorem scan_xs (a n : Nat) (hn : 0 < n) (h : a + n ≤ 4096) :
    scan (List.replicate a 10 ++ List.replicate n 120) = if 12 < n then ([], 2, a + 1) else ([(1, List.replicate n 120, a + 1)], 0, 0) := by
  have hne : List.replicate n (120 : UInt8) ≠ [] := by
    intro e
    have := congrArg List.length e
    simp only [List.length_replicate, List.length_nil] at this
    omega
  rw [scan_run _ (by simp; omega), run_feeds, Nat.add_comm 1 a]
  by_cases h12 : 12 < n
  · have hf : first (List.replicate n 120) = (0, 0, 2) := by rw [first_xs n hn]; unfold word; rw [if_pos (by simpa using h12)]
    rw [if_pos h12, run_err _ _ _ hne (gap_xs n) (by rw [hf]; simp), hf]
  · have hf : first (List.replicate n 120) = (1, n, 0) := by
      rw [first_xs n hn]
      unfold word
      rw [if_neg (by simpa using h12), kw_xs n hn]
      simp
    rw [if_neg h12, run_tok _ _ _ hne (gap_xs n) (by rw [hf]), hf]
    simp only [List.nil_append]
    rw [List.drop_eq_nil_of_le (by simp), run_nil, List.take_of_length_le (by simp)]
theorem isName_xs (n : Nat) (hn : 0 < n) : isName (List.replicate n 120) = decide (n ≤ 12) := by
  unfold isName
  rw [wordLen_xs, kw_xs n hn]
  have : (List.replicate n (120 : UInt8)).isEmpty = false := by
    cases n with
    | zero => omega
    | succ n => rfl
  rw [this]
  simp
/-- The text of signs, a space behind each. -/
def signText (gs : List Bs) : Bs := gs.flatMap fun g => g ++ [32]
theorem sign_first (g : Bs) (hg : g ∈ signs) (r : Bs) : first (g ++ 32 :: r) = (4, g.length, 0) ∧ gapLen (g ++ 32 :: r) = 0 ∧ g ≠ [] := by
  have h0 : ∀ g ∈ signs, first g = (4, g.length, 0) ∧ comment g = false ∧ blankLen g = 0 ∧ g ≠ [] := by decide
  obtain ⟨h1, h2, h3, h4⟩ := h0 g hg
  refine ⟨by rw [first_stop g h4 32 r (.inl rfl)]; exact h1, ?_, h4⟩
  rw [gapLen_other _ (by rw [comment_stop g h4 32 r (.inl rfl)]; exact h2), blankLen_append g h4, h3]
theorem run_signs (gs : List Bs) : ∀ acc : List T, (∀ g ∈ gs, g ∈ signs) → run (signText gs) 1 acc = (acc ++ gs.map (fun g => (4, g, 1)), 0, 0) := by
  induction gs with
  | nil => intro acc _; simp [signText, run_nil]
  | cons g t ih =>
    intro acc h
    obtain ⟨h1, h2, h3⟩ := sign_first g (h g (by simp)) (signText t)
    have e : signText (g :: t) = g ++ 32 :: signText t := by simp [signText]
    rw [e, run_tok _ _ _ (by simp) h2 (by rw [h1]), h1]
    simp only [List.drop_left, List.take_left]
    rw [run_blank 32 _ _ _ (.inl rfl), if_neg (by decide), ih _ (fun x hx => h x (by simp [hx]))]
    simp
end Go.Proofs.YtafkffjpofkbpaaGreatDoor.Tok

namespace Go.Proofs.YtafkffjpofkbpaaGreatDoor.Tok

abbrev nf (b : UInt8) : Bool := b != 10
theorem tw_in (l x : Bs) (h : (10 : UInt8) ∈ l) : (l ++ x).takeWhile nf = l.takeWhile nf := by
  induction l with
  | nil => simp at h
  | cons a t ih =>
    simp only [List.cons_append, List.takeWhile_cons]
    by_cases ha : a = 10
    · subst ha; rfl
    · have h1 : nf a = true := by simpa [nf] using ha
      have h2 : (10 : UInt8) ∈ t := by
        rcases List.mem_cons.1 h with e | e
        · exact absurd e.symm ha
        · exact e
      rw [h1, ih h2]
theorem nf_all (l : Bs) (h : (10 : UInt8) ∉ l) : ∀ c ∈ l, nf c = true := by
  intro c hc
  have : c ≠ 10 := fun e => h (by rw [← e]; exact hc)
  simpa [nf] using this
theorem tw_out (l x : Bs) (h : (10 : UInt8) ∉ l) : (l ++ x).takeWhile nf = l ++ x.takeWhile nf := by
  induction l with
  | nil => rfl
  | cons a t ih =>
    have h1 := nf_all (a :: t) h a (by simp)
    simp only [List.cons_append, List.takeWhile_cons]
    rw [h1, ih (fun e => h (by simp [e]))]
    rfl
theorem gap_same (l : Bs) (hl : l ≠ []) (c : UInt8) (r : Bs) (hc : isBlank c) (h : comment l = false ∨ (10 : UInt8) ∈ l) : gapLen (l ++ c :: r) = gapLen l := by
  have hcs := comment_stop l hl c r hc
  cases hcm : comment l
  · rw [gapLen_other l hcm, gapLen_other _ (hcs.trans hcm), blankLen_append l hl]
  · rw [hcm] at h
    have h10 := h.resolve_left (by simp)
    rw [gapLen_comment l hcm, gapLen_comment _ (hcs.trans hcm)]
    exact congrArg List.length (tw_in l _ h10)
theorem gap_open (l : Bs) (hl : l ≠ []) (c : UInt8) (r : Bs) (hc : isBlank c) (hcm : comment l = true) (h : (10 : UInt8) ∉ l) :
    gapLen l = l.length ∧ gapLen (l ++ c :: r) = l.length + ((c :: r).takeWhile nf).length := by
  have hcs := comment_stop l hl c r hc
  rw [gapLen_comment l hcm, gapLen_comment _ (hcs.trans hcm)]
  refine ⟨congrArg List.length (tw_all nf l (nf_all l h)), ?_⟩
  have := congrArg List.length (tw_out l (c :: r) h)
  rw [List.length_append] at this
  exact this
theorem lf_none (l : Bs) (h : (10 : UInt8) ∉ l) : lf l = 0 := by unfold lf; exact List.count_eq_zero.2 h
theorem lf_split (l : Bs) (n : Nat) : lf l = lf (l.take n) + lf (l.drop n) := by
  unfold lf
  rw [← List.count_append, List.take_append_drop]
theorem comment_gap (l : Bs) (h : comment l = true) : 0 < gapLen l := by
  rw [gapLen_comment l h]
  match l, h with
  | [], h => simp [comment] at h
  | a :: t, h =>
    have e : a = 47 := by
      cases t with
      | nil => simp [comment] at h
      | cons b r =>
        have e : a = 47 ∧ b = 47 := by simpa [comment] using h
        exact e.1
    subst e
    simp
theorem part_nf (c : UInt8) (h : isPart c = true) : c ≠ 10 := by
  intro e
  subst e
  revert h
  decide
theorem digit_nf (c : UInt8) (h : isDigit c = true) : c ≠ 10 := by
  intro e
  subst e
  revert h
  decide
theorem word_all (l : Bs) : ∀ c ∈ l.take (wordLen l), isPart c = true := by
  cases l with
  | nil => simp
  | cons a t =>
    intro c hc
    simp only [wordLen] at hc
    split at hc
    · rename_i ha
      rw [Nat.add_comm, List.take_succ_cons] at hc
      rcases List.mem_cons.1 hc with rfl | hc
      · simp [isPart, ha]
      · rw [(List.prefix_iff_eq_take.1 (List.takeWhile_prefix isPart)).symm] at hc
        exact List.all_eq_true.1 List.all_takeWhile c hc
    · simp at hc
theorem sign_nf (l : Bs) : ∀ c ∈ l.take (signLen l), c ≠ 10 := by
  intro c hc
  unfold signLen at hc
  split at hc
  · rename_i h
    have h1 : l.take 2 ∈ signs2 := by simpa using h
    have h2 : ∀ g ∈ signs2, ∀ c ∈ g, c ≠ 10 := by decide
    exact h2 _ h1 c hc
  · split at hc
    · simp at hc
    · split at hc
      · rename_i a t _ h
        simp at hc
        subst hc
        have h1 : c ∈ signs1 := by simpa using h
        have h2 : ∀ c ∈ signs1, c ≠ 10 := by decide
        exact h2 c h1
      · simp at hc
theorem tok_nofeed (l : Bs) (h : (first l).2.2 = 0) : (10 : UInt8) ∉ l.take (first l).2.1 := by
  unfold first at h ⊢
  split
  · rename_i hw
    rw [if_pos hw] at h
    intro hm
    have hl := wordLen_le l
    have hwl : (word (l.take (wordLen l))).2.1 = wordLen l := by
      unfold word at h ⊢
      split
      · rename_i h12
        rw [if_pos h12] at h
        simp at h
      · split <;> simp <;> omega
    rw [hwl] at hm
    exact part_nf _ (word_all l _ hm) rfl
  · rename_i hw
    rw [if_neg hw] at h
    split
    · rename_i hd
      rw [if_pos hd] at h
      intro hm
      have hl := digLen_le l
      have hwl : (number (l.take (digLen l)) (l.drop (digLen l))).2.1 = digLen l := by
        unfold number at h ⊢
        split
        · rename_i h12
          rw [if_pos h12] at h
          simp at h
        · rename_i h12
          rw [if_neg h12] at h
          split
          · simp; omega
          · rename_i h13
            rw [if_neg h13] at h
            simp at h
      rw [hwl] at hm
      exact digit_nf _ (digits_all l _ hm) rfl
    · rename_i hd
      rw [if_neg hd] at h
      split
      · intro hm
        exact sign_nf l _ hm rfl
      · rename_i hs
        rw [if_neg hs] at h
        simp at h

/-- A text, a line feed and a text: the second goes on with what the first gave, one line further; or the first's error. -/
theorem run_feed (r : Bs) : ∀ (n : Nat) (l : Bs), l.length ≤ n → ∀ (line : Nat) (acc : List T),
    run (l ++ 10 :: r) line acc = if (run l line acc).2.1 = 0 then run r (line + lf l + 1) (run l line acc).1 else run l line acc
  | n, [], _, line, acc => by
    rw [List.nil_append, run_blank 10 r line acc (.inr rfl), run_nil]
    simp [lf]
  | 0, a :: t, h, _, _ => absurd h (by simp)
  | n + 1, a :: t, h, line, acc => by
    have hl : (a :: t) ≠ [] := by simp
    have hx : (a :: t) ++ 10 :: r ≠ [] := by simp
    generalize a :: t = l at *
    have hp : 0 < l.length := List.length_pos_iff.2 hl
    have hgle := gapLen_le l
    by_cases hop : comment l = true ∧ (10 : UInt8) ∉ l
    · obtain ⟨h1, h2⟩ := gap_open l hl 10 r (.inr rfl) hop.1 hop.2
      have h3 : ((10 : UInt8) :: r).takeWhile nf = [] := by simp [nf]
      rw [h3, List.length_nil, Nat.add_zero] at h2
      rw [run_gap l line acc hl (by omega), run_gap _ line acc hx (by omega), h1, h2, List.drop_left, List.take_left, List.drop_length, run_nil, run_blank 10 _ _ _ (.inr rfl)]
      have := lf_none l hop.2
      simp [this]
    · have hsame := gap_same l hl 10 r (.inr rfl) (by
        cases hc : comment l
        · exact .inl rfl
        · exact .inr (by
            by_cases hm : (10 : UInt8) ∈ l
            · exact hm
            · exact absurd ⟨hc, hm⟩ hop))
      by_cases hg : 0 < gapLen l
      · have ih := run_feed r n (l.drop (gapLen l)) (by rw [List.length_drop]; omega) (line + lf (l.take (gapLen l))) acc
        rw [run_gap l line acc hl hg, run_gap _ line acc hx (by omega), hsame, List.drop_append_of_le_length hgle, List.take_append_of_le_length hgle, ih, lf_split l (gapLen l)]
        simp only [Nat.add_assoc]
      · have hg0 : gapLen l = 0 := by omega
        have hf := first_stop l hl 10 r (.inr rfl)
        have hfl := first_le l
        by_cases her : (first l).2.2 = 0
        · have hpos := first_pos l her
          have ih := run_feed r n (l.drop (first l).2.1) (by rw [List.length_drop]; omega) line (acc ++ [((first l).1, l.take (first l).2.1, line)])
          have hnf := lf_none _ (tok_nofeed l her)
          rw [run_tok l line acc hl hg0 her, run_tok _ line acc hx (by omega) (by rw [hf]; exact her), hf, List.drop_append_of_le_length hfl, List.take_append_of_le_length hfl, ih, lf_split l (first l).2.1, hnf]
          simp only [Nat.zero_add]
        · rw [run_err l line acc hl hg0 her, run_err _ line acc hx (by omega) (by rw [hf]; exact her), hf, if_neg her]
/-- A comment behind a space changes nothing. -/
theorem run_comment (c : Bs) (hc : (10 : UInt8) ∉ c) : ∀ (n : Nat) (l : Bs), l.length ≤ n → ∀ (line : Nat) (acc : List T), run (l ++ 32 :: 47 :: 47 :: c) line acc = run l line acc
  | n, [], _, line, acc => by
    rw [List.nil_append, run_blank 32 _ line acc (.inl rfl), run_nil, if_neg (by decide)]
    have h1 : comment (47 :: 47 :: c) = true := rfl
    have h2 : gapLen (47 :: 47 :: c) = (47 :: 47 :: c).length := by
      rw [gapLen_comment _ h1]
      exact congrArg List.length (tw_all nf _ (nf_all _ (by simp [hc])))
    rw [run_gap _ _ _ (by simp) (by rw [h2]; simp), h2, List.drop_length, run_nil]
  | 0, a :: t, h, _, _ => absurd h (by simp)
  | n + 1, a :: t, h, line, acc => by
    have hl : (a :: t) ≠ [] := by simp
    have hx : (a :: t) ++ 32 :: 47 :: 47 :: c ≠ [] := by simp
    generalize a :: t = l at *
    have hp : 0 < l.length := List.length_pos_iff.2 hl
    have hgle := gapLen_le l
    by_cases hop : comment l = true ∧ (10 : UInt8) ∉ l
    · obtain ⟨h1, h2⟩ := gap_open l hl 32 (47 :: 47 :: c) (.inl rfl) hop.1 hop.2
      have h3 : ((32 : UInt8) :: 47 :: 47 :: c).takeWhile nf = 32 :: 47 :: 47 :: c := tw_all nf _ (nf_all _ (by simp [hc]))
      rw [h3, ← List.length_append] at h2
      rw [run_gap l line acc hl (by omega), run_gap _ line acc hx (by rw [h2, List.length_append]; omega), h1, h2, List.drop_length, List.drop_length, run_nil, run_nil]
    · have hsame := gap_same l hl 32 (47 :: 47 :: c) (.inl rfl) (by
        cases hcm : comment l
        · exact .inl rfl
        · exact .inr (by
            by_cases hm : (10 : UInt8) ∈ l
            · exact hm
            · exact absurd ⟨hcm, hm⟩ hop))
      by_cases hg : 0 < gapLen l
      · have ih := run_comment c hc n (l.drop (gapLen l)) (by rw [List.length_drop]; omega) (line + lf (l.take (gapLen l))) acc
        rw [run_gap l line acc hl hg, run_gap _ line acc hx (by omega), hsame, List.drop_append_of_le_length hgle, List.take_append_of_le_length hgle, ih]
      · have hg0 : gapLen l = 0 := by omega
        have hf := first_stop l hl 32 (47 :: 47 :: c) (.inl rfl)
        have hfl := first_le l
        by_cases her : (first l).2.2 = 0
        · have hpos := first_pos l her
          have ih := run_comment c hc n (l.drop (first l).2.1) (by rw [List.length_drop]; omega) line (acc ++ [((first l).1, l.take (first l).2.1, line)])
          rw [run_tok l line acc hl hg0 her, run_tok _ line acc hx (by omega) (by rw [hf]; exact her), hf, List.drop_append_of_le_length hfl, List.take_append_of_le_length hfl, ih]
        · rw [run_err l line acc hl hg0 her, run_err _ line acc hx (by omega) (by rw [hf]; exact her), hf]
/-- No more tokens than bytes. -/
theorem run_len : ∀ (n : Nat) (l : Bs), l.length ≤ n → ∀ (line : Nat) (acc : List T), (run l line acc).1.length ≤ acc.length + l.length
  | n, [], _, line, acc => by rw [run_nil]; simp
  | 0, a :: t, h, _, _ => absurd h (by simp)
  | n + 1, a :: t, h, line, acc => by
    have hl : (a :: t) ≠ [] := by simp
    generalize a :: t = l at *
    have hgle := gapLen_le l
    have hfl := first_le l
    by_cases hg : 0 < gapLen l
    · have ih := run_len n (l.drop (gapLen l)) (by rw [List.length_drop]; omega) (line + lf (l.take (gapLen l))) acc
      rw [run_gap l line acc hl hg]
      rw [List.length_drop] at ih
      omega
    · by_cases her : (first l).2.2 = 0
      · have hpos := first_pos l her
        have ih := run_len n (l.drop (first l).2.1) (by rw [List.length_drop]; omega) line (acc ++ [((first l).1, l.take (first l).2.1, line)])
        rw [run_tok l line acc hl (by omega) her]
        rw [List.length_drop, List.length_append, List.length_singleton] at ih
        omega
      · rw [run_err l line acc hl (by omega) her]
        simp
theorem scan_len (l : Bs) : (scan l).1.length ≤ 4096 := by
  by_cases h : 4096 < l.length
  · unfold scan
    rw [if_pos h]
    simp
  · rw [scan_run l (by omega)]
    have := run_len l.length l (Nat.le_refl _) 1 []
    rw [List.length_nil] at this
    omega
theorem scan_comment (l c : Bs) (hl : l.length ≤ 500) (hcl : c.length ≤ 500) (hc : (10 : UInt8) ∉ c) : scan (l ++ [32, 47, 47] ++ c) = scan l := by
  rw [scan_run l (by omega), scan_run _ (by simp; omega)]
  have := run_comment c hc l.length l (Nat.le_refl _) 1 []
  rw [← this]
  simp
end Go.Proofs.YtafkffjpofkbpaaGreatDoor.Tok

namespace Go.Proofs.YtafkffjpofkbpaaGreatDoor.Tok

/-- A step of 'run', whatever it is: the induction's one case split. -/
theorem run_ind {P : Bs → Nat → List T → R → Prop} (h0 : ∀ line acc, P [] line acc (acc, 0, 0))
    (h1 : ∀ l line acc r, l ≠ [] → 0 < gapLen l → P (l.drop (gapLen l)) (line + lf (l.take (gapLen l))) acc r → P l line acc r)
    (h2 : ∀ l line acc r, l ≠ [] → gapLen l = 0 → (first l).2.2 = 0 → P (l.drop (first l).2.1) line (acc ++ [((first l).1, l.take (first l).2.1, line)]) r → P l line acc r)
    (h3 : ∀ l line acc, l ≠ [] → gapLen l = 0 → (first l).2.2 ≠ 0 → P l line acc ([], (first l).2.2, line)) :
    ∀ (n : Nat) (l : Bs), l.length ≤ n → ∀ line acc, P l line acc (run l line acc)
  | n, [], _, line, acc => h0 line acc
  | 0, a :: t, h, _, _ => absurd h (by simp)
  | n + 1, a :: t, h, line, acc => by
    have hl : (a :: t) ≠ [] := by simp
    generalize a :: t = l at *
    have hp : 0 < l.length := List.length_pos_iff.2 hl
    by_cases hg : 0 < gapLen l
    · rw [run_gap l line acc hl hg]
      exact h1 l line acc _ hl hg (run_ind h0 h1 h2 h3 n _ (by rw [List.length_drop]; omega) _ _)
    · by_cases her : (first l).2.2 = 0
      · have hpos := first_pos l her
        rw [run_tok l line acc hl (by omega) her]
        exact h2 l line acc _ hl (by omega) her (run_ind h0 h1 h2 h3 n _ (by rw [List.length_drop]; omega) _ _)
      · rw [run_err l line acc hl (by omega) her]
        exact h3 l line acc hl (by omega) her
theorem run_ok_line (l : Bs) (line : Nat) (acc : List T) : (run l line acc).2.1 = 0 → (run l line acc).2.2 = 0 :=
  run_ind (P := fun _ _ _ r => r.2.1 = 0 → r.2.2 = 0) (fun _ _ _ => rfl) (fun _ _ _ _ _ _ h => h) (fun _ _ _ _ _ _ _ h => h) (fun _ _ _ _ _ h he => absurd he h) l.length l (Nat.le_refl _) line acc
theorem run_err_nil (l : Bs) (line : Nat) (acc : List T) : (run l line acc).2.1 ≠ 0 → (run l line acc).1 = [] :=
  run_ind (P := fun _ _ _ r => r.2.1 ≠ 0 → r.1 = []) (fun _ _ h => absurd rfl h) (fun _ _ _ _ _ _ h => h) (fun _ _ _ _ _ _ _ h => h) (fun _ _ _ _ _ _ _ => rfl) l.length l (Nat.le_refl _) line acc
theorem run_lines (l : Bs) (line : Nat) (acc : List T) : (run l line acc).2.2 ≤ line + l.length ∧ ∀ t ∈ (run l line acc).1, t ∈ acc ∨ t.2.2 ≤ line + l.length :=
  run_ind (P := fun l line acc r => r.2.2 ≤ line + l.length ∧ ∀ t ∈ r.1, t ∈ acc ∨ t.2.2 ≤ line + l.length)
    (fun _ _ => ⟨by simp, fun t h => .inl h⟩)
    (fun l line acc r hl hg h => by
      have h1 := lf_le (l.take (gapLen l))
      rw [List.length_take] at h1
      rw [List.length_drop] at h
      have h2 := gapLen_le l
      exact ⟨by omega, fun t ht => (h.2 t ht).imp id (by omega)⟩)
    (fun l line acc r hl hg her h => by
      rw [List.length_drop] at h
      refine ⟨by omega, fun t ht => ?_⟩
      rcases h.2 t ht with h1 | h1
      · rcases List.mem_append.1 h1 with h2 | h2
        · exact .inl h2
        · simp at h2
          subst h2
          exact .inr (by simp)
      · exact .inr (by omega))
    (fun l line acc hl hg her => ⟨by simp, by simp⟩) l.length l (Nat.le_refl _) line acc
/-- A token some lines further down. -/
def sh (d : Nat) (t : T) : T := (t.1, t.2.1, t.2.2 + d)
theorem run_shift (d : Nat) (pre : List T) (l : Bs) (line : Nat) (acc : List T) :
    run l (line + d) (pre ++ acc.map (sh d)) = if (run l line acc).2.1 = 0 then (pre ++ (run l line acc).1.map (sh d), 0, 0) else ([], (run l line acc).2.1, (run l line acc).2.2 + d) :=
  run_ind (P := fun l line acc r => run l (line + d) (pre ++ acc.map (sh d)) = if r.2.1 = 0 then (pre ++ r.1.map (sh d), 0, 0) else ([], r.2.1, r.2.2 + d))
    (fun line acc => by rw [run_nil]; rfl)
    (fun l line acc r hl hg h => by
      rw [run_gap l _ _ hl hg, ← h]
      congr 1
      omega)
    (fun l line acc r hl hg her h => by
      rw [run_tok l _ _ hl hg her, ← h]
      congr 1
      rw [List.map_append, List.append_assoc]
      rfl)
    (fun l line acc hl hg her => by rw [run_err l _ _ hl hg her, if_neg her]) l.length l (Nat.le_refl _) line acc
theorem scan_lines_err1 (a b : Bs) (ha : a.length ≤ 500) (hb : b.length ≤ 500) (h : (scan a).2.1 ≠ 0) : scan (a ++ [10] ++ b) = ([], (scan a).2.1, (scan a).2.2) := by
  rw [scan_run a (by omega)] at h ⊢
  rw [scan_run _ (by simp; omega), List.append_assoc, List.singleton_append, run_feed b a.length a (Nat.le_refl _) 1 [], if_neg h]
  exact Prod.ext (run_err_nil a 1 [] h) rfl
theorem scan_lines_err2 (a b : Bs) (ha : a.length ≤ 500) (hb : b.length ≤ 500) (h : (scan a).2.1 = 0) (h2 : (scan b).2.1 ≠ 0) : scan (a ++ [10] ++ b) = ([], (scan b).2.1, (scan b).2.2 + (1 + lf a)) := by
  rw [scan_run a (by omega)] at h
  rw [scan_run b (by omega)] at h2 ⊢
  rw [scan_run _ (by simp; omega), List.append_assoc, List.singleton_append, run_feed b a.length a (Nat.le_refl _) 1 [], if_pos h]
  have := run_shift (1 + lf a) (run a 1 []).1 b 1 []
  rw [if_neg h2] at this
  rw [List.map_nil, List.append_nil] at this
  rw [← this]
  congr 1
  omega
theorem scan_lines_ok (a b : Bs) (ha : a.length ≤ 500) (hb : b.length ≤ 500) (h : (scan a).2.1 = 0) (h2 : (scan b).2.1 = 0) : scan (a ++ [10] ++ b) = ((scan a).1 ++ (scan b).1.map (sh (1 + lf a)), 0, 0) := by
  rw [scan_run a (by omega)] at h ⊢
  rw [scan_run b (by omega)] at h2 ⊢
  rw [scan_run _ (by simp; omega), List.append_assoc, List.singleton_append, run_feed b a.length a (Nat.le_refl _) 1 [], if_pos h]
  have := run_shift (1 + lf a) (run a 1 []).1 b 1 []
  rw [if_pos h2] at this
  rw [List.map_nil, List.append_nil] at this
  rw [← this]
  congr 1
  omega
theorem scan_line_le (l : Bs) (hl : l.length ≤ 4096) : (scan l).2.2 ≤ 5000 ∧ ∀ t ∈ (scan l).1, t.2.2 ≤ 5000 := by
  rw [scan_run l hl]
  obtain ⟨h1, h2⟩ := run_lines l 1 []
  exact ⟨by omega, fun t ht => by rcases h2 t ht with h | h
                                  · simp at h
                                  · omega⟩
theorem scan_ok_line (l : Bs) (h : (scan l).2.1 = 0) : (scan l).2.2 = 0 := by
  by_cases hl : 4096 < l.length
  · unfold scan
    rw [if_pos hl]
  · rw [scan_run l (by omega)] at h ⊢
    exact run_ok_line l 1 [] h
theorem scan_err_nil (l : Bs) (h : (scan l).2.1 ≠ 0) : (scan l).1 = [] := by
  by_cases hl : 4096 < l.length
  · unfold scan
    rw [if_pos hl]
  · rw [scan_run l (by omega)] at h ⊢
    exact run_err_nil l 1 [] h
theorem lf_take (l : Bs) (k : Nat) (h : k < l.length) : lf (l.take (k + 1)) = lf (l.take k) + if l[k] = 10 then 1 else 0 := by
  unfold lf
  rw [List.take_succ_eq_append_getElem h, List.count_append]
  by_cases e : l[k] = 10
  · rw [if_pos e, e]
    rfl
  · have h0 : List.count (10 : UInt8) [l[k]] = 0 := List.count_eq_zero.2 (fun hm => e (List.mem_singleton.1 hm).symm)
    rw [if_neg e, h0]
end Go.Proofs.YtafkffjpofkbpaaGreatDoor.Tok

namespace Go.Proofs.YtafkffjpofkbpaaGreatDoor.Tok

/-- The token's text scans as the token alone. -/
def TokOk (t : T) : Prop := first t.2.1 = (t.1, t.2.1.length, 0) ∧ comment t.2.1 = false ∧ blankLen t.2.1 = 0 ∧ t.2.1 ≠ []
theorem tw_take (p : UInt8 → Bool) (l : Bs) : (l.take (l.takeWhile p).length).takeWhile p = l.takeWhile p := by
  rw [← List.prefix_iff_eq_take.1 (List.takeWhile_prefix p)]
  exact tw_all p _ (fun c hc => List.all_eq_true.1 List.all_takeWhile c hc)
theorem wordLen_take (l : Bs) : wordLen (l.take (wordLen l)) = wordLen l := by
  cases l with
  | nil => rfl
  | cons a t =>
    by_cases ha : isLetter a = true
    · have e : wordLen (a :: t) = (t.takeWhile isPart).length + 1 := by simp only [wordLen]; rw [if_pos ha]; omega
      rw [e, List.take_succ_cons]
      simp only [wordLen]
      rw [if_pos ha, tw_take]
      omega
    · have e : wordLen (a :: t) = 0 := by simp only [wordLen]; rw [if_neg ha]
      rw [e]
      rfl
theorem digLen_take (l : Bs) : digLen (l.take (digLen l)) = digLen l := by
  unfold digLen
  rw [tw_take]
theorem head_take (l : Bs) (n : Nat) (hn : 0 < n) : (l.take n).head? = l.head? := by
  cases l with
  | nil => simp
  | cons a t =>
    obtain ⟨m, rfl⟩ : ∃ m, n = m + 1 := ⟨n - 1, by omega⟩
    rfl
theorem wordLen_zero (l m : Bs) (h : l.head? = m.head?) (hw : wordLen l = 0) : wordLen m = 0 := by
  cases m with
  | nil => rfl
  | cons a t =>
    cases l with
    | nil => simp at h
    | cons b r =>
      simp only [List.head?_cons, Option.some.injEq] at h
      subst h
      simp only [wordLen] at hw ⊢
      split at hw
      · omega
      · rename_i hb
        rw [if_neg hb]
theorem digLen_zero (l m : Bs) (h : l.head? = m.head?) (hw : digLen l = 0) : digLen m = 0 := by
  cases m with
  | nil => rfl
  | cons a t =>
    cases l with
    | nil => simp at h
    | cons b r =>
      simp only [List.head?_cons, Option.some.injEq] at h
      subst h
      unfold digLen at hw ⊢
      rw [List.takeWhile_cons] at hw ⊢
      split at hw
      · simp at hw
      · rename_i hb
        rw [if_neg hb]
        rfl
theorem signLen_take (l : Bs) (h : 0 < signLen l) : signLen (l.take (signLen l)) = signLen l := by
  by_cases h2 : signs2.contains (l.take 2) = true
  · have e : signLen l = 2 := by unfold signLen; rw [if_pos h2]
    rw [e]
    unfold signLen
    rw [List.take_take]
    simp only [Nat.min_self]
    rw [if_pos h2]
  · match l, h, h2 with
    | a :: t, h, h2 =>
      have e : signLen (a :: t) = if signs1.contains a = true then 1 else 0 := by unfold signLen; rw [if_neg h2]
      by_cases h1 : signs1.contains a = true
      · rw [if_pos h1] at e
        rw [e]
        have e2 : List.take 1 (a :: t) = [a] := rfl
        rw [e2]
        unfold signLen
        rw [if_neg (by simp [signs2])]
        simp only
        rw [if_pos h1]
      · rw [if_neg h1] at e
        omega
theorem comment_take (l : Bs) (n : Nat) (h : comment l = false) : comment (l.take n) = false := by
  match l, n with
  | [], _ => simp [comment]
  | _, 0 => simp [comment]
  | a :: t, 1 => simp [comment]
  | [a], n + 2 => simp [comment]
  | a :: b :: t, n + 2 =>
    have e : comment ((a :: b :: t).take (n + 2)) = comment (a :: b :: t) := rfl
    rw [e, h]
theorem blankLen_take (l : Bs) (n : Nat) (hn : 0 < n) : blankLen (l.take n) = blankLen l := by
  cases l with
  | nil => simp
  | cons a t =>
    obtain ⟨m, rfl⟩ : ∃ m, n = m + 1 := ⟨n - 1, by omega⟩
    rfl
theorem first_take (l : Bs) (h : (first l).2.2 = 0) : first (l.take (first l).2.1) = first l := by
  have hpos := first_pos l h
  have hle := first_le l
  have hhd := head_take l (first l).2.1 hpos
  by_cases h1 : 0 < wordLen l
  · have e : first l = word (l.take (wordLen l)) := by unfold first; rw [if_pos h1]
    have hwl : (first l).2.1 = wordLen l := by
      rw [e] at h ⊢
      have := wordLen_le l
      unfold word at h ⊢
      split
      · rename_i h12
        rw [if_pos h12] at h
        simp at h
      · split <;> simp <;> omega
    rw [hwl]
    have e2 : first (l.take (wordLen l)) = word ((l.take (wordLen l)).take (wordLen (l.take (wordLen l)))) := by unfold first; rw [if_pos (by rw [wordLen_take]; exact h1)]
    rw [e2, e, wordLen_take, List.take_take, Nat.min_self]
  · have hw0 : wordLen (l.take (first l).2.1) = 0 := wordLen_zero l _ hhd.symm (by omega)
    by_cases h2 : 0 < digLen l
    · have e : first l = number (l.take (digLen l)) (l.drop (digLen l)) := by unfold first; rw [if_neg h1, if_pos h2]
      have hlt : dec 0 (l.take (digLen l)) < lim := by
        rw [e] at h
        unfold number at h
        split at h
        · simp at h
        · split at h
          · assumption
          · simp at h
      have hnum : number (l.take (digLen l)) (l.drop (digLen l)) = (2, digLen l, 0) := by
        have := digLen_le l
        rw [e] at h
        unfold number at h ⊢
        split at h
        · simp at h
        · rename_i hp
          rw [if_neg hp, if_pos hlt, List.length_take, Nat.min_eq_left this]
      rw [e, hnum] at hw0 ⊢
      have e2 : first (l.take (digLen l)) = number ((l.take (digLen l)).take (digLen (l.take (digLen l)))) ((l.take (digLen l)).drop (digLen (l.take (digLen l)))) := by
        unfold first
        rw [if_neg (by rw [hw0]; omega), if_pos (by rw [digLen_take]; exact h2)]
      have := digLen_le l
      show first (l.take (digLen l)) = _
      rw [e2, digLen_take, List.take_take, Nat.min_self, List.drop_eq_nil_of_le (by rw [List.length_take]; omega)]
      unfold number
      rw [if_neg (by simp [headPart]), if_pos hlt, List.length_take, Nat.min_eq_left this]
    · have hd0 : digLen (l.take (first l).2.1) = 0 := digLen_zero l _ hhd.symm (by omega)
      by_cases h3 : 0 < signLen l
      · have e : first l = (4, signLen l, 0) := by unfold first; rw [if_neg h1, if_neg h2, if_pos h3]
        rw [e] at hw0 hd0 ⊢
        show first (l.take (signLen l)) = _
        have e2 : first (l.take (signLen l)) = (4, signLen (l.take (signLen l)), 0) := by
          unfold first
          rw [if_neg (by rw [hw0]; omega), if_neg (by rw [hd0]; omega), if_pos (by rw [signLen_take l h3]; exact h3)]
        rw [e2, signLen_take l h3]
      · have e : first l = (0, 0, 3) := by unfold first; rw [if_neg h1, if_neg h2, if_neg h3]
        rw [e] at h
        simp at h
theorem tok_ok (l : Bs) (line : Nat) (hg : gapLen l = 0) (h : (first l).2.2 = 0) : TokOk ((first l).1, l.take (first l).2.1, line) := by
  have hpos := first_pos l h
  have hle := first_le l
  have hc : comment l = false := by
    cases hc : comment l
    · rfl
    · have := comment_gap l hc
      omega
  have hb := gapLen_other l hc
  refine ⟨?_, comment_take l _ hc, by rw [blankLen_take l _ hpos]; omega, ?_⟩
  · simp only
    rw [first_take l h, List.length_take, Nat.min_eq_left hle]
    exact Prod.ext rfl (Prod.ext rfl h)
  · intro e
    have := congrArg List.length e
    simp only [List.length_take, List.length_nil] at this
    omega
def blankText (ts : List T) : Bs := ts.flatMap fun t => t.2.1 ++ [32]
theorem blankText_snoc (ts : List T) (t : T) : blankText (ts ++ [t]) = blankText ts ++ (t.2.1 ++ [32]) := by simp [blankText]
theorem run_toks (l : Bs) (line : Nat) (acc : List T) : (∀ t ∈ acc, TokOk t) → (∀ t ∈ (run l line acc).1, TokOk t) ∧ (blankText (run l line acc).1).length ≤ (blankText acc).length + 2 * l.length :=
  run_ind (P := fun l _ acc r => (∀ t ∈ acc, TokOk t) → (∀ t ∈ r.1, TokOk t) ∧ (blankText r.1).length ≤ (blankText acc).length + 2 * l.length)
    (fun _ _ h => ⟨h, by simp⟩)
    (fun l _ acc r hl hg h ha => by
      have := h ha
      rw [List.length_drop] at this
      exact ⟨this.1, by omega⟩)
    (fun l line acc r hl hg her h ha => by
      have hpos := first_pos l her
      have hle := first_le l
      have := h (fun t ht => by
        rcases List.mem_append.1 ht with h1 | h1
        · exact ha t h1
        · rw [List.mem_singleton.1 h1]
          exact tok_ok l line hg her)
      rw [List.length_drop, blankText_snoc, List.length_append, List.length_append, List.length_take, List.length_singleton] at this
      exact ⟨this.1, by omega⟩)
    (fun l _ acc hl hg her ha => ⟨by simp, by simp [blankText]⟩) l.length l (Nat.le_refl _) line acc
theorem run_blanks (ts : List T) : ∀ acc : List T, (∀ t ∈ ts, TokOk t) → run (blankText ts) 1 acc = (acc ++ ts.map (fun t => (t.1, t.2.1, 1)), 0, 0) := by
  induction ts with
  | nil => intro acc _; simp [blankText, run_nil]
  | cons t r ih =>
    intro acc h
    obtain ⟨h1, h2, h3, h4⟩ := h t (by simp)
    have e : blankText (t :: r) = t.2.1 ++ 32 :: blankText r := by simp [blankText]
    have hf : first (t.2.1 ++ 32 :: blankText r) = (t.1, t.2.1.length, 0) := by rw [first_stop _ h4 32 _ (.inl rfl)]; exact h1
    have hg : gapLen (t.2.1 ++ 32 :: blankText r) = 0 := by
      rw [gapLen_other _ (by rw [comment_stop _ h4 32 _ (.inl rfl)]; exact h2), blankLen_append _ h4, h3]
    rw [e, run_tok _ _ _ (by simp) hg (by rw [hf]), hf]
    simp only [List.drop_left, List.take_left]
    rw [run_blank 32 _ _ _ (.inl rfl), if_neg (by decide), ih _ (fun x hx => h x (by simp [hx]))]
    simp
theorem scan_blanks (l : Bs) (hl : l.length ≤ 1000) : scan (blankText (scan l).1) = ((scan l).1.map (fun t => (t.1, t.2.1, 1)), 0, 0) := by
  rw [scan_run l (by omega)]
  obtain ⟨h1, h2⟩ := run_toks l 1 [] (by simp)
  have h3 : (blankText ([] : List T)).length = 0 := rfl
  rw [scan_run _ (by omega), run_blanks _ [] h1]
  simp
theorem blank_len (l : Bs) (hl : l.length ≤ 1000) : (blankText (scan l).1).length ≤ 2000 := by
  rw [scan_run l (by omega)]
  obtain ⟨h1, h2⟩ := run_toks l 1 [] (by simp)
  have h3 : (blankText ([] : List T)).length = 0 := rfl
  omega
end Go.Proofs.YtafkffjpofkbpaaGreatDoor.Tok
