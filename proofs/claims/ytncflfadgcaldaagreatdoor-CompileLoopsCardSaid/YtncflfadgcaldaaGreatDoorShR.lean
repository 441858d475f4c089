/-
  Plain laws of the scanner's function on bytes: what a text followed by a blank scans as, runs of line feeds, signs, long words.
  Plain laws: a text behind a line feed, a comment behind a space, the tokens of a text written with spaces between them.
  Plain laws: the lines of what is scanned, shifted lines, two texts with a line feed between them.
  Plain laws: the tokens of a text, written with spaces between them, scan as themselves on one line.
  What the plain parser reads is shaped, and of a bounded size; its errors come with a line.
-/
import Derived.Test.YtncflfadgcaldaaGreatDoorTokSpec
import Derived.Test.YtncflfadgcaldaaGreatDoorShT
import Derived.Test.YtncflfadgcaldaaGreatDoorPstR
namespace Go.Proofs.YtncflfadgcaldaaGreatDoor.Tok

theorem tw_append_stop (p : UInt8 → Bool) (l : Bs) (c : UInt8) (r : Bs) (hc : p c = false) : (l ++ c :: r).takeWhile p = l.takeWhile p := by
  induction l with
  | nil => simp [hc]
  | cons a t ih =>
    simp only [List.cons_append, List.takeWhile_cons]
    cases p a
    · rfl
    · simp only [if_true]
      rw [ih]
/-- Blanks, the line feed among them. -/
def isBlank (c : UInt8) : Prop := c = 32 ∨ c = 10
theorem blank_part {c : UInt8} (h : isBlank c) : isPart c = false := by rcases h with rfl | rfl <;> decide
theorem blank_digit {c : UInt8} (h : isBlank c) : isDigit c = false := by rcases h with rfl | rfl <;> decide
theorem wordLen_stop (l : Bs) (hl : l ≠ []) (c : UInt8) (r : Bs) (hc : isBlank c) : wordLen (l ++ c :: r) = wordLen l := by
  cases l with
  | nil => exact absurd rfl hl
  | cons a t =>
    simp only [List.cons_append, wordLen]
    rw [tw_append_stop isPart t c r (blank_part hc)]
theorem digLen_stop (l : Bs) (c : UInt8) (r : Bs) (hc : isBlank c) : digLen (l ++ c :: r) = digLen l := by
  unfold digLen
  rw [tw_append_stop isDigit l c r (blank_digit hc)]
theorem signs2_blank (a c : UInt8) (hc : isBlank c) : signs2.contains [a, c] = false := by
  have : ∀ b : UInt8, c ≠ b → ∀ x : UInt8, ¬ ([a, c] : Bs) = [x, b] := fun b hb x e => hb (by simpa using (List.cons.inj (List.cons.inj e).2).1)
  rw [List.contains_eq_any_beq, List.any_eq_false]
  intro x hx e
  have e1 : ([a, c] : Bs) = x := by simpa using e
  subst e1
  rcases hc with rfl | rfl <;> simp [signs2] at hx
theorem signLen_stop (l : Bs) (hl : l ≠ []) (c : UInt8) (r : Bs) (hc : isBlank c) : signLen (l ++ c :: r) = signLen l := by
  match l, hl with
  | [a], _ =>
    have h1 := signs2_blank a c hc
    have h2 : signs2.contains [a] = false := by simp [signs2]
    unfold signLen
    simp only [List.cons_append, List.nil_append]
    have e1 : List.take 2 (a :: c :: r) = [a, c] := rfl
    have e2 : List.take 2 [a] = [a] := rfl
    rw [e1, e2, h1, h2]
  | a :: b :: t, _ =>
    unfold signLen
    rfl
theorem headPart_stop (l : Bs) (c : UInt8) (r : Bs) (hc : isBlank c) : headPart (l ++ c :: r) = headPart l := by
  cases l with
  | nil => exact blank_part hc
  | cons a t => rfl
theorem first_stop (l : Bs) (hl : l ≠ []) (c : UInt8) (r : Bs) (hc : isBlank c) : first (l ++ c :: r) = first l := by
  have h1 := wordLen_le l
  have h2 := digLen_le l
  unfold first
  rw [wordLen_stop l hl c r hc, digLen_stop l c r hc, signLen_stop l hl c r hc, List.take_append_of_le_length h1, List.take_append_of_le_length h2, List.drop_append_of_le_length h2]
  have e : number (l.take (digLen l)) (l.drop (digLen l) ++ c :: r) = number (l.take (digLen l)) (l.drop (digLen l)) := by
    unfold number
    rw [headPart_stop _ c r hc]
  rw [e]

/-- The text begins a comment. -/
def comment (l : Bs) : Bool := l.take 2 == [47, 47]
theorem gapLen_comment (l : Bs) (h : comment l = true) : gapLen l = (l.takeWhile (fun b => b != 10)).length := by
  match l, h with
  | [], h => simp [comment] at h
  | [a], h => simp [comment] at h
  | a :: b :: r, h =>
    have e : a = 47 ∧ b = 47 := by simpa [comment] using h
    obtain ⟨rfl, rfl⟩ := e
    simp [gapLen]
def blankLen : Bs → Nat
  | [] => 0
  | c :: _ => if c = 32 ∨ c = 9 ∨ c = 13 ∨ c = 10 then 1 else 0
theorem gapLen_other (l : Bs) (h : comment l = false) : gapLen l = blankLen l := by
  cases l with
  | nil => rfl
  | cons c r =>
    simp only [gapLen, blankLen]
    rw [if_neg]
    rintro ⟨rfl, h2⟩
    cases r with
    | nil => simp at h2
    | cons b r =>
      simp at h2
      subst h2
      simp [comment] at h
theorem comment_stop (l : Bs) (hl : l ≠ []) (c : UInt8) (r : Bs) (hc : isBlank c) : comment (l ++ c :: r) = comment l := by
  match l, hl with
  | [a], _ =>
    have e1 : comment ([a] ++ c :: r) = (([a, c] : Bs) == [47, 47]) := rfl
    have e2 : comment [a] = (([a] : Bs) == [47, 47]) := rfl
    rw [e1, e2]
    rcases hc with rfl | rfl <;> simp
  | a :: b :: t, _ => rfl
theorem blankLen_append (l : Bs) (hl : l ≠ []) (x : Bs) : blankLen (l ++ x) = blankLen l := by
  cases l with
  | nil => exact absurd rfl hl
  | cons c r => rfl

theorem run_blank (c : UInt8) (r : Bs) (line : Nat) (acc : List T) (hc : c = 32 ∨ c = 10) : run (c :: r) line acc = run r (line + if c = 10 then 1 else 0) acc := by
  have hg : gapLen (c :: r) = 1 := by
    rcases hc with rfl | rfl
    · rfl
    · rfl
  rw [run_gap (c :: r) line acc (by simp) (by omega), hg]
  rcases hc with rfl | rfl <;> rfl
theorem run_feeds (a : Nat) (r : Bs) (acc : List T) : ∀ line, run (List.replicate a 10 ++ r) line acc = run r (line + a) acc := by
  induction a with
  | zero => intro line; rfl
  | succ a ih =>
    intro line
    rw [List.replicate_succ, List.cons_append, run_blank 10 _ line acc (.inr rfl), ih]
    simp only [if_true]
    rw [Nat.add_assoc, Nat.add_comm 1 a]
theorem tw_all (p : UInt8 → Bool) (l : Bs) (h : ∀ c ∈ l, p c = true) : l.takeWhile p = l := by
  induction l with
  | nil => rfl
  | cons a t ih =>
    rw [List.takeWhile_cons, if_pos (h a (by simp)), ih (fun c hc => h c (by simp [hc]))]
theorem wordLen_xs (n : Nat) : wordLen (List.replicate n 120) = n := by
  cases n with
  | zero => rfl
  | succ n =>
    rw [List.replicate_succ]
    simp only [wordLen]
    rw [if_pos (by decide), tw_all isPart _ (fun c hc => by rw [List.eq_of_mem_replicate hc]; decide), List.length_replicate]
    omega
theorem first_xs (n : Nat) (hn : 0 < n) : first (List.replicate n 120) = word (List.replicate n 120) := by
  unfold first
  rw [wordLen_xs, if_pos hn, List.take_of_length_le (by simp)]
theorem gap_xs (n : Nat) : gapLen (List.replicate n 120) = 0 := by
  cases n with
  | zero => rfl
  | succ n => rfl
theorem kw_x : ∀ k ∈ keywords, k.head? ≠ some 120 := by decide
theorem kw_xs (n : Nat) (hn : 0 < n) : isKw (List.replicate n 120) = false := by
  unfold isKw
  rw [List.contains_eq_any_beq, List.any_eq_false]
  intro x hx e
  have e1 : List.replicate n 120 = x := by simpa using e
  have := kw_x x hx
  rw [← e1] at this
  apply this
  cases n with
  | zero => omega
  | succ n => rfl
/-- Words of x's behind line feeds: a token up to twelve bytes, else an error. -/
theorem scan_xs (a n : Nat) (hn : 0 < n) (h : a + n ≤ 4096) :
    scan (List.replicate a 10 ++ List.replicate n 120) = if 12 < n then ([], 2, a + 1) else ([(1, List.replicate n 120, a + 1)], 0, 0) := by
  have hne : List.replicate n (120 : UInt8) ≠ [] := by
    intro e
    have := congrArg List.length e
    simp only [List.length_replicate, List.length_nil] at this
    omega
  rw [scan_run _ (by simp; omega), run_feeds, Nat.add_comm 1 a]
  by_cases h12 : 12 < n
  · have hf : first (List.replicate n 120) = (0, 0, 2) := by rw [first_xs n hn]; unfold word; rw [if_pos (by simpa using h12)]
    rw [if_pos h12, run_err _ _ _ hne (gap_xs n) (by rw [hf]; simp), hf]
  · have hf : first (List.replicate n 120) = (1, n, 0) := by
      rw [first_xs n hn]
      unfold word
      rw [if_neg (by simpa using h12), kw_xs n hn]
      simp
    rw [if_neg h12, run_tok _ _ _ hne (gap_xs n) (by rw [hf]), hf]
    simp only [List.nil_append]
    rw [List.drop_eq_nil_of_le (by simp), run_nil, List.take_of_length_le (by simp)]
theorem isName_xs (n : Nat) (hn : 0 < n) : isName (List.replicate n 120) = decide (n ≤ 12) := by
  unfold isName
  rw [wordLen_xs, kw_xs n hn]
  have : (List.replicate n (120 : UInt8)).isEmpty = false := by
    cases n with
    | zero => omega
    | succ n => rfl
  rw [this]
  simp
/-- The text of signs, a space behind each. -/
def signText (gs : List Bs) : Bs := gs.flatMap fun g => g ++ [32]
theorem sign_first (g : Bs) (hg : g ∈ signs) (r : Bs) : first (g ++ 32 :: r) = (4, g.length, 0) ∧ gapLen (g ++ 32 :: r) = 0 ∧ g ≠ [] := by
  have h0 : ∀ g ∈ signs, first g = (4, g.length, 0) ∧ comment g = false ∧ blankLen g = 0 ∧ g ≠ [] := by decide
  obtain ⟨h1, h2, h3, h4⟩ := h0 g hg
  refine ⟨by rw [first_stop g h4 32 r (.inl rfl)]; exact h1, ?_, h4⟩
  rw [gapLen_other _ (by rw [comment_stop g h4 32 r (.inl rfl)]; exact h2), blankLen_append g h4, h3]
theorem run_signs (gs : List Bs) : ∀ acc : List T, (∀ g ∈ gs, g ∈ signs) → run (signText gs) 1 acc = (acc ++ gs.map (fun g => (4, g, 1)), 0, 0) := by
  induction gs with
  | nil => intro acc _; simp [signText, run_nil]
  | cons g t ih =>
    intro acc h
    obtain ⟨h1, h2, h3⟩ := sign_first g (h g (by simp)) (signText t)
    have e : signText (g :: t) = g ++ 32 :: signText t := by simp [signText]
    rw [e, run_tok _ _ _ (by simp) h2 (by rw [h1]), h1]
    simp only [List.drop_left, List.take_left]
    rw [run_blank 32 _ _ _ (.inl rfl), if_neg (by decide), ih _ (fun x hx => h x (by simp [hx]))]
    simp
end Go.Proofs.YtncflfadgcaldaaGreatDoor.Tok

namespace Go.Proofs.YtncflfadgcaldaaGreatDoor.Tok

abbrev nf (b : UInt8) : Bool := b != 10
theorem tw_in (l x : Bs) (h : (10 : UInt8) ∈ l) : (l ++ x).takeWhile nf = l.takeWhile nf := by
  induction l with
  | nil => simp at h
  | cons a t ih =>
    simp only [List.cons_append, List.takeWhile_cons]
    by_cases ha : a = 10
    · subst ha; rfl
    · have h1 : nf a = true := by simpa [nf] using ha
      have h2 : (10 : UInt8) ∈ t := by
        rcases List.mem_cons.1 h with e | e
        · exact absurd e.symm ha
        · exact e
      rw [h1, ih h2]
theorem nf_all (l : Bs) (h : (10 : UInt8) ∉ l) : ∀ c ∈ l, nf c = true := by
  intro c hc
  have : c ≠ 10 := fun e => h (by rw [← e]; exact hc)
  simpa [nf] using this
theorem tw_out (l x : Bs) (h : (10 : UInt8) ∉ l) : (l ++ x).takeWhile nf = l ++ x.takeWhile nf := by
  induction l with
  | nil => rfl
  | cons a t ih =>
    have h1 := nf_all (a :: t) h a (by simp)
    simp only [List.cons_append, List.takeWhile_cons]
    rw [h1, ih (fun e => h (by simp [e]))]
    rfl
theorem gap_same (l : Bs) (hl : l ≠ []) (c : UInt8) (r : Bs) (hc : isBlank c) (h : comment l = false ∨ (10 : UInt8) ∈ l) : gapLen (l ++ c :: r) = gapLen l := by
  have hcs := comment_stop l hl c r hc
  cases hcm : comment l
  · rw [gapLen_other l hcm, gapLen_other _ (hcs.trans hcm), blankLen_append l hl]
  · rw [hcm] at h
    have h10 := h.resolve_left (by simp)
    rw [gapLen_comment l hcm, gapLen_comment _ (hcs.trans hcm)]
    exact congrArg List.length (tw_in l _ h10)
theorem gap_open (l : Bs) (hl : l ≠ []) (c : UInt8) (r : Bs) (hc : isBlank c) (hcm : comment l = true) (h : (10 : UInt8) ∉ l) :
    gapLen l = l.length ∧ gapLen (l ++ c :: r) = l.length + ((c :: r).takeWhile nf).length := by
  have hcs := comment_stop l hl c r hc
  rw [gapLen_comment l hcm, gapLen_comment _ (hcs.trans hcm)]
  refine ⟨congrArg List.length (tw_all nf l (nf_all l h)), ?_⟩
  have := congrArg List.length (tw_out l (c :: r) h)
  rw [List.length_append] at this
  exact this
theorem lf_none (l : Bs) (h : (10 : UInt8) ∉ l) : lf l = 0 := by unfold lf; exact List.count_eq_zero.2 h
theorem lf_split (l : Bs) (n : Nat) : lf l = lf (l.take n) + lf (l.drop n) := by
  unfold lf
  rw [← List.count_append, List.take_append_drop]
theorem comment_gap (l : Bs) (h : comment l = true) : 0 < gapLen l := by
  rw [gapLen_comment l h]
  match l, h with
  | [], h => simp [comment] at h
  | a :: t, h =>
    have e : a = 47 := by
      cases t with
      | nil => simp [comment] at h
      | cons b r =>
        have e : a = 47 ∧ b = 47 := by simpa [comment] using h
        exact e.1
    subst e
    simp
theorem part_nf (c : UInt8) (h : isPart c = true) : c ≠ 10 := by
  intro e
  subst e
  revert h
  decide
theorem digit_nf (c : UInt8) (h : isDigit c = true) : c ≠ 10 := by
  intro e
  subst e
  revert h
  decide
theorem word_all (l : Bs) : ∀ c ∈ l.take (wordLen l), isPart c = true := by
  cases l with
  | nil => simp
  | cons a t =>
    intro c hc
    simp only [wordLen] at hc
    split at hc
    · rename_i ha
      rw [Nat.add_comm, List.take_succ_cons] at hc
      rcases List.mem_cons.1 hc with rfl | hc
      · simp [isPart, ha]
      · rw [(List.prefix_iff_eq_take.1 (List.takeWhile_prefix isPart)).symm] at hc
        exact List.all_eq_true.1 List.all_takeWhile c hc
    · simp at hc
theorem sign_nf (l : Bs) : ∀ c ∈ l.take (signLen l), c ≠ 10 := by
  intro c hc
  unfold signLen at hc
  split at hc
  · rename_i h
    have h1 : l.take 2 ∈ signs2 := by simpa using h
    have h2 : ∀ g ∈ signs2, ∀ c ∈ g, c ≠ 10 := by decide
    exact h2 _ h1 c hc
  · split at hc
    · simp at hc
    · split at hc
      · rename_i a t _ h
        simp at hc
        subst hc
        have h1 : c ∈ signs1 := by simpa using h
        have h2 : ∀ c ∈ signs1, c ≠ 10 := by decide
        exact h2 c h1
      · simp at hc
theorem tok_nofeed (l : Bs) (h : (first l).2.2 = 0) : (10 : UInt8) ∉ l.take (first l).2.1 := by
  unfold first at h ⊢
  split
  · rename_i hw
    rw [if_pos hw] at h
    intro hm
    have hl := wordLen_le l
    have hwl : (word (l.take (wordLen l))).2.1 = wordLen l := by
      unfold word at h ⊢
      split
      · rename_i h12
        rw [if_pos h12] at h
        simp at h
      · split <;> simp <;> omega
    rw [hwl] at hm
    exact part_nf _ (word_all l _ hm) rfl
  · rename_i hw
    rw [if_neg hw] at h
    split
    · rename_i hd
      rw [if_pos hd] at h
      intro hm
      have hl := digLen_le l
      have hwl : (number (l.take (digLen l)) (l.drop (digLen l))).2.1 = digLen l := by
        unfold number at h ⊢
        split
        · rename_i h12
          rw [if_pos h12] at h
          simp at h
        · rename_i h12
          rw [if_neg h12] at h
          split
          · simp; omega
          · rename_i h13
            rw [if_neg h13] at h
            simp at h
      rw [hwl] at hm
      exact digit_nf _ (digits_all l _ hm) rfl
    · rename_i hd
      rw [if_neg hd] at h
      split
      · intro hm
        exact sign_nf l _ hm rfl
      · rename_i hs
        rw [if_neg hs] at h
        simp at h

/-- A text, a line feed and a text: the second goes on with what the first gave, one line further; or the first's error. -/
theorem run_feed (r : Bs) : ∀ (n : Nat) (l : Bs), l.length ≤ n → ∀ (line : Nat) (acc : List T),
    run (l ++ 10 :: r) line acc = if (run l line acc).2.1 = 0 then run r (line + lf l + 1) (run l line acc).1 else run l line acc
  | n, [], _, line, acc => by
    rw [List.nil_append, run_blank 10 r line acc (.inr rfl), run_nil]
    simp [lf]
  | 0, a :: t, h, _, _ => absurd h (by simp)
  | n + 1, a :: t, h, line, acc => by
    have hl : (a :: t) ≠ [] := by simp
    have hx : (a :: t) ++ 10 :: r ≠ [] := by simp
    generalize a :: t = l at *
    have hp : 0 < l.length := List.length_pos_iff.2 hl
    have hgle := gapLen_le l
    by_cases hop : comment l = true ∧ (10 : UInt8) ∉ l
    · obtain ⟨h1, h2⟩ := gap_open l hl 10 r (.inr rfl) hop.1 hop.2
      have h3 : ((10 : UInt8) :: r).takeWhile nf = [] := by simp [nf]
      rw [h3, List.length_nil, Nat.add_zero] at h2
      rw [run_gap l line acc hl (by omega), run_gap _ line acc hx (by omega), h1, h2, List.drop_left, List.take_left, List.drop_length, run_nil, run_blank 10 _ _ _ (.inr rfl)]
      have := lf_none l hop.2
      simp [this]
    · have hsame := gap_same l hl 10 r (.inr rfl) (by
        cases hc : comment l
        · exact .inl rfl
        · exact .inr (by
            by_cases hm : (10 : UInt8) ∈ l
            · exact hm
            · exact absurd ⟨hc, hm⟩ hop))
      by_cases hg : 0 < gapLen l
      · have ih := run_feed r n (l.drop (gapLen l)) (by rw [List.length_drop]; omega) (line + lf (l.take (gapLen l))) acc
        rw [run_gap l line acc hl hg, run_gap _ line acc hx (by omega), hsame, List.drop_append_of_le_length hgle, List.take_append_of_le_length hgle, ih, lf_split l (gapLen l)]
        simp only [Nat.add_assoc]
      · have hg0 : gapLen l = 0 := by omega
        have hf := first_stop l hl 10 r (.inr rfl)
        have hfl := first_le l
        by_cases her : (first l).2.2 = 0
        · have hpos := first_pos l her
          have ih := run_feed r n (l.drop (first l).2.1) (by rw [List.length_drop]; omega) line (acc ++ [((first l).1, l.take (first l).2.1, line)])
          have hnf := lf_none _ (tok_nofeed l her)
          rw [run_tok l line acc hl hg0 her, run_tok _ line acc hx (by omega) (by rw [hf]; exact her), hf, List.drop_append_of_le_length hfl, List.take_append_of_le_length hfl, ih, lf_split l (first l).2.1, hnf]
          simp only [Nat.zero_add]
        · rw [run_err l line acc hl hg0 her, run_err _ line acc hx (by omega) (by rw [hf]; exact her), hf, if_neg her]
/-- A comment behind a space changes nothing. -/
theorem run_comment (c : Bs) (hc : (10 : UInt8) ∉ c) : ∀ (n : Nat) (l : Bs), l.length ≤ n → ∀ (line : Nat) (acc : List T), run (l ++ 32 :: 47 :: 47 :: c) line acc = run l line acc
  | n, [], _, line, acc => by
    rw [List.nil_append, run_blank 32 _ line acc (.inl rfl), run_nil, if_neg (by decide)]
    have h1 : comment (47 :: 47 :: c) = true := rfl
    have h2 : gapLen (47 :: 47 :: c) = (47 :: 47 :: c).length := by
      rw [gapLen_comment _ h1]
      exact congrArg List.length (tw_all nf _ (nf_all _ (by simp [hc])))
    rw [run_gap _ _ _ (by simp) (by rw [h2]; simp), h2, List.drop_length, run_nil]
  | 0, a :: t, h, _, _ => absurd h (by simp)
  | n + 1, a :: t, h, line, acc => by
    have hl : (a :: t) ≠ [] := by simp
    have hx : (a :: t) ++ 32 :: 47 :: 47 :: c ≠ [] := by simp
    generalize a :: t = l at *
    have hp : 0 < l.length := List.length_pos_iff.2 hl
    have hgle := gapLen_le l
    by_cases hop : comment l = true ∧ (10 : UInt8) ∉ l
    · obtain ⟨h1, h2⟩ := gap_open l hl 32 (47 :: 47 :: c) (.inl rfl) hop.1 hop.2
      have h3 : ((32 : UInt8) :: 47 :: 47 :: c).takeWhile nf = 32 :: 47 :: 47 :: c := tw_all nf _ (nf_all _ (by simp [hc]))
      rw [h3, ← List.length_append] at h2
      rw [run_gap l line acc hl (by omega), run_gap _ line acc hx (by rw [h2, List.length_append]; omega), h1, h2, List.drop_length, List.drop_length, run_nil, run_nil]
    · have hsame := gap_same l hl 32 (47 :: 47 :: c) (.inl rfl) (by
        cases hcm : comment l
        · exact .inl rfl
        · exact .inr (by
            by_cases hm : (10 : UInt8) ∈ l
            · exact hm
            · exact absurd ⟨hcm, hm⟩ hop))
      by_cases hg : 0 < gapLen l
      · have ih := run_comment c hc n (l.drop (gapLen l)) (by rw [List.length_drop]; omega) (line + lf (l.take (gapLen l))) acc
        rw [run_gap l line acc hl hg, run_gap _ line acc hx (by omega), hsame, List.drop_append_of_le_length hgle, List.take_append_of_le_length hgle, ih]
      · have hg0 : gapLen l = 0 := by omega
        have hf := first_stop l hl 32 (47 :: 47 :: c) (.inl rfl)
        have hfl := first_le l
        by_cases her : (first l).2.2 = 0
        · have hpos := first_pos l her
          have ih := run_comment c hc n (l.drop (first l).2.1) (by rw [List.length_drop]; omega) line (acc ++ [((first l).1, l.take (first l).2.1, line)])
          rw [run_tok l line acc hl hg0 her, run_tok _ line acc hx (by omega) (by rw [hf]; exact her), hf, List.drop_append_of_le_length hfl, List.take_append_of_le_length hfl, ih]
        · rw [run_err l line acc hl hg0 her, run_err _ line acc hx (by omega) (by rw [hf]; exact her), hf]
/-- No more tokens than bytes. -/
theorem run_len : ∀ (n : Nat) (l : Bs), l.length ≤ n → ∀ (line : Nat) (acc : List T), (run l line acc).1.length ≤ acc.length + l.length
  | n, [], _, line, acc => by rw [run_nil]; simp
  | 0, a :: t, h, _, _ => absurd h (by simp)
  | n + 1, a :: t, h, line, acc => by
    have hl : (a :: t) ≠ [] := by simp
    generalize a :: t = l at *
    have hgle := gapLen_le l
    have hfl := first_le l
    by_cases hg : 0 < gapLen l
    · have ih := run_len n (l.drop (gapLen l)) (by rw [List.length_drop]; omega) (line + lf (l.take (gapLen l))) acc
      rw [run_gap l line acc hl hg]
      rw [List.length_drop] at ih
      omega
    · by_cases her : (first l).2.2 = 0
      · have hpos := first_pos l her
        have ih := run_len n (l.drop (first l).2.1) (by rw [List.length_drop]; omega) line (acc ++ [((first l).1, l.take (first l).2.1, line)])
        rw [run_tok l line acc hl (by omega) her]
        rw [List.length_drop, List.length_append, List.length_singleton] at ih
        omega
      · rw [run_err l line acc hl (by omega) her]
        simp
theorem scan_len (l : Bs) : (scan l).1.length ≤ 4096 := by
  by_cases h : 4096 < l.length
  · unfold scan
    rw [if_pos h]
    simp
  · rw [scan_run l (by omega)]
    have := run_len l.length l (Nat.le_refl _) 1 []
    rw [List.length_nil] at this
    omega
theorem scan_comment (l c : Bs) (hl : l.length ≤ 500) (hcl : c.length ≤ 500) (hc : (10 : UInt8) ∉ c) : scan (l ++ [32, 47, 47] ++ c) = scan l := by
  rw [scan_run l (by omega), scan_run _ (by simp; omega)]
  have := run_comment c hc l.length l (Nat.le_refl _) 1 []
  rw [← this]
  simp
end Go.Proofs.YtncflfadgcaldaaGreatDoor.Tok

namespace Go.Proofs.YtncflfadgcaldaaGreatDoor.Tok

/-- A step of 'run', whatever it is: the induction's one case split. -/
theorem run_ind {P : Bs → Nat → List T → R → Prop} (h0 : ∀ line acc, P [] line acc (acc, 0, 0))
    (h1 : ∀ l line acc r, l ≠ [] → 0 < gapLen l → P (l.drop (gapLen l)) (line + lf (l.take (gapLen l))) acc r → P l line acc r)
    (h2 : ∀ l line acc r, l ≠ [] → gapLen l = 0 → (first l).2.2 = 0 → P (l.drop (first l).2.1) line (acc ++ [((first l).1, l.take (first l).2.1, line)]) r → P l line acc r)
    (h3 : ∀ l line acc, l ≠ [] → gapLen l = 0 → (first l).2.2 ≠ 0 → P l line acc ([], (first l).2.2, line)) :
    ∀ (n : Nat) (l : Bs), l.length ≤ n → ∀ line acc, P l line acc (run l line acc)
  | n, [], _, line, acc => h0 line acc
  | 0, a :: t, h, _, _ => absurd h (by simp)
  | n + 1, a :: t, h, line, acc => by
    have hl : (a :: t) ≠ [] := by simp
    generalize a :: t = l at *
    have hp : 0 < l.length := List.length_pos_iff.2 hl
    by_cases hg : 0 < gapLen l
    · rw [run_gap l line acc hl hg]
      exact h1 l line acc _ hl hg (run_ind h0 h1 h2 h3 n _ (by rw [List.length_drop]; omega) _ _)
    · by_cases her : (first l).2.2 = 0
      · have hpos := first_pos l her
        rw [run_tok l line acc hl (by omega) her]
        exact h2 l line acc _ hl (by omega) her (run_ind h0 h1 h2 h3 n _ (by rw [List.length_drop]; omega) _ _)
      · rw [run_err l line acc hl (by omega) her]
        exact h3 l line acc hl (by omega) her
theorem run_ok_line (l : Bs) (line : Nat) (acc : List T) : (run l line acc).2.1 = 0 → (run l line acc).2.2 = 0 :=
  run_ind (P := fun _ _ _ r => r.2.1 = 0 → r.2.2 = 0) (fun _ _ _ => rfl) (fun _ _ _ _ _ _ h => h) (fun _ _ _ _ _ _ _ h => h) (fun _ _ _ _ _ h he => absurd he h) l.length l (Nat.le_refl _) line acc
theorem run_err_nil (l : Bs) (line : Nat) (acc : List T) : (run l line acc).2.1 ≠ 0 → (run l line acc).1 = [] :=
  run_ind (P := fun _ _ _ r => r.2.1 ≠ 0 → r.1 = []) (fun _ _ h => absurd rfl h) (fun _ _ _ _ _ _ h => h) (fun _ _ _ _ _ _ _ h => h) (fun _ _ _ _ _ _ _ => rfl) l.length l (Nat.le_refl _) line acc
theorem run_lines (l : Bs) (line : Nat) (acc : List T) : (run l line acc).2.2 ≤ line + l.length ∧ ∀ t ∈ (run l line acc).1, t ∈ acc ∨ t.2.2 ≤ line + l.length :=
  run_ind (P := fun l line acc r => r.2.2 ≤ line + l.length ∧ ∀ t ∈ r.1, t ∈ acc ∨ t.2.2 ≤ line + l.length)
    (fun _ _ => ⟨by simp, fun t h => .inl h⟩)
    (fun l line acc r hl hg h => by
      have h1 := lf_le (l.take (gapLen l))
      rw [List.length_take] at h1
      rw [List.length_drop] at h
      have h2 := gapLen_le l
      exact ⟨by omega, fun t ht => (h.2 t ht).imp id (by omega)⟩)
    (fun l line acc r hl hg her h => by
      rw [List.length_drop] at h
      refine ⟨by omega, fun t ht => ?_⟩
      rcases h.2 t ht with h1 | h1
      · rcases List.mem_append.1 h1 with h2 | h2
        · exact .inl h2
        · simp at h2
          subst h2
          exact .inr (by simp)
      · exact .inr (by omega))
    (fun l line acc hl hg her => ⟨by simp, by simp⟩) l.length l (Nat.le_refl _) line acc
/-- A token some lines further down. -/
def sh (d : Nat) (t : T) : T := (t.1, t.2.1, t.2.2 + d)
theorem run_shift (d : Nat) (pre : List T) (l : Bs) (line : Nat) (acc : List T) :
    run l (line + d) (pre ++ acc.map (sh d)) = if (run l line acc).2.1 = 0 then (pre ++ (run l line acc).1.map (sh d), 0, 0) else ([], (run l line acc).2.1, (run l line acc).2.2 + d) :=
  run_ind (P := fun l line acc r => run l (line + d) (pre ++ acc.map (sh d)) = if r.2.1 = 0 then (pre ++ r.1.map (sh d), 0, 0) else ([], r.2.1, r.2.2 + d))
    (fun line acc => by rw [run_nil]; rfl)
    (fun l line acc r hl hg h => by
      rw [run_gap l _ _ hl hg, ← h]
      congr 1
      omega)
    (fun l line acc r hl hg her h => by
      rw [run_tok l _ _ hl hg her, ← h]
      congr 1
      rw [List.map_append, List.append_assoc]
      rfl)
    (fun l line acc hl hg her => by rw [run_err l _ _ hl hg her, if_neg her]) l.length l (Nat.le_refl _) line acc
theorem scan_lines_err1 (a b : Bs) (ha : a.length ≤ 500) (hb : b.length ≤ 500) (h : (scan a).2.1 ≠ 0) : scan (a ++ [10] ++ b) = ([], (scan a).2.1, (scan a).2.2) := by
  rw [scan_run a (by omega)] at h ⊢
  rw [scan_run _ (by simp; omega), List.append_assoc, List.singleton_append, run_feed b a.length a (Nat.le_refl _) 1 [], if_neg h]
  exact Prod.ext (run_err_nil a 1 [] h) rfl
theorem scan_lines_err2 (a b : Bs) (ha : a.length ≤ 500) (hb : b.length ≤ 500) (h : (scan a).2.1 = 0) (h2 : (scan b).2.1 ≠ 0) : scan (a ++ [10] ++ b) = ([], (scan b).2.1, (scan b).2.2 + (1 + lf a)) := by
  rw [scan_run a (by omega)] at h
  rw [scan_run b (by omega)] at h2 ⊢
  rw [scan_run _ (by simp; omega), List.append_assoc, List.singleton_append, run_feed b a.length a (Nat.le_refl _) 1 [], if_pos h]
  have := run_shift (1 + lf a) (run a 1 []).1 b 1 []
  rw [if_neg h2] at this
  rw [List.map_nil, List.append_nil] at this
  rw [← this]
  congr 1
  omega
theorem scan_lines_ok (a b : Bs) (ha : a.length ≤ 500) (hb : b.length ≤ 500) (h : (scan a).2.1 = 0) (h2 : (scan b).2.1 = 0) : scan (a ++ [10] ++ b) = ((scan a).1 ++ (scan b).1.map (sh (1 + lf a)), 0, 0) := by
  rw [scan_run a (by omega)] at h ⊢
  rw [scan_run b (by omega)] at h2 ⊢
  rw [scan_run _ (by simp; omega), List.append_assoc, List.singleton_append, run_feed b a.length a (Nat.le_refl _) 1 [], if_pos h]
  have := run_shift (1 + lf a) (run a 1 []).1 b 1 []
  rw [if_pos h2] at this
  rw [List.map_nil, List.append_nil] at this
  rw [← this]
  congr 1
  omega
theorem scan_line_le (l : Bs) (hl : l.length ≤ 4096) : (scan l).2.2 ≤ 5000 ∧ ∀ t ∈ (scan l).1, t.2.2 ≤ 5000 := by
  rw [scan_run l hl]
  obtain ⟨h1, h2⟩ := run_lines l 1 []
  exact ⟨by omega, fun t ht => by rcases h2 t ht with h | h
                                  · simp at h
                                  · omega⟩
theorem scan_ok_line (l : Bs) (h : (scan l).2.1 = 0) : (scan l).2.2 = 0 := by
  by_cases hl : 4096 < l.length
  · unfold scan
    rw [if_pos hl]
  · rw [scan_run l (by omega)] at h ⊢
    exact run_ok_line l 1 [] h
theorem scan_err_nil (l : Bs) (h : (scan l).2.1 ≠ 0) : (scan l).1 = [] := by
  by_cases hl : 4096 < l.length
  · unfold scan
    rw [if_pos hl]
  · rw [scan_run l (by omega)] at h ⊢
    exact run_err_nil l 1 [] h
theorem lf_take (l : Bs) (k : Nat) (h : k < l.length) : lf (l.take (k + 1)) = lf (l.take k) + if l[k] = 10 then 1 else 0 := by
  unfold lf
  rw [List.take_succ_eq_append_getElem h, List.count_append]
  by_cases e : l[k] = 10
  · rw [if_pos e, e]
    rfl
  · have h0 : List.count (10 : UInt8) [l[k]] = 0 := List.count_eq_zero.2 (fun hm => e (List.mem_singleton.1 hm).symm)
    rw [if_neg e, h0]
end Go.Proofs.YtncflfadgcaldaaGreatDoor.Tok

namespace Go.Proofs.YtncflfadgcaldaaGreatDoor.Tok

/-- The token's text scans as the token alone. -/
def TokOk (t : T) : Prop := first t.2.1 = (t.1, t.2.1.length, 0) ∧ comment t.2.1 = false ∧ blankLen t.2.1 = 0 ∧ t.2.1 ≠ []
theorem tw_take (p : UInt8 → Bool) (l : Bs) : (l.take (l.takeWhile p).length).takeWhile p = l.takeWhile p := by
  rw [← List.prefix_iff_eq_take.1 (List.takeWhile_prefix p)]
  exact tw_all p _ (fun c hc => List.all_eq_true.1 List.all_takeWhile c hc)
theorem wordLen_take (l : Bs) : wordLen (l.take (wordLen l)) = wordLen l := by
  cases l with
  | nil => rfl
  | cons a t =>
    by_cases ha : isLetter a = true
    · have e : wordLen (a :: t) = (t.takeWhile isPart).length + 1 := by simp only [wordLen]; rw [if_pos ha]; omega
      rw [e, List.take_succ_cons]
      simp only [wordLen]
      rw [if_pos ha, tw_take]
      omega
    · have e : wordLen (a :: t) = 0 := by simp only [wordLen]; rw [if_neg ha]
      rw [e]
      rfl
theorem digLen_take (l : Bs) : digLen (l.take (digLen l)) = digLen l := by
  unfold digLen
  rw [tw_take]
theorem head_take (l : Bs) (n : Nat) (hn : 0 < n) : (l.take n).head? = l.head? := by
  cases l with
  | nil => simp
  | cons a t =>
    obtain ⟨m, rfl⟩ : ∃ m, n = m + 1 := ⟨n - 1, by omega⟩
    rfl
theorem wordLen_zero (l m : Bs) (h : l.head? = m.head?) (hw : wordLen l = 0) : wordLen m = 0 := by
  cases m with
  | nil => rfl
  | cons a t =>
    cases l with
    | nil => simp at h
    | cons b r =>
      simp only [List.head?_cons, Option.some.injEq] at h
      subst h
      simp only [wordLen] at hw ⊢
      split at hw
      · omega
      · rename_i hb
        rw [if_neg hb]
theorem digLen_zero (l m : Bs) (h : l.head? = m.head?) (hw : digLen l = 0) : digLen m = 0 := by
  cases m with
  | nil => rfl
  | cons a t =>
    cases l with
    | nil => simp at h
    | cons b r =>
      simp only [List.head?_cons, Option.some.injEq] at h
      subst h
      unfold digLen at hw ⊢
      rw [List.takeWhile_cons] at hw ⊢
      split at hw
      · simp at hw
      · rename_i hb
        rw [if_neg hb]
        rfl
theorem signLen_take (l : Bs) (h : 0 < signLen l) : signLen (l.take (signLen l)) = signLen l := by
  by_cases h2 : signs2.contains (l.take 2) = true
  · have e : signLen l = 2 := by unfold signLen; rw [if_pos h2]
    rw [e]
    unfold signLen
    rw [List.take_take]
    simp only [Nat.min_self]
    rw [if_pos h2]
  · match l, h, h2 with
    | a :: t, h, h2 =>
      have e : signLen (a :: t) = if signs1.contains a = true then 1 else 0 := by unfold signLen; rw [if_neg h2]
      by_cases h1 : signs1.contains a = true
      · rw [if_pos h1] at e
        rw [e]
        have e2 : List.take 1 (a :: t) = [a] := rfl
        rw [e2]
        unfold signLen
        rw [if_neg (by simp [signs2])]
        simp only
        rw [if_pos h1]
      · rw [if_neg h1] at e
        omega
theorem comment_take (l : Bs) (n : Nat) (h : comment l = false) : comment (l.take n) = false := by
  match l, n with
  | [], _ => simp [comment]
  | _, 0 => simp [comment]
  | a :: t, 1 => simp [comment]
  | [a], n + 2 => simp [comment]
  | a :: b :: t, n + 2 =>
    have e : comment ((a :: b :: t).take (n + 2)) = comment (a :: b :: t) := rfl
    rw [e, h]
theorem blankLen_take (l : Bs) (n : Nat) (hn : 0 < n) : blankLen (l.take n) = blankLen l := by
  cases l with
  | nil => simp
  | cons a t =>
    obtain ⟨m, rfl⟩ : ∃ m, n = m + 1 := ⟨n - 1, by omega⟩
    rfl
theorem first_take (l : Bs) (h : (first l).2.2 = 0) : first (l.take (first l).2.1) = first l := by
  have hpos := first_pos l h
  have hle := first_le l
  have hhd := head_take l (first l).2.1 hpos
  by_cases h1 : 0 < wordLen l
  · have e : first l = word (l.take (wordLen l)) := by unfold first; rw [if_pos h1]
    have hwl : (first l).2.1 = wordLen l := by
      rw [e] at h ⊢
      have := wordLen_le l
      unfold word at h ⊢
      split
      · rename_i h12
        rw [if_pos h12] at h
        simp at h
      · split <;> simp <;> omega
    rw [hwl]
    have e2 : first (l.take (wordLen l)) = word ((l.take (wordLen l)).take (wordLen (l.take (wordLen l)))) := by unfold first; rw [if_pos (by rw [wordLen_take]; exact h1)]
    rw [e2, e, wordLen_take, List.take_take, Nat.min_self]
  · have hw0 : wordLen (l.take (first l).2.1) = 0 := wordLen_zero l _ hhd.symm (by omega)
    by_cases h2 : 0 < digLen l
    · have e : first l = number (l.take (digLen l)) (l.drop (digLen l)) := by unfold first; rw [if_neg h1, if_pos h2]
      have hlt : dec 0 (l.take (digLen l)) < lim := by
        rw [e] at h
        unfold number at h
        split at h
        · simp at h
        · split at h
          · assumption
          · simp at h
      have hnum : number (l.take (digLen l)) (l.drop (digLen l)) = (2, digLen l, 0) := by
        have := digLen_le l
        rw [e] at h
        unfold number at h ⊢
        split at h
        · simp at h
        · rename_i hp
          rw [if_neg hp, if_pos hlt, List.length_take, Nat.min_eq_left this]
      rw [e, hnum] at hw0 ⊢
      have e2 : first (l.take (digLen l)) = number ((l.take (digLen l)).take (digLen (l.take (digLen l)))) ((l.take (digLen l)).drop (digLen (l.take (digLen l)))) := by
        unfold first
        rw [if_neg (by rw [hw0]; omega), if_pos (by rw [digLen_take]; exact h2)]
      have := digLen_le l
      show first (l.take (digLen l)) = _
      rw [e2, digLen_take, List.take_take, Nat.min_self, List.drop_eq_nil_of_le (by rw [List.length_take]; omega)]
      unfold number
      rw [if_neg (by simp [headPart]), if_pos hlt, List.length_take, Nat.min_eq_left this]
    · have hd0 : digLen (l.take (first l).2.1) = 0 := digLen_zero l _ hhd.symm (by omega)
      by_cases h3 : 0 < signLen l
      · have e : first l = (4, signLen l, 0) := by unfold first; rw [if_neg h1, if_neg h2, if_pos h3]
        rw [e] at hw0 hd0 ⊢
        show first (l.take (signLen l)) = _
        have e2 : first (l.take (signLen l)) = (4, signLen (l.take (signLen l)), 0) := by
          unfold first
          rw [if_neg (by rw [hw0]; omega), if_neg (by rw [hd0]; omega), if_pos (by rw [signLen_take l h3]; exact h3)]
        rw [e2, signLen_take l h3]
      · have e : first l = (0, 0, 3) := by unfold first; rw [if_neg h1, if_neg h2, if_neg h3]
        rw [e] at h
        simp at h
theorem tok_ok (l : Bs) (line : Nat) (hg : gapLen l = 0) (h : (first l).2.2 = 0) : TokOk ((first l).1, l.take (first l).2.1, line) := by
  have hpos := first_pos l h
  have hle := first_le l
  have hc : comment l = false := by
    cases hc : comment l
    · rfl
    · have := comment_gap l hc
      omega
  have hb := gapLen_other l hc
  refine ⟨?_, comment_take l _ hc, by rw [blankLen_take l _ hpos]; omega, ?_⟩
  · simp only
    rw [first_take l h, List.length_take, Nat.min_eq_left hle]
    exact Prod.ext rfl (Prod.ext rfl h)
  · intro e
    have := congrArg List.length e
    simp only [List.length_take, List.length_nil] at this
    omega
def blankText (ts : List T) : Bs := ts.flatMap fun t => t.2.1 ++ [32]
theorem blankText_snoc (ts : List T) (t : T) : blankText (ts ++ [t]) = blankText ts ++ (t.2.1 ++ [32]) := by simp [blankText]
theorem run_toks (l : Bs) (line : Nat) (acc : List T) : (∀ t ∈ acc, TokOk t) → (∀ t ∈ (run l line acc).1, TokOk t) ∧ (blankText (run l line acc).1).length ≤ (blankText acc).length + 2 * l.length :=
  run_ind (P := fun l _ acc r => (∀ t ∈ acc, TokOk t) → (∀ t ∈ r.1, TokOk t) ∧ (blankText r.1).length ≤ (blankText acc).length + 2 * l.length)
    (fun _ _ h => ⟨h, by simp⟩)
    (fun l _ acc r hl hg h ha => by
      have := h ha
      rw [List.length_drop] at this
      exact ⟨this.1, by omega⟩)
    (fun l line acc r hl hg her h ha => by
      have hpos := first_pos l her
      have hle := first_le l
      have := h (fun t ht => by
        rcases List.mem_append.1 ht with h1 | h1
        · exact ha t h1
        · rw [List.mem_singleton.1 h1]
          exact tok_ok l line hg her)
      rw [List.length_drop, blankText_snoc, List.length_append, List.length_append, List.length_take, List.length_singleton] at this
      exact ⟨this.1, by omega⟩)
    (fun l _ acc hl hg her ha => ⟨by simp, by simp [blankText]⟩) l.length l (Nat.le_refl _) line acc
theorem run_blanks (ts : List T) : ∀ acc : List T, (∀ t ∈ ts, TokOk t) → run (blankText ts) 1 acc = (acc ++ ts.map (fun t => (t.1, t.2.1, 1)), 0, 0) := by
  induction ts with
  | nil => intro acc _; simp [blankText, run_nil]
  | cons t r ih =>
    intro acc h
    obtain ⟨h1, h2, h3, h4⟩ := h t (by simp)
    have e : blankText (t :: r) = t.2.1 ++ 32 :: blankText r := by simp [blankText]
    have hf : first (t.2.1 ++ 32 :: blankText r) = (t.1, t.2.1.length, 0) := by rw [first_stop _ h4 32 _ (.inl rfl)]; exact h1
    have hg : gapLen (t.2.1 ++ 32 :: blankText r) = 0 := by
      rw [gapLen_other _ (by rw [comment_stop _ h4 32 _ (.inl rfl)]; exact h2), blankLen_append _ h4, h3]
    rw [e, run_tok _ _ _ (by simp) hg (by rw [hf]), hf]
    simp only [List.drop_left, List.take_left]
    rw [run_blank 32 _ _ _ (.inl rfl), if_neg (by decide), ih _ (fun x hx => h x (by simp [hx]))]
    simp
theorem scan_blanks (l : Bs) (hl : l.length ≤ 1000) : scan (blankText (scan l).1) = ((scan l).1.map (fun t => (t.1, t.2.1, 1)), 0, 0) := by
  rw [scan_run l (by omega)]
  obtain ⟨h1, h2⟩ := run_toks l 1 [] (by simp)
  have h3 : (blankText ([] : List T)).length = 0 := rfl
  rw [scan_run _ (by omega), run_blanks _ [] h1]
  simp
theorem blank_len (l : Bs) (hl : l.length ≤ 1000) : (blankText (scan l).1).length ≤ 2000 := by
  rw [scan_run l (by omega)]
  obtain ⟨h1, h2⟩ := run_toks l 1 [] (by simp)
  have h3 : (blankText ([] : List T)).length = 0 := rfl
  omega
end Go.Proofs.YtncflfadgcaldaaGreatDoor.Tok

namespace Go.Proofs.YtncflfadgcaldaaGreatDoor
open Go.RowKit
open Par

namespace Par
open Tok (T Bs)
/-- What is asked of a token: its name is a name, its number is no greater than numbers may be. -/
def Kt (t : T) : Prop := (t.1 = 1 → Tok.isName t.2.1 = true) ∧ (t.1 = 2 → Tok.dec 0 t.2.1 < Tok.lim)
def Kts (ts : List T) : Prop := ∀ t ∈ ts, Kt t
theorem Kts.tail {ts : List T} (h : Kts ts) : Kts ts.tail := fun t ht => h t (List.mem_of_mem_tail ht)
theorem kts_name {ts : List T} (h : Kts ts) (hk : knd ts = 1) : Tok.isName (txt ts) = true := by
  cases ts with
  | nil => cases hk
  | cons t r => exact (h t (List.mem_cons_self ..)).1 hk
theorem name_short {l : Bs} (h : Tok.isName l = true) : l.length ≤ 12 := by
  simp only [Tok.isName, Bool.and_eq_true, decide_eq_true_eq] at h
  exact h.1.1.2
theorem txt_pos {ts : List T} {s : Bs} (h : txt ts = s) (hs : s ≠ []) : ts.tail.length + 1 = ts.length := by
  cases ts with
  | nil => exact absurd h.symm hs
  | cons t r => simp
theorem knd_pos {ts : List T} {k : Nat} (h : knd ts = k) (hk : k ≠ 0) : ts.tail.length + 1 = ts.length := by
  cases ts with
  | nil => exact absurd h.symm hk
  | cons t r => simp
/-- A reader whose results have the property R and the size m. -/
def Gd {α : Type} (R : α → Prop) (m : α → Nat) (f : Pa α) : Prop := ∀ ts a r, Kts ts → f ts = .ok (a, r) → R a ∧ m a + r.length ≤ ts.length ∧ Kts r
def ShE (e : E) : Prop := shE e = true ∧ e.nok
theorem opAt_mem {ops : List (Bs × Int)} {ts r : List T} {o : Int} (h : opAt ops ts = some (o, r)) : r = ts.tail ∧ (∃ s, (s, o) ∈ ops) ∧ r.length + 1 = ts.length := by
  have hl := opAt_le h
  cases ts with
  | nil => cases h
  | cons t q =>
    simp only [opAt] at h
    split at h
    · rename_i o2 h2
      cases h
      refine ⟨rfl, ⟨t.2.1, ?_⟩, hl⟩
      clear hl
      induction ops with
      | nil => cases h2
      | cons p r ih =>
        obtain ⟨a, b⟩ := p
        simp only [List.lookup] at h2
        split at h2
        · rename_i hb
          cases h2
          have : t.2.1 = a := by simpa using hb
          rw [this]
          exact List.mem_cons_self ..
        · exact List.mem_cons_of_mem _ (ih h2)
    · cases h
/-- The signs are those of two operands. -/
def Ops2 (ops : List (Bs × Int)) : Prop := ∀ s o, (s, o) ∈ ops → 6 ≤ o ∧ o ≤ 18
theorem gd_binary {o : Int} {a b : E} (ho : 6 ≤ o ∧ o ≤ 18) (ha : ShE a) (hb : ShE b) : ShE (binary o a b) ∧ (binary o a b).sz = a.sz + b.sz + 1 := by
  have h1 : arity o = 2 := by simp only [arity]; rw [if_neg (by omega), if_neg (by omega)]
  refine ⟨⟨?_, ?_⟩, ?_⟩
  · have h2 : ¬ (o = 2 ∨ o = 3) := by omega
    have h3 : (1 : Int) ≤ o := by omega
    simp [binary, shE, shL, fitN, h1, h2, h3, ho.2, ha.1, hb.1, ByteArray.size]
  · exact ⟨by simp [ByteArray.size], ha.2, hb.2, trivial⟩
  · simp [binary, E.sz, szL, Nat.add_assoc]
theorem gd_seriesL {f : Pa E} {ops : List (Bs × Int)} (hf : Gd ShE E.sz f) (ho : Ops2 ops) : ∀ n e ts x r, Kts ts → ShE e → seriesL f ops n e ts = .ok (x, r) → ShE x ∧ x.sz + r.length ≤ e.sz + ts.length ∧ Kts r
  | 0, e, ts, x, r, hk, he, h => by
    simp only [seriesL] at h
    cases h
    exact ⟨he, Nat.le_refl _, hk⟩
  | n + 1, e, ts, x, r, hk, he, h => by
    simp only [seriesL] at h
    split at h
    · cases h
      exact ⟨he, Nat.le_refl _, hk⟩
    · rename_i o q hq
      obtain ⟨rfl, ⟨s, hs⟩, hl⟩ := opAt_mem hq
      split at h
      · cases h
      · rename_i y q2 h2
        obtain ⟨hy, h3, hk2⟩ := hf _ _ _ hk.tail h2
        obtain ⟨hb, hsz⟩ := gd_binary (ho s o hs) he hy
        obtain ⟨h4, h5, h6⟩ := gd_seriesL hf ho n _ _ _ _ hk2 hb h
        exact ⟨h4, by omega, h6⟩
theorem gd_series {f : Pa E} {ops : List (Bs × Int)} (hf : Gd ShE E.sz f) (ho : Ops2 ops) : Gd ShE E.sz (series f ops) := by
  intro ts a r hk h
  simp only [series] at h
  split at h
  · cases h
  · rename_i e q hq
    obtain ⟨h1, h2, h3⟩ := hf _ _ _ hk hq
    obtain ⟨h4, h5, h6⟩ := gd_seriesL hf ho _ _ _ _ _ h3 h1 h
    exact ⟨h4, by omega, h6⟩
theorem gd_cmp {f : Pa E} (hf : Gd ShE E.sz f) (ho : Ops2 cmpOps) : Gd ShE E.sz (cmp f) := by
  intro ts a r hk h
  simp only [cmp] at h
  split at h
  · cases h
  · rename_i e q hq
    obtain ⟨h1, h2, h3⟩ := hf _ _ _ hk hq
    split at h
    · cases h
      exact ⟨h1, h2, h3⟩
    · rename_i o q1 hq1
      obtain ⟨rfl, ⟨s, hs⟩, hl⟩ := opAt_mem hq1
      split at h
      · cases h
      · rename_i y q2 h4
        obtain ⟨hy, h5, hk2⟩ := hf _ _ _ h3.tail h4
        obtain ⟨hb, hsz⟩ := gd_binary (ho s o hs) h1 hy
        cases h
        exact ⟨hb, by omega, hk2⟩
theorem ops_of {ops : List (Bs × Int)} (h : ops.all (fun p => decide (6 ≤ p.2) && decide (p.2 ≤ 18)) = true) : Ops2 ops := fun s o hm => by
  have := List.all_eq_true.1 h _ hm
  simpa using this
theorem gd_exprP {u : Pa E} (hu : Gd ShE E.sz u) : Gd ShE E.sz (exprP u) :=
  gd_series (gd_series (gd_cmp (gd_series (gd_series hu (ops_of (by decide))) (ops_of (by decide))) (ops_of (by decide))) (ops_of (by decide))) (ops_of (by decide))
theorem gd_closed {f : Pa E} {s : Bs} (hf : Gd ShE E.sz f) (hs : s ≠ []) : ∀ ts a r, Kts ts → closed f s ts = .ok (a, r) → ShE a ∧ a.sz + r.length + 1 ≤ ts.length ∧ Kts r := by
  intro ts a r hk h
  simp only [closed] at h
  split at h
  · cases h
  · rename_i e q hq
    obtain ⟨h1, h2, h3⟩ := hf _ _ _ hk hq
    simp only [expect] at h
    split at h
    · cases h
    · rename_i q2 hq2
      split at hq2
      · rename_i ht
        cases hq2
        cases h
        have := txt_pos ht hs
        exact ⟨h1, by omega, h3.tail⟩
      · cases hq2
/-- At most one expression. -/
def ShI (l : List E) : Prop := (l = [] ∨ ∃ e, l = [e] ∧ ShE e)
theorem gd_index {f : Pa E} (hf : Gd ShE E.sz f) : Gd ShI szL (index f) := by
  intro ts a r hk h
  simp only [index] at h
  split at h
  · rename_i ht
    have h0 := txt_pos ht (by simp)
    split at h
    · cases h
    · rename_i e q hq
      obtain ⟨h1, h2, h3⟩ := gd_closed hf (by simp) _ _ _ hk.tail hq
      cases h
      exact ⟨.inr ⟨e, rfl, h1⟩, by simp only [szL]; omega, h3⟩
  · cases h
    exact ⟨.inl rfl, by simp [szL], hk⟩
theorem sh_leaf {nm : Bs} (h : Tok.isName nm = true) : ShE (.mk 2 0 ⟨nm.toArray⟩ []) := by
  have := name_short h
  refine ⟨by simp [shE, shL, fitN, arity, h], ?_, trivial⟩
  show nm.toArray.size ≤ maxLen
  simp [maxLen]
  omega
theorem sh_one {op : Int} {nm : Bs} {e : E} (ho : op = 3 ∧ Tok.isName nm = true ∨ (op = 4 ∨ op = 5) ∧ nm = []) (he : ShE e) : ShE (.mk op 0 ⟨nm.toArray⟩ [e]) := by
  rcases ho with ⟨rfl, h⟩ | ⟨rfl | rfl, rfl⟩
  · have := name_short h
    refine ⟨by simp [shE, shL, fitN, arity, h, he.1], ?_, he.2, trivial⟩
    show nm.toArray.size ≤ maxLen
    simp [maxLen]
    omega
  · exact ⟨by simp [shE, shL, fitN, arity, he.1, ByteArray.size], by simp [ByteArray.size], he.2, trivial⟩
  · exact ⟨by simp [shE, shL, fitN, arity, he.1, ByteArray.size], by simp [ByteArray.size], he.2, trivial⟩
theorem gd_primary {f : Pa E} (hf : Gd ShE E.sz f) : Gd ShE E.sz (primary f) := by
  intro ts a r hk h
  simp only [primary] at h
  split at h
  · rename_i hn
    have h0 := knd_pos hn (by simp)
    have hnm := kts_name hk hn
    simp only [named] at h
    split at h
    · cases h
    · rename_i l q hq
      obtain ⟨h1, h2, h3⟩ := gd_index hf _ _ _ hk.tail hq
      cases h
      rcases h1 with rfl | ⟨e, rfl, he⟩
      · exact ⟨sh_leaf hnm, by simp only [E.sz, szL] at h2 ⊢; omega, h3⟩
      · exact ⟨sh_one (.inl ⟨rfl, hnm⟩) he, by simp only [E.sz, szL] at h2 ⊢; omega, h3⟩
  · split at h
    · rename_i ht
      have h0 := txt_pos ht (by simp)
      obtain ⟨h1, h2, h3⟩ := gd_closed hf (by simp) _ _ _ hk.tail h
      exact ⟨h1, by omega, h3⟩
    · simp only [number] at h
      split at h
      · cases h
      · rename_i n q hq
        split at hq
        · rename_i hn
          have h0 := knd_pos hn.1 (by simp)
          cases hq
          cases h
          refine ⟨⟨?_, by simp [ByteArray.size], trivial⟩, by simp only [E.sz, szL]; omega, hk.tail⟩
          simp [shE, shL, fitN, arity, ByteArray.size]
          omega
        · cases hq
theorem gd_unaryF : ∀ n, Gd ShE E.sz (unaryF n)
  | 0 => by intro ts a r _ h; simp [unaryF] at h
  | n + 1 => by
    intro ts a r hk h
    have ih := gd_unaryF n
    simp only [unaryF] at h
    split at h
    · rename_i ht
      have h0 := txt_pos ht (by simp)
      simp only [signed] at h
      split at h
      · cases h
      · rename_i e q hq
        obtain ⟨h1, h2, h3⟩ := ih _ _ _ hk.tail hq
        cases h
        exact ⟨sh_one (nm := []) (.inr ⟨.inl rfl, rfl⟩) h1, by simp only [E.sz, szL]; omega, h3⟩
    · split at h
      · rename_i ht
        have h0 := txt_pos ht (by simp)
        simp only [signed] at h
        split at h
        · cases h
        · rename_i e q hq
          obtain ⟨h1, h2, h3⟩ := ih _ _ _ hk.tail hq
          cases h
          exact ⟨sh_one (nm := []) (.inr ⟨.inr rfl, rfl⟩) h1, by simp only [E.sz, szL]; omega, h3⟩
      · exact gd_primary (gd_exprP ih) _ _ _ hk h
theorem gd_exprA : Gd ShE E.sz exprA := fun ts a r hk h => gd_exprP (gd_unaryF _) ts a r hk h
theorem andThen_ok {α β : Type} {f : Pa α} {g : α → Pa β} {ts r : List T} {b : β} (h : andThen f g ts = .ok (b, r)) : ∃ a q, f ts = .ok (a, q) ∧ g a q = .ok (b, r) := by
  simp only [andThen] at h
  split at h
  · cases h
  · rename_i a q hq
    exact ⟨a, q, hq, h⟩
theorem give_ok {α : Type} {a b : α} {ts r : List T} (h : give a ts = .ok (b, r)) : b = a ∧ r = ts := by
  simp only [give] at h
  cases h
  exact ⟨rfl, rfl⟩
theorem exp_ok {s : Bs} {ts r : List T} {u : Unit} (hs : s ≠ []) (hk : Kts ts) (h : exp s ts = .ok (u, r)) : r.length + 1 = ts.length ∧ Kts r := by
  simp only [exp] at h
  split at h
  · rename_i ht
    cases h
    exact ⟨txt_pos ht hs, hk.tail⟩
  · cases h
theorem nameP_ok {ts r : List T} {nm : Bs} (hk : Kts ts) (h : nameP ts = .ok (nm, r)) : Tok.isName nm = true ∧ r.length + 1 = ts.length ∧ Kts r := by
  simp only [nameP] at h
  split at h
  · rename_i hn
    cases h
    exact ⟨kts_name hk hn, knd_pos hn (by simp), hk.tail⟩
  · cases h
theorem number_ok {k n : Nat} {ts r : List T} (hk : Kts ts) (h : number k ts = .ok (n, r)) : n < Tok.lim ∧ r.length + 1 = ts.length ∧ Kts r := by
  simp only [number] at h
  split at h
  · rename_i hn
    cases h
    refine ⟨?_, knd_pos hn.1 (by simp), hk.tail⟩
    cases ts with
    | nil => cases hn.1
    | cons t q => exact (hk t (List.mem_cons_self ..)).2 hn.1
  · cases h
def ShSm (s : Sm) : Prop := shS s = true ∧ s.nok
def ShSs (l : List Sm) : Prop := shSs l = true ∧ nokS l
theorem shSs_nil : ShSs [] := ⟨rfl, trivial⟩
theorem shSs_snoc : ∀ (l : List Sm) (s : Sm), ShSs l → ShSm s → ShSs (l ++ [s]) ∧ szS (l ++ [s]) = szS l + s.sz
  | [], s, _, h => ⟨⟨by simp [shSs, h.1], h.2, trivial⟩, by simp [szS]⟩
  | x :: r, s, hl, h => by
    obtain ⟨h1, h2⟩ := hl
    simp only [shSs, Bool.and_eq_true] at h1
    obtain ⟨⟨h3, h4⟩, h5⟩ := shSs_snoc r s ⟨h1.2, h2.2⟩ h
    exact ⟨⟨by simp [shSs, h1.1, h3], h2.1, h4⟩, by simp only [List.cons_append, szS, h5]; omega⟩
/-- A reader of statements. -/
def GS (f : Pa Sm) : Prop := ∀ ts a r, Kts ts → ts.length ≤ 5000 → f ts = .ok (a, r) → ShSm a ∧ a.sz + r.length ≤ ts.length ∧ Kts r
theorem gs_stmtsL {f : Pa Sm} (hf : GS f) : ∀ n acc ts l r, Kts ts → ts.length ≤ 5000 → ShSs acc → stmtsL f n acc ts = .ok (l, r) → ShSs l ∧ szS l + r.length + 1 ≤ szS acc + ts.length ∧ Kts r
  | 0, acc, ts, l, r, _, _, _, h => by simp [stmtsL] at h
  | n + 1, acc, ts, l, r, hk, hl, ha, h => by
    simp only [stmtsL] at h
    split at h
    · rename_i ht
      have h0 := txt_pos ht (by simp)
      cases h
      exact ⟨ha, by omega, hk.tail⟩
    · split at h
      · cases h
      · rename_i s q hq
        obtain ⟨h1, h2, h3⟩ := hf _ _ _ hk hl hq
        obtain ⟨h4, h5⟩ := shSs_snoc acc s ha h1
        obtain ⟨h6, h7, h8⟩ := gs_stmtsL hf n _ _ _ _ h3 (by omega) h4 h
        exact ⟨h6, by omega, h8⟩
theorem gs_block {f : Pa Sm} (hf : GS f) {ts r : List T} {l : List Sm} (hk : Kts ts) (hl : ts.length ≤ 5000) (h : blockP f ts = .ok (l, r)) : ShSs l ∧ szS l + r.length + 2 ≤ ts.length ∧ Kts r := by
  obtain ⟨u, q, h1, h2⟩ := andThen_ok h
  obtain ⟨h3, h4⟩ := exp_ok (by simp) hk h1
  obtain ⟨h5, h6, h7⟩ := gs_stmtsL hf _ _ _ _ _ h4 (by omega) shSs_nil h2
  simp only [szS] at h6
  exact ⟨h5, by omega, h7⟩
theorem fname_short {nm : Bs} {b : Bool} (h : fname ⟨nm.toArray⟩ b = true) : nm.length ≤ 12 := by
  cases b with
  | true => exact name_short h
  | false =>
    have h2 : nm.toArray.size = 0 := by simpa [fname, ByteArray.size] using h
    simp at h2
    simp [h2]
theorem sh_mk {op line : Nat} {name arg : Bs} {ix : List E} {ex : E} {body els : List Sm} (hop : 1 ≤ op ∧ op ≤ 15) (h1 : fname ⟨name.toArray⟩ (fl op 0) = true) (h2 : fname ⟨arg.toArray⟩ (fl op 1) = true)
    (h3 : ix = [] ∨ fl op 2 = true ∧ ShI ix) (h4 : fl op 3 = true ∧ ShE ex ∨ fl op 3 = false ∧ ex = zeroE) (h5 : body = [] ∨ fl op 4 = true) (h6 : els = [] ∨ fl op 5 = true)
    (hb : ShSs body) (hl : ShSs els) (hix : szL ix ≤ 500000) (hex : ex.sz ≤ 500000) : ShSm (.mk op line name arg ix ex body els) := by
  have n1 := fname_short h1
  have n2 := fname_short h2
  have a3 : (ix.isEmpty || (fl op 2 && decide (ix.length = 1) && shL ix)) = true ∧ nokL ix := by
    rcases h3 with rfl | ⟨h3, rfl | ⟨e, rfl, he⟩⟩
    · exact ⟨rfl, trivial⟩
    · exact ⟨rfl, trivial⟩
    · exact ⟨by simp [h3, shL, he.1], he.2, trivial⟩
  have a4 : (if fl op 3 = true then shE ex else isZeroE ex) = true ∧ ex.nok := by
    rcases h4 with ⟨h4, he⟩ | ⟨h4, rfl⟩
    · exact ⟨by simp [h4, he.1], he.2⟩
    · exact ⟨by simp [h4, isZeroE, zeroE, ByteArray.size], by simp [ByteArray.size], trivial⟩
  have a5 : (fl op 4 || body.isEmpty) = true := by
    rcases h5 with rfl | h5
    · simp
    · simp [h5]
  have a6 : (fl op 5 || els.isEmpty) = true := by
    rcases h6 with rfl | h6
    · simp
    · simp [h6]
  refine ⟨?_, by simp only [maxLen]; omega, by simp only [maxLen]; omega, a3.2, a4.2, hix, hex, hb.2, hl.2⟩
  simp only [shS, fitSm, h1, h2, a3.1, a4.1, a5, a6, hb.1, hl.1, hop.1, hop.2, decide_true, Bool.and_self]
theorem fn_no : fname ⟨([] : Bs).toArray⟩ false = true := by simp [fname, ByteArray.size]
theorem zero_sz : zeroE.sz ≤ 500000 := by simp [zeroE, E.sz, szL]
theorem nil_sz : szL [] ≤ 500000 := by simp [szL]
def Q15 (k : Nat) : Prop := k = 0 ∨ 2 ≤ k ∧ k ≤ 15
theorem ite_q {c : Prop} [Decidable c] {a b : Nat} (ha : Q15 a) (hb : Q15 b) : Q15 (if c then a else b) := by
  by_cases h : c
  · rw [if_pos h]; exact ha
  · rw [if_neg h]; exact hb
theorem kind_any (l : Bs) : Q15 (stmtKind l) := by
  unfold stmtKind
  repeat' refine ite_q ?_ ?_
  all_goals (unfold Q15; omega)
theorem gs_assign : GS assignP := by
  intro ts a r hk hl h
  obtain ⟨nm, q1, h1, h⟩ := andThen_ok h
  obtain ⟨ix, q2, h2, h⟩ := andThen_ok h
  obtain ⟨_, q3, h3, h⟩ := andThen_ok h
  obtain ⟨e, q4, h4, h⟩ := andThen_ok h
  obtain ⟨_, q5, h5, h⟩ := andThen_ok h
  obtain ⟨rfl, rfl⟩ := give_ok h
  obtain ⟨n1, n2, n3⟩ := nameP_ok hk h1
  obtain ⟨i1, i2, i3⟩ := gd_index gd_exprA _ _ _ n3 h2
  obtain ⟨x1, x3⟩ := exp_ok (by simp) i3 h3
  obtain ⟨e1, e2, e3⟩ := gd_exprA _ _ _ x3 h4
  obtain ⟨y1, y3⟩ := exp_ok (by simp) e3 h5
  exact ⟨sh_mk (by omega) n1 fn_no (.inr ⟨rfl, i1⟩) (.inl ⟨rfl, e1⟩) (.inl rfl) (.inl rfl) shSs_nil shSs_nil (by omega) (by omega), by simp only [Sm.sz, szS]; omega, y3⟩
theorem gs_choice {f : Pa Sm} (hf : GS f) (line : Nat) : GS (choiceP f 2 line) := by
  intro ts a r hk hl h
  obtain ⟨e, q1, h1, h⟩ := andThen_ok h
  obtain ⟨b, q2, h2, h⟩ := andThen_ok h
  obtain ⟨e1, e2, e3⟩ := gd_exprA _ _ _ hk h1
  obtain ⟨b1, b2, b3⟩ := gs_block hf e3 (by omega) h2
  split at h
  · rename_i ht
    have h0 := txt_pos ht (by simp)
    obtain ⟨c, q3, h3, h⟩ := andThen_ok h
    obtain ⟨rfl, rfl⟩ := give_ok h
    obtain ⟨c1, c2, c3⟩ := gs_block hf b3.tail (by omega) h3
    exact ⟨sh_mk (by omega) fn_no fn_no (.inl rfl) (.inl ⟨rfl, e1⟩) (.inr rfl) (.inr rfl) b1 c1 nil_sz (by omega), by simp only [Sm.sz]; omega, c3⟩
  · cases h
    exact ⟨sh_mk (by omega) fn_no fn_no (.inl rfl) (.inl ⟨rfl, e1⟩) (.inr rfl) (.inl rfl) b1 shSs_nil nil_sz (by omega), by simp only [Sm.sz, szS]; omega, b3⟩
theorem gs_loop {f : Pa Sm} (hf : GS f) (line : Nat) : GS (loopP f 3 line) := by
  intro ts a r hk hl h
  obtain ⟨e, q1, h1, h⟩ := andThen_ok h
  obtain ⟨b, q2, h2, h⟩ := andThen_ok h
  obtain ⟨rfl, rfl⟩ := give_ok h
  obtain ⟨e1, e2, e3⟩ := gd_exprA _ _ _ hk h1
  obtain ⟨b1, b2, b3⟩ := gs_block hf e3 (by omega) h2
  exact ⟨sh_mk (by omega) fn_no fn_no (.inl rfl) (.inl ⟨rfl, e1⟩) (.inr rfl) (.inl rfl) b1 shSs_nil nil_sz (by omega), by simp only [Sm.sz, szS]; omega, b3⟩
theorem gs_named {f : Pa Sm} (hf : GS f) {k : Nat} (hkk : k = 4 ∨ k = 5 ∨ k = 6) (line : Nat) : GS (namedP f k line) := by
  intro ts a r hk hl h
  obtain ⟨nm, q1, h1, h⟩ := andThen_ok h
  obtain ⟨b, q2, h2, h⟩ := andThen_ok h
  obtain ⟨rfl, rfl⟩ := give_ok h
  obtain ⟨n1, n2, n3⟩ := nameP_ok hk h1
  obtain ⟨b1, b2, b3⟩ := gs_block hf n3 (by omega) h2
  rcases hkk with rfl | rfl | rfl <;>
    exact ⟨sh_mk (by omega) n1 fn_no (.inl rfl) (.inr ⟨rfl, rfl⟩) (.inr rfl) (.inl rfl) b1 shSs_nil nil_sz zero_sz, by simp only [Sm.sz, szS]; omega, b3⟩
theorem gs_plain {f : Pa Sm} (hf : GS f) {k : Nat} (hkk : k = 7 ∨ k = 8) (line : Nat) : GS (plainP f k line) := by
  intro ts a r hk hl h
  obtain ⟨b, q2, h2, h⟩ := andThen_ok h
  obtain ⟨rfl, rfl⟩ := give_ok h
  obtain ⟨b1, b2, b3⟩ := gs_block hf hk (by omega) h2
  rcases hkk with rfl | rfl <;>
    exact ⟨sh_mk (by omega) fn_no fn_no (.inl rfl) (.inr ⟨rfl, rfl⟩) (.inr rfl) (.inl rfl) b1 shSs_nil nil_sz zero_sz, by simp only [Sm.sz, szS]; omega, b3⟩
theorem gs_set (line : Nat) : GS (setP 14 line) := by
  intro ts a r hk hl h
  obtain ⟨nm, q1, h1, h⟩ := andThen_ok h
  obtain ⟨e, q2, h2, h⟩ := andThen_ok h
  obtain ⟨_, q3, h3, h⟩ := andThen_ok h
  obtain ⟨rfl, rfl⟩ := give_ok h
  obtain ⟨n1, n2, n3⟩ := nameP_ok hk h1
  obtain ⟨e1, e2, e3⟩ := gd_exprA _ _ _ n3 h2
  obtain ⟨y1, y3⟩ := exp_ok (by simp) e3 h3
  exact ⟨sh_mk (by omega) n1 fn_no (.inl rfl) (.inl ⟨rfl, e1⟩) (.inl rfl) (.inl rfl) shSs_nil shSs_nil nil_sz (by omega), by simp only [Sm.sz, szS]; omega, y3⟩
theorem gs_get (line : Nat) : GS (getP 15 line) := by
  intro ts a r hk hl h
  obtain ⟨nm, q1, h1, h⟩ := andThen_ok h
  obtain ⟨ag, q2, h2, h⟩ := andThen_ok h
  obtain ⟨_, q3, h3, h⟩ := andThen_ok h
  obtain ⟨rfl, rfl⟩ := give_ok h
  obtain ⟨n1, n2, n3⟩ := nameP_ok hk h1
  obtain ⟨e1, e2, e3⟩ := nameP_ok n3 h2
  obtain ⟨y1, y3⟩ := exp_ok (by simp) e3 h3
  exact ⟨sh_mk (by omega) n1 e1 (.inl rfl) (.inr ⟨rfl, rfl⟩) (.inl rfl) (.inl rfl) shSs_nil shSs_nil nil_sz zero_sz, by simp only [Sm.sz, szS]; omega, y3⟩
theorem gs_only {k : Nat} (hkk : k = 9 ∨ k = 10 ∨ k = 11 ∨ k = 12 ∨ k = 13) (line : Nat) : GS (onlyP k line) := by
  intro ts a r hk hl h
  obtain ⟨nm, q1, h1, h⟩ := andThen_ok h
  obtain ⟨_, q3, h3, h⟩ := andThen_ok h
  obtain ⟨rfl, rfl⟩ := give_ok h
  obtain ⟨n1, n2, n3⟩ := nameP_ok hk h1
  obtain ⟨y1, y3⟩ := exp_ok (by simp) n3 h3
  rcases hkk with rfl | rfl | rfl | rfl | rfl <;>
    exact ⟨sh_mk (by omega) n1 fn_no (.inl rfl) (.inr ⟨rfl, rfl⟩) (.inl rfl) (.inl rfl) shSs_nil shSs_nil nil_sz zero_sz, by simp only [Sm.sz, szS]; omega, y3⟩
theorem gs_step {f : Pa Sm} (hf : GS f) : GS (stmtStep f) := by
  intro ts a r hk hl h
  simp only [stmtStep] at h
  split at h
  · exact gs_assign _ _ _ hk hl h
  · split at h
    · cases h
    · rename_i h0
      have hkk := kind_any (txt ts)
      unfold Q15 at hkk
      have ht : ts.tail.length ≤ ts.length := by simp
      have go : ∀ {g : Pa Sm}, GS g → g ts.tail = .ok (a, r) → ShSm a ∧ a.sz + r.length ≤ ts.length ∧ Kts r := fun hg hh => by
        obtain ⟨h1, h2, h3⟩ := hg _ _ _ hk.tail (by omega) hh
        exact ⟨h1, by omega, h3⟩
      generalize stmtKind (txt ts) = k at h h0 hkk
      simp only [restP] at h
      split at h
      · rename_i e; subst e; exact go (gs_choice hf _) h
      · split at h
        · rename_i e; subst e; exact go (gs_loop hf _) h
        · split at h
          · rename_i e; exact go (gs_named hf e _) h
          · split at h
            · rename_i e; exact go (gs_plain hf e _) h
            · split at h
              · rename_i e; subst e; exact go (gs_set _) h
              · split at h
                · rename_i e; subst e; exact go (gs_get _) h
                · exact go (gs_only (by omega) _) h
theorem gs_stmtF : ∀ n, GS (stmtF n)
  | 0 => by intro ts a r _ _ h; simp [stmtF] at h
  | n + 1 => gs_step (gs_stmtF n)
theorem dkind_of (l : Bs) (k : Nat) (h : declKind l = k) : k ≤ 6 := by
  unfold declKind at h
  repeat' split at h
  all_goals omega
def ShDc (d : Dc) : Prop := shD d = true ∧ d.nok
theorem gd_size {ts r : List T} {n : Nat} (hk : Kts ts) (h : sizeP ts = .ok (n, r)) : r.length ≤ ts.length ∧ Kts r := by
  simp only [sizeP] at h
  split at h
  · rename_i ht
    have h0 := txt_pos ht (by simp)
    obtain ⟨a, q, h1, h⟩ := andThen_ok h
    obtain ⟨_, q2, h2, h⟩ := andThen_ok h
    obtain ⟨rfl, rfl⟩ := give_ok h
    obtain ⟨_, l1, k1⟩ := number_ok hk.tail h1
    obtain ⟨l2, k2⟩ := exp_ok (by simp) k1 h2
    exact ⟨by omega, k2⟩
  · cases h
    exact ⟨Nat.le_refl _, hk⟩
theorem gd_init {ts r : List T} {i : Int} (hk : Kts ts) (h : initP ts = .ok (i, r)) : i ≠ -9223372036854775808 ∧ r.length ≤ ts.length ∧ Kts r := by
  have hlim : (Tok.lim : Int) = 9223372036854775808 := by decide
  simp only [initP] at h
  split at h
  · rename_i ht
    have h0 := txt_pos ht (by simp)
    split at h
    · rename_i ht2
      have h02 := txt_pos ht2 (by simp)
      obtain ⟨a, q, h1, h⟩ := andThen_ok h
      obtain ⟨rfl, rfl⟩ := give_ok h
      obtain ⟨n1, l1, k1⟩ := number_ok hk.tail.tail h1
      exact ⟨by omega, by omega, k1⟩
    · obtain ⟨a, q, h1, h⟩ := andThen_ok h
      obtain ⟨rfl, rfl⟩ := give_ok h
      obtain ⟨n1, l1, k1⟩ := number_ok hk.tail h1
      exact ⟨by omega, by omega, k1⟩
  · cases h
    exact ⟨by omega, Nat.le_refl _, hk⟩
theorem gd_declRest {k line : Nat} {nm : Bs} {ts r : List T} {d : Dc} (h0 : k ≠ 0) (h6 : k ≤ 6) (hn : Tok.isName nm = true) (hk : Kts ts) (h : declRest k line nm ts = .ok (d, r)) : ShDc d ∧ r.length ≤ ts.length ∧ Kts r := by
  have hs := name_short hn
  have hz : (0 : Int) ≠ -9223372036854775808 := by omega
  unfold declRest at h
  split at h
  · rename_i e
    subst e
    obtain ⟨sz, q, h1, h⟩ := andThen_ok h
    obtain ⟨i, q2, h2, h⟩ := andThen_ok h
    obtain ⟨rfl, rfl⟩ := give_ok h
    obtain ⟨l1, k1⟩ := gd_size hk h1
    obtain ⟨hi, l2, k2⟩ := gd_init k1 h2
    exact ⟨⟨by simp [shD, hn, hi], by simp only [maxLen]; omega, by simp⟩, by omega, k2⟩
  · split at h
    · rename_i e
      subst e
      obtain ⟨i, q2, h2, h⟩ := andThen_ok h
      obtain ⟨rfl, rfl⟩ := give_ok h
      obtain ⟨hi, l2, k2⟩ := gd_init hk h2
      exact ⟨⟨by simp [shD, hn, hi], by simp only [maxLen]; omega, by simp⟩, by omega, k2⟩
    · split at h
      · rename_i e
        subst e
        obtain ⟨on, q2, h2, h⟩ := andThen_ok h
        obtain ⟨rfl, rfl⟩ := give_ok h
        obtain ⟨ho, l2, k2⟩ := nameP_ok hk h2
        have := name_short ho
        exact ⟨⟨by simp [shD, hn, ho], by simp only [maxLen]; omega, by simp only [maxLen]; omega⟩, by omega, k2⟩
      · rename_i e1 e2 e5
        obtain ⟨rfl, rfl⟩ := give_ok h
        have he : k = 3 ∨ k = 4 ∨ k = 6 := by omega
        refine ⟨⟨?_, by simp only [maxLen]; omega, by simp⟩, Nat.le_refl _, hk⟩
        rcases he with rfl | rfl | rfl <;> simp [shD, hn]
theorem gd_declP {ts r : List T} {d : Dc} (h0 : declKind (txt ts) ≠ 0) (hk : Kts ts) (h : declP ts = .ok (d, r)) : ShDc d ∧ r.length + 1 ≤ ts.length ∧ Kts r := by
  have hp : ts.tail.length ≤ ts.length := by simp
  obtain ⟨nm, q, h1, h⟩ := andThen_ok h
  obtain ⟨d2, q2, h2, h⟩ := andThen_ok h
  obtain ⟨_, q3, h3, h⟩ := andThen_ok h
  obtain ⟨rfl, rfl⟩ := give_ok h
  obtain ⟨n1, l1, k1⟩ := nameP_ok hk.tail h1
  obtain ⟨d1, l2, k2⟩ := gd_declRest h0 (dkind_of _ _ rfl) n1 k1 h2
  obtain ⟨l3, k3⟩ := exp_ok (by simp) k2 h3
  exact ⟨d1, by omega, k3⟩
theorem gd_declsL : ∀ n acc ts l r, Kts ts → (∀ d ∈ acc, ShDc d) → declsL n acc ts = .ok (l, r) → (∀ d ∈ l, ShDc d) ∧ l.length + r.length ≤ acc.length + ts.length ∧ Kts r
  | 0, acc, ts, l, r, hk, ha, h => by
    simp only [declsL] at h
    cases h
    exact ⟨ha, Nat.le_refl _, hk⟩
  | n + 1, acc, ts, l, r, hk, ha, h => by
    simp only [declsL] at h
    split at h
    · cases h
      exact ⟨ha, Nat.le_refl _, hk⟩
    · rename_i h0
      split at h
      · cases h
      · rename_i d q hq
        obtain ⟨h1, h2, h3⟩ := gd_declP h0 hk hq
        obtain ⟨h4, h5, h6⟩ := gd_declsL n _ _ _ _ h3 (fun x hx => by
          rcases List.mem_append.1 hx with hx | hx
          · exact ha x hx
          · rw [List.mem_singleton.1 hx]; exact h1) h
        simp only [List.length_append, List.length_cons, List.length_nil] at h5
        exact ⟨h4, by omega, h6⟩
theorem gd_namesL : ∀ n acc ts l r, Kts ts → (∀ s ∈ acc, Tok.isName s = true) → namesL n acc ts = .ok (l, r) → (∀ s ∈ l, Tok.isName s = true) ∧ l.length + r.length ≤ acc.length + ts.length ∧ Kts r
  | 0, acc, ts, l, r, hk, ha, h => by
    simp only [namesL] at h
    cases h
    exact ⟨ha, Nat.le_refl _, hk⟩
  | n + 1, acc, ts, l, r, hk, ha, h => by
    simp only [namesL] at h
    split at h
    · rename_i ht
      have h0 := txt_pos ht (by simp)
      split at h
      · cases h
      · rename_i nm q hq
        obtain ⟨n1, l1, k1⟩ := nameP_ok hk.tail hq
        obtain ⟨h4, h5, h6⟩ := gd_namesL n _ _ _ _ k1 (fun x hx => by
          rcases List.mem_append.1 hx with hx | hx
          · exact ha x hx
          · rw [List.mem_singleton.1 hx]; exact n1) h
        simp only [List.length_append, List.length_cons, List.length_nil] at h5
        exact ⟨h4, by omega, h6⟩
    · cases h
      exact ⟨ha, Nat.le_refl _, hk⟩
theorem gd_locals {ts r : List T} {l : List Bs} (hk : Kts ts) (h : localsP ts = .ok (l, r)) : (∀ s ∈ l, Tok.isName s = true) ∧ l.length + r.length ≤ ts.length ∧ Kts r := by
  obtain ⟨_, q, h1, h⟩ := andThen_ok h
  obtain ⟨l1, k1⟩ := exp_ok (by simp) hk h1
  split at h
  · rename_i ht
    have h0 := txt_pos ht (by simp)
    cases h
    exact ⟨fun s hs => absurd hs (by simp), by simp only [List.length_nil]; omega, k1.tail⟩
  · obtain ⟨nm, q2, h2, h⟩ := andThen_ok h
    obtain ⟨l2, q3, h3, h⟩ := andThen_ok h
    obtain ⟨_, q4, h4, h⟩ := andThen_ok h
    obtain ⟨rfl, rfl⟩ := give_ok h
    obtain ⟨n1, s2, k2⟩ := nameP_ok k1 h2
    obtain ⟨h5, s3, k3⟩ := gd_namesL _ _ _ _ _ k2 (fun s hs => by rw [List.mem_singleton.1 hs]; exact n1) h3
    obtain ⟨s4, k4⟩ := exp_ok (by simp) k3 h4
    simp only [List.length_cons, List.length_nil] at s3
    exact ⟨h5, by omega, k4⟩
def ShTh (t : Th) : Prop := shT t = true ∧ t.nok
theorem gd_threadP {n : Nat} {ts r : List T} {t : Th} (hk : Kts ts) (hl : ts.length ≤ 5000) (h : threadP n ts = .ok (t, r)) : ShTh t ∧ r.length + 1 ≤ ts.length ∧ Kts r := by
  obtain ⟨_, q1, h1, h⟩ := andThen_ok h
  obtain ⟨nm, q2, h2, h⟩ := andThen_ok h
  obtain ⟨l, q3, h3, h⟩ := andThen_ok h
  obtain ⟨b, q4, h4, h⟩ := andThen_ok h
  obtain ⟨rfl, rfl⟩ := give_ok h
  obtain ⟨s1, k1⟩ := exp_ok (by simp) hk h1
  obtain ⟨n2, s2, k2⟩ := nameP_ok k1 h2
  obtain ⟨n3, s3, k3⟩ := gd_locals k2 h3
  obtain ⟨b1, s4, k4⟩ := gs_block (gs_stmtF n) k3 (by omega) h4
  have hs := name_short n2
  refine ⟨⟨?_, by simp only [maxLen]; omega, fun s hm => by have := name_short (n3 s hm); simp only [maxLen]; omega, by simp only; omega, b1.2, by simp only; omega⟩, by omega, k4⟩
  simp only [shT, n2, b1.1, Bool.true_and, Bool.and_true]
  exact List.all_eq_true.2 n3
theorem gd_threadsL (m : Nat) : ∀ n acc ts l r, Kts ts → ts.length ≤ 5000 → (∀ t ∈ acc, ShTh t) → acc ≠ [] → threadsL m n acc ts = .ok (l, r) → (∀ t ∈ l, ShTh t) ∧ l ≠ [] ∧ l.length + r.length ≤ acc.length + ts.length ∧ Kts r
  | 0, acc, ts, l, r, hk, hl, ha, hne, h => by
    simp only [threadsL] at h
    cases h
    exact ⟨ha, hne, Nat.le_refl _, hk⟩
  | n + 1, acc, ts, l, r, hk, hl, ha, hne, h => by
    simp only [threadsL] at h
    split at h
    · split at h
      · cases h
      · rename_i t q hq
        obtain ⟨h1, h2, h3⟩ := gd_threadP hk hl hq
        obtain ⟨h4, h7, h5, h6⟩ := gd_threadsL m n _ _ _ _ h3 (by omega) (fun x hx => by
          rcases List.mem_append.1 hx with hx | hx
          · exact ha x hx
          · rw [List.mem_singleton.1 hx]; exact h1) (by simp) h
        simp only [List.length_append, List.length_cons, List.length_nil] at h5
        exact ⟨h4, h7, by omega, h6⟩
    · cases h
      exact ⟨ha, hne, Nat.le_refl _, hk⟩
/-- The program that is read is shaped, and of a bounded size. -/
theorem gd_progP {m : Nat} {ts r : List T} {p : Pg} (hk : Kts ts) (hl : ts.length ≤ 5000) (h : progP m ts = .ok (p, r)) : shP p = true ∧ p.nok := by
  obtain ⟨ds, q1, h1, h⟩ := andThen_ok h
  obtain ⟨t, q2, h2, h⟩ := andThen_ok h
  obtain ⟨l, q3, h3, h⟩ := andThen_ok h
  obtain ⟨rfl, rfl⟩ := give_ok h
  obtain ⟨d1, s1, k1⟩ := gd_declsL _ _ _ _ _ hk (fun _ hx => absurd hx (by simp)) h1
  simp only [List.length_nil] at s1
  obtain ⟨t1, s2, k2⟩ := gd_threadP k1 (by omega) h2
  obtain ⟨l1, l2, s3, k3⟩ := gd_threadsL m _ _ _ _ _ k2 (by omega) (fun x hx => by rw [List.mem_singleton.1 hx]; exact t1) (by simp) h3
  simp only [List.length_cons, List.length_nil] at s3
  refine ⟨?_, fun d hd => (d1 d hd).2, fun t ht => (l1 t ht).2, by simp only; omega, by simp only; omega⟩
  simp only [shP, Bool.and_eq_true]
  refine ⟨⟨List.all_eq_true.2 fun d hd => (d1 d hd).1, List.all_eq_true.2 fun t ht => (l1 t ht).1⟩, ?_⟩
  cases l with
  | nil => exact absurd rfl l2
  | cons x r => rfl
theorem first_kt (l : Bs) (ln : Nat) (h : (Tok.first l).2.2 = 0) : Kt ((Tok.first l).1, l.take (Tok.first l).2.1, ln) := by
  unfold Tok.first at h ⊢
  split
  · rename_i hw
    rw [if_pos hw] at h
    have hlen : (l.take (Tok.wordLen l)).length = Tok.wordLen l := by rw [List.length_take]; have := Tok.wordLen_le l; omega
    unfold Tok.word at h ⊢
    split
    · rename_i h12
      rw [if_pos h12] at h
      simp at h
    · rename_i hd
      split
      · exact ⟨fun h => by simp at h, fun h => by simp at h⟩
      · rename_i hk
        refine ⟨fun _ => ?_, fun h => by simp at h⟩
        simp only [hlen]
        rw [hlen] at hd
        have h1 : (l.take (Tok.wordLen l)).isEmpty = false := by
          cases hx : l.take (Tok.wordLen l) with
          | nil => rw [hx] at hlen; simp at hlen; omega
          | cons a b => rfl
        have h2 : Tok.wordLen (l.take (Tok.wordLen l)) = (l.take (Tok.wordLen l)).length := (Tok.wordLen_take l).trans hlen.symm
        have h3 : (l.take (Tok.wordLen l)).length ≤ 12 := by omega
        have h4 : Tok.isKw (l.take (Tok.wordLen l)) = false := by simpa using hk
        generalize l.take (Tok.wordLen l) = x at h1 h2 h3 h4
        simp only [Tok.isName, h1, h2, h3, h4, decide_true, Bool.not_false, Bool.and_self]
  · rename_i hw
    rw [if_neg hw] at h
    split
    · rename_i hd
      rw [if_pos hd] at h
      have hlen : (l.take (Tok.digLen l)).length = Tok.digLen l := by
        rw [List.length_take]
        have := Tok.takeWhile_le Tok.isDigit l
        simp only [Tok.digLen]
        omega
      unfold Tok.number at h ⊢
      split
      · rename_i h1
        rw [if_pos h1] at h
        simp at h
      · split
        · rename_i hlt
          exact ⟨fun h => by simp at h, fun _ => by simp only [hlen]; exact hlt⟩
        · rename_i h1 h2
          rw [if_neg h1, if_neg h2] at h
          simp at h
    · split
      · exact ⟨fun h => by simp at h, fun h => by simp at h⟩
      · rename_i h1 h2
        rw [if_neg h1, if_neg h2] at h
        simp at h
theorem go_kt : ∀ (f : Nat) (l : Bs) (ln : Nat) (acc : List T), Kts acc → Kts (Tok.go f l ln acc).1
  | 0, l, ln, acc, ha => by simpa [Tok.go] using ha
  | f + 1, l, ln, acc, ha => by
    simp only [Tok.go]
    split
    · exact ha
    · split
      · exact go_kt f _ _ _ ha
      · split
        · rename_i h
          refine go_kt f _ _ _ ?_
          intro t ht
          rcases List.mem_append.1 ht with ht | ht
          · exact ha t ht
          · obtain rfl := List.mem_singleton.1 ht
            exact first_kt l ln h
        · intro t ht
          cases ht
theorem scan_kt (l : Bs) : Kts (Tok.scan l).1 := by
  unfold Tok.scan
  split
  · intro t ht; cases ht
  · exact go_kt _ _ _ _ (fun t ht => by cases ht)
/-- What Parse returns without an error is shaped, and of a bounded size. -/
theorem parseOut_shaped (s : Bs) (h : (parseOut s).2.1 = 0) : shP (parseOut s).1 = true ∧ (parseOut s).1.nok := by
  unfold parseOut at h ⊢
  by_cases he : (Tok.scan s).2.1 = 0
  · simp only [if_pos he] at h ⊢
    unfold allOf at h ⊢
    cases hq : progP ((Tok.scan s).1.length + 1) (Tok.scan s).1 with
    | error q =>
      rw [hq] at h
      simp at h
    | ok p =>
      obtain ⟨x, q⟩ := p
      rw [hq] at h
      by_cases hq2 : q = []
      · simp only [if_pos hq2]
        exact gd_progP (scan_kt s) (by have := scan_len s; omega) hq
      · simp [hq2] at h
  · rw [if_neg he] at h
    exact absurd h he
/-- All tokens have the property L. -/
def All (L : T → Prop) (ts : List T) : Prop := ∀ t ∈ ts, L t
theorem All.tail {L : T → Prop} {ts : List T} (h : All L ts) : All L ts.tail := fun t ht => h t (List.mem_of_mem_tail ht)
/-- The tokens that a reader leaves. -/
def left {α : Type} : Except (List T) (α × List T) → List T
  | .error q => q
  | .ok (_, r) => r
/-- What a reader leaves are tokens that it was given. -/
def Sf {α : Type} (L : T → Prop) (f : Pa α) : Prop := ∀ ts, All L ts → All L (left (f ts))
theorem sf_give {α : Type} {L : T → Prop} (a : α) : Sf L (give a) := fun _ h => h
theorem sf_if {α : Type} {L : T → Prop} {c : List T → Prop} [∀ ts, Decidable (c ts)] {f g : Pa α} (hf : Sf L f) (hg : Sf L g) : Sf L (fun ts => if c ts then f ts else g ts) := fun ts h => by
  by_cases hc : c ts
  · simp only [if_pos hc]; exact hf ts h
  · simp only [if_neg hc]; exact hg ts h
theorem sf_tail {α : Type} {L : T → Prop} {f : Pa α} (hf : Sf L f) : Sf L (fun ts => f ts.tail) := fun ts h => hf ts.tail h.tail
theorem sf_error {α : Type} {L : T → Prop} : Sf L (fun ts => (.error ts : Except (List T) (α × List T))) := fun _ h => h
theorem sf_exp {L : T → Prop} (s : Bs) : Sf L (exp s) := sf_if (f := fun ts => .ok ((), ts.tail)) (fun _ h => h.tail) sf_error
theorem sf_nameP {L : T → Prop} : Sf L nameP := sf_if (f := fun ts => .ok (txt ts, ts.tail)) (fun _ h => h.tail) sf_error
theorem sf_number {L : T → Prop} (k : Nat) : Sf L (number k) := sf_if (f := fun ts => .ok (Tok.dec 0 (txt ts), ts.tail)) (fun _ h => h.tail) sf_error
theorem sf_andThen {α β : Type} {L : T → Prop} {f : Pa α} {g : α → Pa β} (hf : Sf L f) (hg : ∀ a, Sf L (g a)) : Sf L (andThen f g) := by
  intro ts h
  have h1 := hf ts h
  simp only [andThen]
  cases hx : f ts with
  | error q => rw [hx] at h1; exact h1
  | ok p =>
    obtain ⟨a, q⟩ := p
    rw [hx] at h1
    exact hg a q h1
theorem sf_closed {L : T → Prop} {f : Pa E} (hf : Sf L f) (s : Bs) : Sf L (closed f s) := by
  intro ts h
  have h1 := hf ts h
  simp only [closed]
  cases hx : f ts with
  | error q => rw [hx] at h1; exact h1
  | ok p =>
    obtain ⟨a, q⟩ := p
    rw [hx] at h1
    simp only [expect]
    by_cases ht : txt q = s
    · rw [if_pos ht]; exact All.tail h1
    · rw [if_neg ht]; exact h1
theorem sf_seriesL {L : T → Prop} {f : Pa E} (ops : List (Bs × Int)) (hf : Sf L f) : ∀ n e, Sf L (seriesL f ops n e)
  | 0, e => fun _ h => h
  | n + 1, e => by
    intro ts h
    simp only [seriesL]
    cases ho : opAt ops ts with
    | none => exact h
    | some p =>
      obtain ⟨o, r⟩ := p
      obtain ⟨rfl, _⟩ := opAt_mem ho
      have h1 := hf _ h.tail
      simp only
      cases hx : f ts.tail with
      | error q => rw [hx] at h1; exact h1
      | ok p =>
        obtain ⟨a, q⟩ := p
        rw [hx] at h1
        exact sf_seriesL ops hf n _ q h1
theorem sf_series {L : T → Prop} {f : Pa E} (ops : List (Bs × Int)) (hf : Sf L f) : Sf L (series f ops) := by
  intro ts h
  have h1 := hf ts h
  simp only [series]
  cases hx : f ts with
  | error q => rw [hx] at h1; exact h1
  | ok p =>
    obtain ⟨a, q⟩ := p
    rw [hx] at h1
    exact sf_seriesL ops hf _ _ q h1
theorem sf_cmp {L : T → Prop} {f : Pa E} (hf : Sf L f) : Sf L (cmp f) := by
  intro ts h
  have h1 := hf ts h
  simp only [cmp]
  cases hx : f ts with
  | error q => rw [hx] at h1; exact h1
  | ok p =>
    obtain ⟨a, q⟩ := p
    rw [hx] at h1
    simp only
    cases ho : opAt cmpOps q with
    | none => exact h1
    | some p =>
      obtain ⟨o, r⟩ := p
      obtain ⟨rfl, _⟩ := opAt_mem ho
      have h0 : All L q := h1
      have h2 := hf _ h0.tail
      simp only
      cases hy : f q.tail with
      | error q2 => rw [hy] at h2; exact h2
      | ok p =>
        obtain ⟨b, q2⟩ := p
        rw [hy] at h2
        exact h2
theorem sf_exprP {L : T → Prop} {u : Pa E} (hu : Sf L u) : Sf L (exprP u) := sf_series _ (sf_series _ (sf_cmp (sf_series _ (sf_series _ hu))))
theorem sf_index {L : T → Prop} {f : Pa E} (hf : Sf L f) : Sf L (index f) := by
  intro ts h
  simp only [index]
  by_cases ht : txt ts = [91]
  · rw [if_pos ht]
    have h1 := sf_closed hf [93] _ h.tail
    cases hx : closed f [93] ts.tail with
    | error q => rw [hx] at h1; exact h1
    | ok p =>
      obtain ⟨a, q⟩ := p
      rw [hx] at h1
      exact h1
  · rw [if_neg ht]; exact h
theorem sf_primary {L : T → Prop} {f : Pa E} (hf : Sf L f) : Sf L (primary f) := by
  intro ts h
  simp only [primary]
  by_cases h1 : knd ts = 1
  · rw [if_pos h1]
    have h2 := sf_index hf _ h.tail
    simp only [named]
    cases hx : index f ts.tail with
    | error q => rw [hx] at h2; exact h2
    | ok p =>
      obtain ⟨a, q⟩ := p
      rw [hx] at h2
      exact h2
  · rw [if_neg h1]
    by_cases h2 : txt ts = [40]
    · rw [if_pos h2]; exact sf_closed hf _ _ h.tail
    · rw [if_neg h2]
      have h3 := sf_number (L := L) 0 ts h
      cases hx : number 0 ts with
      | error q => rw [hx] at h3; exact h3
      | ok p =>
        obtain ⟨a, q⟩ := p
        rw [hx] at h3
        exact h3
theorem sf_signed {L : T → Prop} {u : Pa E} (hu : Sf L u) (o : Int) : Sf L (signed u o) := by
  intro ts h
  have h1 := hu ts h
  simp only [signed]
  cases hx : u ts with
  | error q => rw [hx] at h1; exact h1
  | ok p =>
    obtain ⟨a, q⟩ := p
    rw [hx] at h1
    exact h1
theorem sf_unaryF {L : T → Prop} : ∀ n, Sf L (unaryF n)
  | 0 => fun _ h => h
  | n + 1 => sf_if (sf_tail (sf_signed (sf_unaryF n) 4)) (sf_if (sf_tail (sf_signed (sf_unaryF n) 5)) (sf_primary (sf_exprP (sf_unaryF n))))
theorem sf_exprA {L : T → Prop} : Sf L exprA := fun ts h => sf_exprP (sf_unaryF _) ts h
theorem sf_stmtsL {L : T → Prop} {f : Pa Sm} (hf : Sf L f) : ∀ n acc, Sf L (stmtsL f n acc)
  | 0, acc => fun _ h => h
  | n + 1, acc => by
    intro ts h
    simp only [stmtsL]
    by_cases ht : txt ts = [125]
    · rw [if_pos ht]; exact h.tail
    · rw [if_neg ht]
      have h1 := hf ts h
      cases hx : f ts with
      | error q => rw [hx] at h1; exact h1
      | ok p =>
        obtain ⟨a, q⟩ := p
        rw [hx] at h1
        exact sf_stmtsL hf n _ q h1
theorem sf_block {L : T → Prop} {f : Pa Sm} (hf : Sf L f) : Sf L (blockP f) := sf_andThen (sf_exp _) fun _ ts h => sf_stmtsL hf _ _ ts h
theorem sf_rest {L : T → Prop} {f : Pa Sm} (hf : Sf L f) (k line : Nat) : Sf L (restP f k line) := by
  unfold restP
  split
  · exact sf_andThen sf_exprA fun _ => sf_andThen (sf_block hf) fun _ => sf_if (sf_tail (sf_andThen (sf_block hf) fun _ => sf_give _)) (fun _ h => h)
  · split
    · exact sf_andThen sf_exprA fun _ => sf_andThen (sf_block hf) fun _ => sf_give _
    · split
      · exact sf_andThen sf_nameP fun _ => sf_andThen (sf_block hf) fun _ => sf_give _
      · split
        · exact sf_andThen (sf_block hf) fun _ => sf_give _
        · split
          · exact sf_andThen sf_nameP fun _ => sf_andThen sf_exprA fun _ => sf_andThen (sf_exp _) fun _ => sf_give _
          · split
            · exact sf_andThen sf_nameP fun _ => sf_andThen sf_nameP fun _ => sf_andThen (sf_exp _) fun _ => sf_give _
            · exact sf_andThen sf_nameP fun _ => sf_andThen (sf_exp _) fun _ => sf_give _
theorem sf_stmtF {L : T → Prop} : ∀ n, Sf L (stmtF n)
  | 0 => fun _ h => h
  | n + 1 => by
    intro ts h
    show All L (left (stmtStep (stmtF n) ts))
    unfold stmtStep
    by_cases h1 : knd ts = 1
    · rw [if_pos h1]
      exact (sf_andThen sf_nameP fun _ => sf_andThen (sf_index sf_exprA) fun _ => sf_andThen (sf_exp _) fun _ => sf_andThen sf_exprA fun _ => sf_andThen (sf_exp _) fun _ => sf_give _) ts h
    · rw [if_neg h1]
      by_cases h2 : stmtKind (txt ts) = 0
      · rw [if_pos h2]; exact h
      · rw [if_neg h2]; exact sf_rest (sf_stmtF n) _ _ _ h.tail
theorem sf_declP {L : T → Prop} : Sf L declP := by
  intro ts h
  refine (sf_andThen sf_nameP fun nm => sf_andThen ?_ fun d => sf_andThen (sf_exp _) fun _ => sf_give _) ts.tail h.tail
  have hs : Sf L sizeP := sf_if (sf_tail (sf_andThen (sf_number 1) fun _ => sf_andThen (sf_exp _) fun _ => sf_give _)) (fun _ h => h)
  have hi : Sf L initP := sf_if (sf_if (c := fun ts => txt ts.tail = [45]) (sf_tail (sf_tail (sf_andThen (sf_number 0) fun _ => sf_give _))) (sf_tail (sf_andThen (sf_number 0) fun _ => sf_give _))) (fun _ h => h)
  unfold declRest
  split
  · exact sf_andThen hs fun _ => sf_andThen hi fun _ => sf_give _
  · split
    · exact sf_andThen hi fun _ => sf_give _
    · split
      · exact sf_andThen sf_nameP fun _ => sf_give _
      · exact sf_give _
theorem sf_declsL {L : T → Prop} : ∀ n acc, Sf L (declsL n acc)
  | 0, acc => fun _ h => h
  | n + 1, acc => by
    intro ts h
    simp only [declsL]
    by_cases ht : declKind (txt ts) = 0
    · rw [if_pos ht]; exact h
    · rw [if_neg ht]
      have h1 := sf_declP ts h
      cases hx : declP ts with
      | error q => rw [hx] at h1; exact h1
      | ok p =>
        obtain ⟨a, q⟩ := p
        rw [hx] at h1
        exact sf_declsL n _ q h1
theorem sf_namesL {L : T → Prop} : ∀ n acc, Sf L (namesL n acc)
  | 0, acc => fun _ h => h
  | n + 1, acc => by
    intro ts h
    simp only [namesL]
    by_cases ht : txt ts = [44]
    · rw [if_pos ht]
      have h1 := sf_nameP ts.tail h.tail
      cases hx : nameP ts.tail with
      | error q => rw [hx] at h1; exact h1
      | ok p =>
        obtain ⟨a, q⟩ := p
        rw [hx] at h1
        exact sf_namesL n _ q h1
    · rw [if_neg ht]; exact h
theorem sf_threadP {L : T → Prop} (n : Nat) : Sf L (threadP n) := fun ts h => by
  refine (sf_andThen (sf_exp _) fun _ => sf_andThen sf_nameP fun nm => sf_andThen (sf_andThen (sf_exp _) fun _ => ?_) fun l => sf_andThen (sf_block (sf_stmtF n)) fun b => sf_give _) ts h
  exact sf_if (f := fun ts => .ok ([], ts.tail)) (fun _ h => h.tail) (sf_andThen sf_nameP fun nm => sf_andThen (fun ts h => sf_namesL _ _ ts h) fun l => sf_andThen (sf_exp _) fun _ => sf_give _)
theorem sf_threadsL {L : T → Prop} (m : Nat) : ∀ n acc, Sf L (threadsL m n acc)
  | 0, acc => fun _ h => h
  | n + 1, acc => by
    intro ts h
    simp only [threadsL]
    by_cases ht : txt ts = [116, 104, 114, 101, 97, 100]
    · rw [if_pos ht]
      have h1 := sf_threadP m ts h
      cases hx : threadP m ts with
      | error q => rw [hx] at h1; exact h1
      | ok p =>
        obtain ⟨a, q⟩ := p
        rw [hx] at h1
        exact sf_threadsL m n _ q h1
    · rw [if_neg ht]; exact h
theorem sf_progP {L : T → Prop} (m : Nat) : Sf L (progP m) :=
  sf_andThen (fun ts h => sf_declsL _ _ ts h) fun _ => sf_andThen (sf_threadP m) fun _ => sf_andThen (fun ts h => sf_threadsL m _ _ ts h) fun _ => sf_give _
/-- Lines begin with 1. -/
theorem go_line : ∀ (f : Nat) (l : Bs) (ln : Nat) (acc : List T), 1 ≤ ln → All (fun t => 1 ≤ t.2.2) acc → All (fun t => 1 ≤ t.2.2) (Tok.go f l ln acc).1 ∧ ((Tok.go f l ln acc).2.1 ≠ 0 → 1 ≤ (Tok.go f l ln acc).2.2)
  | 0, l, ln, acc, _, ha => ⟨by simpa [Tok.go] using ha, fun h => by simp [Tok.go] at h⟩
  | f + 1, l, ln, acc, hl, ha => by
    simp only [Tok.go]
    split
    · exact ⟨ha, fun h => by simp at h⟩
    · split
      · exact go_line f _ _ _ (by omega) ha
      · split
        · refine go_line f _ _ _ hl ?_
          intro t ht
          rcases List.mem_append.1 ht with ht | ht
          · exact ha t ht
          · obtain rfl := List.mem_singleton.1 ht
            exact hl
        · exact ⟨(fun t ht => by cases ht), fun _ => hl⟩
theorem scan_line (l : Bs) (hl : l.length ≤ 4096) : All (fun t => 1 ≤ t.2.2) (Tok.scan l).1 ∧ ((Tok.scan l).2.1 ≠ 0 → 1 ≤ (Tok.scan l).2.2) := by
  unfold Tok.scan
  rw [if_neg (by omega)]
  exact go_line _ _ _ _ (Nat.le_refl _) (fun t ht => by cases ht)
theorem lineAt_pos {ts q : List T} (hs : All (fun t => 1 ≤ t.2.2) ts) (hq : All (fun t => 1 ≤ t.2.2) q) : 1 ≤ lineAt ts q := by
  unfold lineAt
  cases q with
  | cons t r => exact hq t (List.mem_cons_self ..)
  | nil =>
    simp only
    cases hx : ts.getLast? with
    | none => exact Nat.le_refl _
    | some t => exact hs t (List.mem_of_getLast? hx)
/-- Parse's errors come without a program and with a line; its programs come without a line. -/
theorem parseOut_line (s : Bs) (hl : s.length ≤ 4096) : ((parseOut s).2.1 ≠ 0 → (parseOut s).1 = P0 ∧ 1 ≤ (parseOut s).2.2) ∧ ((parseOut s).2.1 = 0 → (parseOut s).2.2 = 0) := by
  obtain ⟨h1, h2⟩ := scan_line s hl
  unfold parseOut
  by_cases he : (Tok.scan s).2.1 = 0
  · simp only [if_pos he]
    have h3 := sf_progP ((Tok.scan s).1.length + 1) _ h1
    unfold allOf
    cases hq : progP ((Tok.scan s).1.length + 1) (Tok.scan s).1 with
    | error q =>
      rw [hq] at h3
      exact ⟨fun _ => ⟨rfl, lineAt_pos h1 h3⟩, fun h => by simp at h⟩
    | ok p =>
      obtain ⟨x, q⟩ := p
      rw [hq] at h3
      by_cases hq2 : q = []
      · simp [if_pos hq2]
      · simp only [if_neg hq2]
        exact ⟨fun _ => ⟨trivial, lineAt_pos h1 h3⟩, fun h => by simp at h⟩
  · simp only [if_neg he]
    exact ⟨fun _ => ⟨trivial, h2 he⟩, fun h => absurd h he⟩
end Par
end Go.Proofs.YtncflfadgcaldaaGreatDoor
