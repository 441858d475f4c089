/-
  Plain laws: a text behind a line feed, a comment behind a space, the tokens of a text written with spaces between them.
-/
import Derived.Test.YtjinbmemflgkoaaDoorTokLaws
namespace Go.Proofs.YtjinbmemflgkoaaDoor.Tok

abbrev nf (b : UInt8) : Bool := b != 10
theorem tw_in (l x : Bs) (h : (10 : UInt8) ∈ l) : (l ++ x).takeWhile nf = l.takeWhile nf := by
  induction l with
  | nil => simp at h
  | cons a t ih =>
    simp only [List.cons_append, List.takeWhile_cons]
    by_cases ha : a = 10
    · subst ha; rfl
    · have h1 : nf a = true := by simpa [nf] using ha
      have h2 : (10 : UInt8) ∈ t := by
        rcases List.mem_cons.1 h with e | e
        · exact absurd e.symm ha
        · exact e
      rw [h1, ih h2]
theorem nf_all (l : Bs) (h : (10 : UInt8) ∉ l) : ∀ c ∈ l, nf c = true := by
  intro c hc
  have : c ≠ 10 := fun e => h (by rw [← e]; exact hc)
  simpa [nf] using this
theorem tw_out (l x : Bs) (h : (10 : UInt8) ∉ l) : (l ++ x).takeWhile nf = l ++ x.takeWhile nf := by
  induction l with
  | nil => rfl
  | cons a t ih =>
    have h1 := nf_all (a :: t) h a (by simp)
    simp only [List.cons_append, List.takeWhile_cons]
    rw [h1, ih (fun e => h (by simp [e]))]
    rfl
theorem gap_same (l : Bs) (hl : l ≠ []) (c : UInt8) (r : Bs) (hc : isBlank c) (h : comment l = false ∨ (10 : UInt8) ∈ l) : gapLen (l ++ c :: r) = gapLen l := by
  have hcs := comment_stop l hl c r hc
  cases hcm : comment l
  · rw [gapLen_other l hcm, gapLen_other _ (hcs.trans hcm), blankLen_append l hl]
  · rw [hcm] at h
    have h10 := h.resolve_left (by simp)
    rw [gapLen_comment l hcm, gapLen_comment _ (hcs.trans hcm)]
    exact congrArg List.length (tw_in l _ h10)
theorem gap_open (l : Bs) (hl : l ≠ []) (c : UInt8) (r : Bs) (hc : isBlank c) (hcm : comment l = true) (h : (10 : UInt8) ∉ l) :
    gapLen l = l.length ∧ gapLen (l ++ c :: r) = l.length + ((c :: r).takeWhile nf).length := by
  have hcs := comment_stop l hl c r hc
  rw [gapLen_comment l hcm, gapLen_comment _ (hcs.trans hcm)]
  refine ⟨congrArg List.length (tw_all nf l (nf_all l h)), ?_⟩
  have := congrArg List.length (tw_out l (c :: r) h)
  rw [List.length_append] at this
  exact this
theorem lf_none (l : Bs) (h : (10 : UInt8) ∉ l) : lf l = 0 := by unfold lf; exact List.count_eq_zero.2 h
theorem lf_split (l : Bs) (n : Nat) : lf l = lf (l.take n) + lf (l.drop n) := by
  unfold lf
  rw [← List.count_append, List.take_append_drop]
theorem comment_gap (l : Bs) (h : comment l = true) : 0 < gapLen l := by
  rw [gapLen_comment l h]
  match l, h with
  | [], h => simp [comment] at h
  | a :: t, h =>
    have e : a = 47 := by
      cases t with
      | nil => simp [comment] at h
      | cons b r =>
        have e : a = 47 ∧ b = 47 := by simpa [comment] using h
        exact e.1
    subst e
    simp
theorem part_nf (c : UInt8) (h : isPart c = true) : c ≠ 10 := by
  intro e
  subst e
  revert h
  decide
theorem digit_nf (c : UInt8) (h : isDigit c = true) : c ≠ 10 := by
  intro e
  subst e
  revert h
  decide
theorem word_all (l : Bs) : ∀ c ∈ l.take (wordLen l), isPart c = true := by
  cases l with
  | nil => simp
  | cons a t =>
    intro c hc
    simp only [wordLen] at hc
    split at hc
    · rename_i ha
      rw [Nat.add_comm, List.take_succ_cons] at hc
      rcases List.mem_cons.1 hc with rfl | hc
      · simp [isPart, ha]
      · rw [(List.prefix_iff_eq_take.1 (List.takeWhile_prefix isPart)).symm] at hc
        exact List.all_eq_true.1 List.all_takeWhile c hc
    · simp at hc
theorem sign_nf (l : Bs) : ∀ c ∈ l.take (signLen l), c ≠ 10 := by
  intro c hc
  unfold signLen at hc
  split at hc
  · rename_i h
    have h1 : l.take 2 ∈ signs2 := by simpa using h
    have h2 : ∀ g ∈ signs2, ∀ c ∈ g, c ≠ 10 := by decide
    exact h2 _ h1 c hc
  · split at hc
    · simp at hc
    · split at hc
      · rename_i a t _ h
        simp at hc
        subst hc
        have h1 : c ∈ signs1 := by simpa using h
        have h2 : ∀ c ∈ signs1, c ≠ 10 := by decide
        exact h2 c h1
      · simp at hc
theorem tok_nofeed (l : Bs) (h : (first l).2.2 = 0) : (10 : UInt8) ∉ l.take (first l).2.1 := by
  unfold first at h ⊢
  split
  · rename_i hw
    rw [if_pos hw] at h
    intro hm
    have hl := wordLen_le l
    have hwl : (word (l.take (wordLen l))).2.1 = wordLen l := by
      unfold word at h ⊢
      split
      · rename_i h12
        rw [if_pos h12] at h
        simp at h
      · split <;> simp <;> omega
    rw [hwl] at hm
    exact part_nf _ (word_all l _ hm) rfl
  · rename_i hw
    rw [if_neg hw] at h
    split
    · rename_i hd
      rw [if_pos hd] at h
      intro hm
      have hl := digLen_le l
      have hwl : (number (l.take (digLen l)) (l.drop (digLen l))).2.1 = digLen l := by
        unfold number at h ⊢
        split
        · rename_i h12
          rw [if_pos h12] at h
          simp at h
        · rename_i h12
          rw [if_neg h12] at h
          split
          · simp; omega
          · rename_i h13
            rw [if_neg h13] at h
            simp at h
      rw [hwl] at hm
      exact digit_nf _ (digits_all l _ hm) rfl
    · rename_i hd
      rw [if_neg hd] at h
      split
      · intro hm
        exact sign_nf l _ hm rfl
      · rename_i hs
        rw [if_neg hs] at h
        simp at h

/-- A text, a line feed and a text: the second goes on with what the first gave, one line further; or the first's error. -/
theorem run_feed (r : Bs) : ∀ (n : Nat) (l : Bs), l.length ≤ n → ∀ (line : Nat) (acc : List T),
    run (l ++ 10 :: r) line acc = if (run l line acc).2.1 = 0 then run r (line + lf l + 1) (run l line acc).1 else run l line acc
  | n, [], _, line, acc => by
    rw [List.nil_append, run_blank 10 r line acc (.inr rfl), run_nil]
    simp [lf]
  | 0, a :: t, h, _, _ => absurd h (by simp)
  | n + 1, a :: t, h, line, acc => by
    have hl : (a :: t) ≠ [] := by simp
    have hx : (a :: t) ++ 10 :: r ≠ [] := by simp
    generalize a :: t = l at *
    have hp : 0 < l.length := List.length_pos_iff.2 hl
    have hgle := gapLen_le l
    by_cases hop : comment l = true ∧ (10 : UInt8) ∉ l
    · obtain ⟨h1, h2⟩ := gap_open l hl 10 r (.inr rfl) hop.1 hop.2
      have h3 : ((10 : UInt8) :: r).takeWhile nf = [] := by simp [nf]
      rw [h3, List.length_nil, Nat.add_zero] at h2
      rw [run_gap l line acc hl (by omega), run_gap _ line acc hx (by omega), h1, h2, List.drop_left, List.take_left, List.drop_length, run_nil, run_blank 10 _ _ _ (.inr rfl)]
      have := lf_none l hop.2
      simp [this]
    · have hsame := gap_same l hl 10 r (.inr rfl) (by
        cases hc : comment l
        · exact .inl rfl
        · exact .inr (by
            by_cases hm : (10 : UInt8) ∈ l
            · exact hm
            · exact absurd ⟨hc, hm⟩ hop))
      by_cases hg : 0 < gapLen l
      · have ih := run_feed r n (l.drop (gapLen l)) (by rw [List.length_drop]; omega) (line + lf (l.take (gapLen l))) acc
        rw [run_gap l line acc hl hg, run_gap _ line acc hx (by omega), hsame, List.drop_append_of_le_length hgle, List.take_append_of_le_length hgle, ih, lf_split l (gapLen l)]
        simp only [Nat.add_assoc]
      · have hg0 : gapLen l = 0 := by omega
        have hf := first_stop l hl 10 r (.inr rfl)
        have hfl := first_le l
        by_cases her : (first l).2.2 = 0
        · have hpos := first_pos l her
          have ih := run_feed r n (l.drop (first l).2.1) (by rw [List.length_drop]; omega) line (acc ++ [((first l).1, l.take (first l).2.1, line)])
          have hnf := lf_none _ (tok_nofeed l her)
          rw [run_tok l line acc hl hg0 her, run_tok _ line acc hx (by omega) (by rw [hf]; exact her), hf, List.drop_append_of_le_length hfl, List.take_append_of_le_length hfl, ih, lf_split l (first l).2.1, hnf]
          simp only [Nat.zero_add]
        · rw [run_err l line acc hl hg0 her, run_err _ line acc hx (by omega) (by rw [hf]; exact her), hf, if_neg her]
/-- A comment behind a space changes nothing. -/
theorem run_comment (c : Bs) (hc : (10 : UInt8) ∉ c) : ∀ (n : Nat) (l : Bs), l.length ≤ n → ∀ (line : Nat) (acc : List T), run (l ++ 32 :: 47 :: 47 :: c) line acc = run l line acc
  | n, [], _, line, acc => by
    rw [List.nil_append, run_blank 32 _ line acc (.inl rfl), run_nil, if_neg (by decide)]
    have h1 : comment (47 :: 47 :: c) = true := rfl
    have h2 : gapLen (47 :: 47 :: c) = (47 :: 47 :: c).length := by
      rw [gapLen_comment _ h1]
      exact congrArg List.length (tw_all nf _ (nf_all _ (by simp [hc])))
    rw [run_gap _ _ _ (by simp) (by rw [h2]; simp), h2, List.drop_length, run_nil]
  | 0, a :: t, h, _, _ => absurd h (by simp)
  | n + 1, a :: t, h, line, acc => by
    have hl : (a :: t) ≠ [] := by simp
    have hx : (a :: t) ++ 32 :: 47 :: 47 :: c ≠ [] := by simp
    generalize a :: t = l at *
    have hp : 0 < l.length := List.length_pos_iff.2 hl
    have hgle := gapLen_le l
    by_cases hop : comment l = true ∧ (10 : UInt8) ∉ l
    · obtain ⟨h1, h2⟩ := gap_open l hl 32 (47 :: 47 :: c) (.inl rfl) hop.1 hop.2
      have h3 : ((32 : UInt8) :: 47 :: 47 :: c).takeWhile nf = 32 :: 47 :: 47 :: c := tw_all nf _ (nf_all _ (by simp [hc]))
      rw [h3, ← List.length_append] at h2
      rw [run_gap l line acc hl (by omega), run_gap _ line acc hx (by rw [h2, List.length_append]; omega), h1, h2, List.drop_length, List.drop_length, run_nil, run_nil]
    · have hsame := gap_same l hl 32 (47 :: 47 :: c) (.inl rfl) (by
        cases hcm : comment l
        · exact .inl rfl
        · exact .inr (by
            by_cases hm : (10 : UInt8) ∈ l
            · exact hm
            · exact absurd ⟨hcm, hm⟩ hop))
      by_cases hg : 0 < gapLen l
      · have ih := run_comment c hc n (l.drop (gapLen l)) (by rw [List.length_drop]; omega) (line + lf (l.take (gapLen l))) acc
        rw [run_gap l line acc hl hg, run_gap _ line acc hx (by omega), hsame, List.drop_append_of_le_length hgle, List.take_append_of_le_length hgle, ih]
      · have hg0 : gapLen l = 0 := by omega
        have hf := first_stop l hl 32 (47 :: 47 :: c) (.inl rfl)
        have hfl := first_le l
        by_cases her : (first l).2.2 = 0
        · have hpos := first_pos l her
          have ih := run_comment c hc n (l.drop (first l).2.1) (by rw [List.length_drop]; omega) line (acc ++ [((first l).1, l.take (first l).2.1, line)])
          rw [run_tok l line acc hl hg0 her, run_tok _ line acc hx (by omega) (by rw [hf]; exact her), hf, List.drop_append_of_le_length hfl, List.take_append_of_le_length hfl, ih]
        · rw [run_err l line acc hl hg0 her, run_err _ line acc hx (by omega) (by rw [hf]; exact her), hf]
/-- No more tokens than bytes. -/
theorem run_len : ∀ (n : Nat) (l : Bs), l.length ≤ n → ∀ (line : Nat) (acc : List T), (run l line acc).1.length ≤ acc.length + l.length
  | n, [], _, line, acc => by rw [run_nil]; simp
  | 0, a :: t, h, _, _ => absurd h (by simp)
  | n + 1, a :: t, h, line, acc => by
    have hl : (a :: t) ≠ [] := by simp
    generalize a :: t = l at *
    have hgle := gapLen_le l
    have hfl := first_le l
    by_cases hg : 0 < gapLen l
    · have ih := run_len n (l.drop (gapLen l)) (by rw [List.length_drop]; omega) (line + lf (l.take (gapLen l))) acc
      rw [run_gap l line acc hl hg]
      rw [List.length_drop] at ih
      omega
    · by_cases her : (first l).2.2 = 0
      · have hpos := first_pos l her
        have ih := run_len n (l.drop (first l).2.1) (by rw [List.length_drop]; omega) line (acc ++ [((first l).1, l.take (first l).2.1, line)])
        rw [run_tok l line acc hl (by omega) her]
        rw [List.length_drop, List.length_append, List.length_singleton] at ih
        omega
      · rw [run_err l line acc hl (by omega) her]
        simp
theorem scan_len (l : Bs) : (scan l).1.length ≤ 4096 := by
  by_cases h : 4096 < l.length
  · unfold scan
    rw [if_pos h]
    simp
  · rw [scan_run l (by omega)]
    have := run_len l.length l (Nat.le_refl _) 1 []
    rw [List.length_nil] at this
    omega
theorem scan_comment (l c : Bs) (hl : l.length ≤ 500) (hcl : c.length ≤ 500) (hc : (10 : UInt8) ∉ c) : scan (l ++ [32, 47, 47] ++ c) = scan l := by
  rw [scan_run l (by omega), scan_run _ (by simp; omega)]
  have := run_comment c hc l.length l (Nat.le_refl _) 1 []
  rw [← this]
  simp
end Go.Proofs.YtjinbmemflgkoaaDoor.Tok
