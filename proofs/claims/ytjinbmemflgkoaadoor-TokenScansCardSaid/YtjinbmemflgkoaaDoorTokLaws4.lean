/-
  Plain laws: the tokens of a text, written with spaces between them, scan as themselves on one line.
-/
import Derived.Test.YtjinbmemflgkoaaDoorTokLaws3
namespace Go.Proofs.YtjinbmemflgkoaaDoor.Tok

/-- The token's text scans as the token alone. -/
def TokOk (t : T) : Prop := first t.2.1 = (t.1, t.2.1.length, 0) ∧ comment t.2.1 = false ∧ blankLen t.2.1 = 0 ∧ t.2.1 ≠ []
theorem tw_take (p : UInt8 → Bool) (l : Bs) : (l.take (l.takeWhile p).length).takeWhile p = l.takeWhile p := by
  rw [← List.prefix_iff_eq_take.1 (List.takeWhile_prefix p)]
  exact tw_all p _ (fun c hc => List.all_eq_true.1 List.all_takeWhile c hc)
theorem wordLen_take (l : Bs) : wordLen (l.take (wordLen l)) = wordLen l := by
  cases l with
  | nil => rfl
  | cons a t =>
    by_cases ha : isLetter a = true
    · have e : wordLen (a :: t) = (t.takeWhile isPart).length + 1 := by simp only [wordLen]; rw [if_pos ha]; omega
      rw [e, List.take_succ_cons]
      simp only [wordLen]
      rw [if_pos ha, tw_take]
      omega
    · have e : wordLen (a :: t) = 0 := by simp only [wordLen]; rw [if_neg ha]
      rw [e]
      rfl
theorem digLen_take (l : Bs) : digLen (l.take (digLen l)) = digLen l := by
  unfold digLen
  rw [tw_take]
theorem head_take (l : Bs) (n : Nat) (hn : 0 < n) : (l.take n).head? = l.head? := by
  cases l with
  | nil => simp
  | cons a t =>
    obtain ⟨m, rfl⟩ : ∃ m, n = m + 1 := ⟨n - 1, by omega⟩
    rfl
theorem wordLen_zero (l m : Bs) (h : l.head? = m.head?) (hw : wordLen l = 0) : wordLen m = 0 := by
  cases m with
  | nil => rfl
  | cons a t =>
    cases l with
    | nil => simp at h
    | cons b r =>
      simp only [List.head?_cons, Option.some.injEq] at h
      subst h
      simp only [wordLen] at hw ⊢
      split at hw
      · omega
      · rename_i hb
        rw [if_neg hb]
theorem digLen_zero (l m : Bs) (h : l.head? = m.head?) (hw : digLen l = 0) : digLen m = 0 := by
  cases m with
  | nil => rfl
  | cons a t =>
    cases l with
    | nil => simp at h
    | cons b r =>
      simp only [List.head?_cons, Option.some.injEq] at h
      subst h
      unfold digLen at hw ⊢
      rw [List.takeWhile_cons] at hw ⊢
      split at hw
      · simp at hw
      · rename_i hb
        rw [if_neg hb]
        rfl
theorem signLen_take (l : Bs) (h : 0 < signLen l) : signLen (l.take (signLen l)) = signLen l := by
  by_cases h2 : signs2.contains (l.take 2) = true
  · have e : signLen l = 2 := by unfold signLen; rw [if_pos h2]
    rw [e]
    unfold signLen
    rw [List.take_take]
    simp only [Nat.min_self]
    rw [if_pos h2]
  · match l, h, h2 with
    | a :: t, h, h2 =>
      have e : signLen (a :: t) = if signs1.contains a = true then 1 else 0 := by unfold signLen; rw [if_neg h2]
      by_cases h1 : signs1.contains a = true
      · rw [if_pos h1] at e
        rw [e]
        have e2 : List.take 1 (a :: t) = [a] := rfl
        rw [e2]
        unfold signLen
        rw [if_neg (by simp [signs2])]
        simp only
        rw [if_pos h1]
      · rw [if_neg h1] at e
        omega
theorem comment_take (l : Bs) (n : Nat) (h : comment l = false) : comment (l.take n) = false := by
  match l, n with
  | [], _ => simp [comment]
  | _, 0 => simp [comment]
  | a :: t, 1 => simp [comment]
  | [a], n + 2 => simp [comment]
  | a :: b :: t, n + 2 =>
    have e : comment ((a :: b :: t).take (n + 2)) = comment (a :: b :: t) := rfl
    rw [e, h]
theorem blankLen_take (l : Bs) (n : Nat) (hn : 0 < n) : blankLen (l.take n) = blankLen l := by
  cases l with
  | nil => simp
  | cons a t =>
    obtain ⟨m, rfl⟩ : ∃ m, n = m + 1 := ⟨n - 1, by omega⟩
    rfl
theorem first_take (l : Bs) (h : (first l).2.2 = 0) : first (l.take (first l).2.1) = first l := by
  have hpos := first_pos l h
  have hle := first_le l
  have hhd := head_take l (first l).2.1 hpos
  by_cases h1 : 0 < wordLen l
  · have e : first l = word (l.take (wordLen l)) := by unfold first; rw [if_pos h1]
    have hwl : (first l).2.1 = wordLen l := by
      rw [e] at h ⊢
      have := wordLen_le l
      unfold word at h ⊢
      split
      · rename_i h12
        rw [if_pos h12] at h
        simp at h
      · split <;> simp <;> omega
    rw [hwl]
    have e2 : first (l.take (wordLen l)) = word ((l.take (wordLen l)).take (wordLen (l.take (wordLen l)))) := by unfold first; rw [if_pos (by rw [wordLen_take]; exact h1)]
    rw [e2, e, wordLen_take, List.take_take, Nat.min_self]
  · have hw0 : wordLen (l.take (first l).2.1) = 0 := wordLen_zero l _ hhd.symm (by omega)
    by_cases h2 : 0 < digLen l
    · have e : first l = number (l.take (digLen l)) (l.drop (digLen l)) := by unfold first; rw [if_neg h1, if_pos h2]
      have hlt : dec 0 (l.take (digLen l)) < lim := by
        rw [e] at h
        unfold number at h
        split at h
        · simp at h
        · split at h
          · assumption
          · simp at h
      have hnum : number (l.take (digLen l)) (l.drop (digLen l)) = (2, digLen l, 0) := by
        have := digLen_le l
        rw [e] at h
        unfold number at h ⊢
        split at h
        · simp at h
        · rename_i hp
          rw [if_neg hp, if_pos hlt, List.length_take, Nat.min_eq_left this]
      rw [e, hnum] at hw0 ⊢
      have e2 : first (l.take (digLen l)) = number ((l.take (digLen l)).take (digLen (l.take (digLen l)))) ((l.take (digLen l)).drop (digLen (l.take (digLen l)))) := by
        unfold first
        rw [if_neg (by rw [hw0]; omega), if_pos (by rw [digLen_take]; exact h2)]
      have := digLen_le l
      show first (l.take (digLen l)) = _
      rw [e2, digLen_take, List.take_take, Nat.min_self, List.drop_eq_nil_of_le (by rw [List.length_take]; omega)]
      unfold number
      rw [if_neg (by simp [headPart]), if_pos hlt, List.length_take, Nat.min_eq_left this]
    · have hd0 : digLen (l.take (first l).2.1) = 0 := digLen_zero l _ hhd.symm (by omega)
      by_cases h3 : 0 < signLen l
      · have e : first l = (4, signLen l, 0) := by unfold first; rw [if_neg h1, if_neg h2, if_pos h3]
        rw [e] at hw0 hd0 ⊢
        show first (l.take (signLen l)) = _
        have e2 : first (l.take (signLen l)) = (4, signLen (l.take (signLen l)), 0) := by
          unfold first
          rw [if_neg (by rw [hw0]; omega), if_neg (by rw [hd0]; omega), if_pos (by rw [signLen_take l h3]; exact h3)]
        rw [e2, signLen_take l h3]
      · have e : first l = (0, 0, 3) := by unfold first; rw [if_neg h1, if_neg h2, if_neg h3]
        rw [e] at h
        simp at h
theorem tok_ok (l : Bs) (line : Nat) (hg : gapLen l = 0) (h : (first l).2.2 = 0) : TokOk ((first l).1, l.take (first l).2.1, line) := by
  have hpos := first_pos l h
  have hle := first_le l
  have hc : comment l = false := by
    cases hc : comment l
    · rfl
    · have := comment_gap l hc
      omega
  have hb := gapLen_other l hc
  refine ⟨?_, comment_take l _ hc, by rw [blankLen_take l _ hpos]; omega, ?_⟩
  · simp only
    rw [first_take l h, List.length_take, Nat.min_eq_left hle]
    exact Prod.ext rfl (Prod.ext rfl h)
  · intro e
    have := congrArg List.length e
    simp only [List.length_take, List.length_nil] at this
    omega
def blankText (ts : List T) : Bs := ts.flatMap fun t => t.2.1 ++ [32]
theorem blankText_snoc (ts : List T) (t : T) : blankText (ts ++ [t]) = blankText ts ++ (t.2.1 ++ [32]) := by simp [blankText]
theorem run_toks (l : Bs) (line : Nat) (acc : List T) : (∀ t ∈ acc, TokOk t) → (∀ t ∈ (run l line acc).1, TokOk t) ∧ (blankText (run l line acc).1).length ≤ (blankText acc).length + 2 * l.length :=
  run_ind (P := fun l _ acc r => (∀ t ∈ acc, TokOk t) → (∀ t ∈ r.1, TokOk t) ∧ (blankText r.1).length ≤ (blankText acc).length + 2 * l.length)
    (fun _ _ h => ⟨h, by simp⟩)
    (fun l _ acc r hl hg h ha => by
      have := h ha
      rw [List.length_drop] at this
      exact ⟨this.1, by omega⟩)
    (fun l line acc r hl hg her h ha => by
      have hpos := first_pos l her
      have hle := first_le l
      have := h (fun t ht => by
        rcases List.mem_append.1 ht with h1 | h1
        · exact ha t h1
        · rw [List.mem_singleton.1 h1]
          exact tok_ok l line hg her)
      rw [List.length_drop, blankText_snoc, List.length_append, List.length_append, List.length_take, List.length_singleton] at this
      exact ⟨this.1, by omega⟩)
    (fun l _ acc hl hg her ha => ⟨by simp, by simp [blankText]⟩) l.length l (Nat.le_refl _) line acc
theorem run_blanks (ts : List T) : ∀ acc : List T, (∀ t ∈ ts, TokOk t) → run (blankText ts) 1 acc = (acc ++ ts.map (fun t => (t.1, t.2.1, 1)), 0, 0) := by
  induction ts with
  | nil => intro acc _; simp [blankText, run_nil]
  | cons t r ih =>
    intro acc h
    obtain ⟨h1, h2, h3, h4⟩ := h t (by simp)
    have e : blankText (t :: r) = t.2.1 ++ 32 :: blankText r := by simp [blankText]
    have hf : first (t.2.1 ++ 32 :: blankText r) = (t.1, t.2.1.length, 0) := by rw [first_stop _ h4 32 _ (.inl rfl)]; exact h1
    have hg : gapLen (t.2.1 ++ 32 :: blankText r) = 0 := by
      rw [gapLen_other _ (by rw [comment_stop _ h4 32 _ (.inl rfl)]; exact h2), blankLen_append _ h4, h3]
    rw [e, run_tok _ _ _ (by simp) hg (by rw [hf]), hf]
    simp only [List.drop_left, List.take_left]
    rw [run_blank 32 _ _ _ (.inl rfl), if_neg (by decide), ih _ (fun x hx => h x (by simp [hx]))]
    simp
theorem scan_blanks (l : Bs) (hl : l.length ≤ 1000) : scan (blankText (scan l).1) = ((scan l).1.map (fun t => (t.1, t.2.1, 1)), 0, 0) := by
  rw [scan_run l (by omega)]
  obtain ⟨h1, h2⟩ := run_toks l 1 [] (by simp)
  have h3 : (blankText ([] : List T)).length = 0 := rfl
  rw [scan_run _ (by omega), run_blanks _ [] h1]
  simp
theorem blank_len (l : Bs) (hl : l.length ≤ 1000) : (blankText (scan l).1).length ≤ 2000 := by
  rw [scan_run l (by omega)]
  obtain ⟨h1, h2⟩ := run_toks l 1 [] (by simp)
  have h3 : (blankText ([] : List T)).length = 0 := rfl
  omega
end Go.Proofs.YtjinbmemflgkoaaDoor.Tok
