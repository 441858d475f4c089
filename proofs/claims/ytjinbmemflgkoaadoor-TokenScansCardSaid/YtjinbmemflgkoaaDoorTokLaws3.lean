/-
  Plain laws: the lines of what is scanned, shifted lines, two texts with a line feed between them.
-/
import Derived.Test.YtjinbmemflgkoaaDoorTokLaws2
namespace Go.Proofs.YtjinbmemflgkoaaDoor.Tok

/-- A step of 'run', whatever it is: the induction's one case split. -/
theorem run_ind {P : Bs → Nat → List T → R → Prop} (h0 : ∀ line acc, P [] line acc (acc, 0, 0))
    (h1 : ∀ l line acc r, l ≠ [] → 0 < gapLen l → P (l.drop (gapLen l)) (line + lf (l.take (gapLen l))) acc r → P l line acc r)
    (h2 : ∀ l line acc r, l ≠ [] → gapLen l = 0 → (first l).2.2 = 0 → P (l.drop (first l).2.1) line (acc ++ [((first l).1, l.take (first l).2.1, line)]) r → P l line acc r)
    (h3 : ∀ l line acc, l ≠ [] → gapLen l = 0 → (first l).2.2 ≠ 0 → P l line acc ([], (first l).2.2, line)) :
    ∀ (n : Nat) (l : Bs), l.length ≤ n → ∀ line acc, P l line acc (run l line acc)
  | n, [], _, line, acc => h0 line acc
  | 0, a :: t, h, _, _ => absurd h (by simp)
  | n + 1, a :: t, h, line, acc => by
    have hl : (a :: t) ≠ [] := by simp
    generalize a :: t = l at *
    have hp : 0 < l.length := List.length_pos_iff.2 hl
    by_cases hg : 0 < gapLen l
    · rw [run_gap l line acc hl hg]
      exact h1 l line acc _ hl hg (run_ind h0 h1 h2 h3 n _ (by rw [List.length_drop]; omega) _ _)
    · by_cases her : (first l).2.2 = 0
      · have hpos := first_pos l her
        rw [run_tok l line acc hl (by omega) her]
        exact h2 l line acc _ hl (by omega) her (run_ind h0 h1 h2 h3 n _ (by rw [List.length_drop]; omega) _ _)
      · rw [run_err l line acc hl (by omega) her]
        exact h3 l line acc hl (by omega) her
theorem run_ok_line (l : Bs) (line : Nat) (acc : List T) : (run l line acc).2.1 = 0 → (run l line acc).2.2 = 0 :=
  run_ind (P := fun _ _ _ r => r.2.1 = 0 → r.2.2 = 0) (fun _ _ _ => rfl) (fun _ _ _ _ _ _ h => h) (fun _ _ _ _ _ _ _ h => h) (fun _ _ _ _ _ h he => absurd he h) l.length l (Nat.le_refl _) line acc
theorem run_err_nil (l : Bs) (line : Nat) (acc : List T) : (run l line acc).2.1 ≠ 0 → (run l line acc).1 = [] :=
  run_ind (P := fun _ _ _ r => r.2.1 ≠ 0 → r.1 = []) (fun _ _ h => absurd rfl h) (fun _ _ _ _ _ _ h => h) (fun _ _ _ _ _ _ _ h => h) (fun _ _ _ _ _ _ _ => rfl) l.length l (Nat.le_refl _) line acc
theorem run_lines (l : Bs) (line : Nat) (acc : List T) : (run l line acc).2.2 ≤ line + l.length ∧ ∀ t ∈ (run l line acc).1, t ∈ acc ∨ t.2.2 ≤ line + l.length :=
  run_ind (P := fun l line acc r => r.2.2 ≤ line + l.length ∧ ∀ t ∈ r.1, t ∈ acc ∨ t.2.2 ≤ line + l.length)
    (fun _ _ => ⟨by simp, fun t h => .inl h⟩)
    (fun l line acc r hl hg h => by
      have h1 := lf_le (l.take (gapLen l))
      rw [List.length_take] at h1
      rw [List.length_drop] at h
      have h2 := gapLen_le l
      exact ⟨by omega, fun t ht => (h.2 t ht).imp id (by omega)⟩)
    (fun l line acc r hl hg her h => by
      rw [List.length_drop] at h
      refine ⟨by omega, fun t ht => ?_⟩
      rcases h.2 t ht with h1 | h1
      · rcases List.mem_append.1 h1 with h2 | h2
        · exact .inl h2
        · simp at h2
          subst h2
          exact .inr (by simp)
      · exact .inr (by omega))
    (fun l line acc hl hg her => ⟨by simp, by simp⟩) l.length l (Nat.le_refl _) line acc
/-- A token some lines further down. -/
def sh (d : Nat) (t : T) : T := (t.1, t.2.1, t.2.2 + d)
theorem run_shift (d : Nat) (pre : List T) (l : Bs) (line : Nat) (acc : List T) :
    run l (line + d) (pre ++ acc.map (sh d)) = if (run l line acc).2.1 = 0 then (pre ++ (run l line acc).1.map (sh d), 0, 0) else ([], (run l line acc).2.1, (run l line acc).2.2 + d) :=
  run_ind (P := fun l line acc r => run l (line + d) (pre ++ acc.map (sh d)) = if r.2.1 = 0 then (pre ++ r.1.map (sh d), 0, 0) else ([], r.2.1, r.2.2 + d))
    (fun line acc => by rw [run_nil]; rfl)
    (fun l line acc r hl hg h => by
      rw [run_gap l _ _ hl hg, ← h]
      congr 1
      omega)
    (fun l line acc r hl hg her h => by
      rw [run_tok l _ _ hl hg her, ← h]
      congr 1
      rw [List.map_append, List.append_assoc]
      rfl)
    (fun l line acc hl hg her => by rw [run_err l _ _ hl hg her, if_neg her]) l.length l (Nat.le_refl _) line acc
theorem scan_lines_err1 (a b : Bs) (ha : a.length ≤ 500) (hb : b.length ≤ 500) (h : (scan a).2.1 ≠ 0) : scan (a ++ [10] ++ b) = ([], (scan a).2.1, (scan a).2.2) := by
  rw [scan_run a (by omega)] at h ⊢
  rw [scan_run _ (by simp; omega), List.append_assoc, List.singleton_append, run_feed b a.length a (Nat.le_refl _) 1 [], if_neg h]
  exact Prod.ext (run_err_nil a 1 [] h) rfl
theorem scan_lines_err2 (a b : Bs) (ha : a.length ≤ 500) (hb : b.length ≤ 500) (h : (scan a).2.1 = 0) (h2 : (scan b).2.1 ≠ 0) : scan (a ++ [10] ++ b) = ([], (scan b).2.1, (scan b).2.2 + (1 + lf a)) := by
  rw [scan_run a (by omega)] at h
  rw [scan_run b (by omega)] at h2 ⊢
  rw [scan_run _ (by simp; omega), List.append_assoc, List.singleton_append, run_feed b a.length a (Nat.le_refl _) 1 [], if_pos h]
  have := run_shift (1 + lf a) (run a 1 []).1 b 1 []
  rw [if_neg h2] at this
  rw [List.map_nil, List.append_nil] at this
  rw [← this]
  congr 1
  omega
theorem scan_lines_ok (a b : Bs) (ha : a.length ≤ 500) (hb : b.length ≤ 500) (h : (scan a).2.1 = 0) (h2 : (scan b).2.1 = 0) : scan (a ++ [10] ++ b) = ((scan a).1 ++ (scan b).1.map (sh (1 + lf a)), 0, 0) := by
  rw [scan_run a (by omega)] at h ⊢
  rw [scan_run b (by omega)] at h2 ⊢
  rw [scan_run _ (by simp; omega), List.append_assoc, List.singleton_append, run_feed b a.length a (Nat.le_refl _) 1 [], if_pos h]
  have := run_shift (1 + lf a) (run a 1 []).1 b 1 []
  rw [if_pos h2] at this
  rw [List.map_nil, List.append_nil] at this
  rw [← this]
  congr 1
  omega
theorem scan_line_le (l : Bs) (hl : l.length ≤ 4096) : (scan l).2.2 ≤ 5000 ∧ ∀ t ∈ (scan l).1, t.2.2 ≤ 5000 := by
  rw [scan_run l hl]
  obtain ⟨h1, h2⟩ := run_lines l 1 []
  exact ⟨by omega, fun t ht => by rcases h2 t ht with h | h
                                  · simp at h
                                  · omega⟩
theorem scan_ok_line (l : Bs) (h : (scan l).2.1 = 0) : (scan l).2.2 = 0 := by
  by_cases hl : 4096 < l.length
  · unfold scan
    rw [if_pos hl]
  · rw [scan_run l (by omega)] at h ⊢
    exact run_ok_line l 1 [] h
theorem scan_err_nil (l : Bs) (h : (scan l).2.1 ≠ 0) : (scan l).1 = [] := by
  by_cases hl : 4096 < l.length
  · unfold scan
    rw [if_pos hl]
  · rw [scan_run l (by omega)] at h ⊢
    exact run_err_nil l 1 [] h
theorem lf_take (l : Bs) (k : Nat) (h : k < l.length) : lf (l.take (k + 1)) = lf (l.take k) + if l[k] = 10 then 1 else 0 := by
  unfold lf
  rw [List.take_succ_eq_append_getElem h, List.count_append]
  by_cases e : l[k] = 10
  · rw [if_pos e, e]
    rfl
  · have h0 : List.count (10 : UInt8) [l[k]] = 0 := List.count_eq_zero.2 (fun hm => e (List.mem_singleton.1 hm).symm)
    rw [if_neg e, h0]
end Go.Proofs.YtjinbmemflgkoaaDoor.Tok
