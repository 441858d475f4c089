/-
  Plain laws of the parser: parentheses around a text of an expression leave no trace.
  The walk of ParseParentheses.
-/
import Derived.Test.YthgicmdaenkjbaaGreatDoorParL
import Derived.Test.YthgicmdaenkjbaaGreatDoorTokLaws4
import Derived.Test.YthgicmdaenkjbaaGreatDoorPstXs
namespace Go.Proofs.YthgicmdaenkjbaaGreatDoor
open Go.RowKit
open Par

namespace Par
open Tok (T Bs)
/-- A reader that reads the same where this token stands behind. -/
def Bh (t : T) {α : Type} (f : Pa α) : Prop := ∀ ts x r, f ts = .ok (x, r) → f (ts ++ [t]) = .ok (x, r ++ [t])
/-- The token is a closing parenthesis. -/
def Rp (t : T) : Prop := t.1 = 4 ∧ t.2.1 = [41]
theorem opAt_bh {ops : List (Bs × Int)} {t : T} (h : ops.lookup t.2.1 = none) (ts : List T) : opAt ops (ts ++ [t]) = (opAt ops ts).map fun p => (p.1, p.2 ++ [t]) := by
  cases ts with
  | nil => simp [opAt, h]
  | cons a r =>
    simp only [List.cons_append, opAt]
    cases ops.lookup a.2.1 <;> rfl
theorem seriesL_bh {t : T} {f : Pa E} {ops : List (Bs × Int)} (h : ops.lookup t.2.1 = none) (hf : Bh t f) (hlt : Lt f) : ∀ (m n : Nat) (e : E) (ts : List T) (x : E) (r : List T), ts.length ≤ m → m ≤ n → seriesL f ops m e ts = .ok (x, r) → seriesL f ops n e (ts ++ [t]) = .ok (x, r ++ [t])
  | 0, n, e, ts, x, r, hm, hn, hs => by
    have : ts = [] := List.eq_nil_of_length_eq_zero (by omega)
    subst this
    simp only [seriesL] at hs
    cases hs
    cases n with
    | zero => rfl
    | succ n => simp [seriesL, opAt, h]
  | m + 1, n, e, ts, x, r, hm, hn, hs => by
    obtain ⟨n, rfl⟩ : ∃ k, n = k + 1 := ⟨n - 1, by omega⟩
    simp only [seriesL, opAt_bh h] at hs ⊢
    cases ho : opAt ops ts with
    | none =>
      rw [ho] at hs
      cases hs
      rfl
    | some p =>
      obtain ⟨o, q⟩ := p
      rw [ho] at hs
      simp only [Option.map_some] at hs ⊢
      cases hq : f q with
      | error _ => rw [hq] at hs; cases hs
      | ok y =>
        obtain ⟨y, q2⟩ := y
        rw [hq] at hs
        rw [hf _ _ _ hq]
        have h1 := opAt_le ho
        have h2 := hlt _ _ _ hq
        exact seriesL_bh h hf hlt m n _ _ _ _ (by omega) (by omega) hs
theorem series_bh {t : T} {f : Pa E} {ops : List (Bs × Int)} (h : ops.lookup t.2.1 = none) (hf : Bh t f) (hlt : Lt f) : Bh t (series f ops) := by
  intro ts x r hs
  simp only [series] at hs ⊢
  cases hq : f ts with
  | error _ => rw [hq] at hs; cases hs
  | ok y =>
    obtain ⟨y, q⟩ := y
    rw [hq] at hs
    rw [hf _ _ _ hq]
    exact seriesL_bh h hf hlt _ _ _ _ _ _ (Nat.le_refl _) (by simp) hs
theorem cmp_bh {t : T} {f : Pa E} (h : cmpOps.lookup t.2.1 = none) (hf : Bh t f) : Bh t (cmp f) := by
  intro ts x r hs
  simp only [cmp] at hs ⊢
  cases hq : f ts with
  | error _ => rw [hq] at hs; cases hs
  | ok y =>
    obtain ⟨y, q⟩ := y
    rw [hq] at hs
    rw [hf _ _ _ hq]
    simp only [opAt_bh h] at hs ⊢
    cases ho : opAt cmpOps q with
    | none =>
      rw [ho] at hs
      cases hs
      rfl
    | some p =>
      obtain ⟨o, q1⟩ := p
      rw [ho] at hs
      simp only [Option.map_some] at hs ⊢
      cases hq2 : f q1 with
      | error _ => rw [hq2] at hs; cases hs
      | ok z =>
        obtain ⟨z, q3⟩ := z
        rw [hq2] at hs
        rw [hf _ _ _ hq2]
        cases hs
        rfl
theorem rp_ops {t : T} (h : Rp t) : mulOps.lookup t.2.1 = none ∧ sumOps.lookup t.2.1 = none ∧ cmpOps.lookup t.2.1 = none ∧ andOps.lookup t.2.1 = none ∧ orOps.lookup t.2.1 = none := by
  rw [h.2]
  decide
theorem series_lt' {f : Pa E} {ops : List (Bs × Int)} (hf : Lt f) : Lt (series f ops) := series_lt hf
theorem exprP_bh {t : T} (h : Rp t) {u : Pa E} (hu : Bh t u) (hlt : Lt u) : Bh t (exprP u) := by
  obtain ⟨h1, h2, h3, h4, h5⟩ := rp_ops h
  have a1 := series_bh h1 hu hlt
  have b1 : Lt (series u mulOps) := series_lt hlt
  have a2 := series_bh h2 a1 b1
  have b2 : Lt (series (series u mulOps) sumOps) := series_lt b1
  have a3 := cmp_bh h3 a2
  have b3 := cmp_lt b2
  have a4 := series_bh h4 a3 b3
  have b4 : Lt (series (cmp (series (series u mulOps) sumOps)) andOps) := series_lt b3
  exact series_bh h5 a4 b4
theorem txt_bh {t : T} (ts : List T) (h : ts ≠ []) : txt (ts ++ [t]) = txt ts ∧ knd (ts ++ [t]) = knd ts ∧ (ts ++ [t]).tail = ts.tail ++ [t] := by
  cases ts with
  | nil => exact absurd rfl h
  | cons a r => exact ⟨rfl, rfl, rfl⟩
theorem expect_bh {t : T} {s : Bs} (hs0 : s ≠ []) {ts r : List T} (h : expect s ts = .ok r) : expect s (ts ++ [t]) = .ok (r ++ [t]) := by
  simp only [expect] at h ⊢
  split at h
  · rename_i h1
    have hne := ne_of_txt h1 hs0
    obtain ⟨e1, _, e3⟩ := txt_bh (t := t) ts hne
    rw [e1, if_pos h1, e3]
    cases h
    rfl
  · cases h
theorem closed_bh {t : T} {f : Pa E} {s : Bs} (hs0 : s ≠ []) (hf : Bh t f) : Bh t (closed f s) := by
  intro ts x r h
  simp only [closed] at h ⊢
  cases hq : f ts with
  | error _ => rw [hq] at h; cases h
  | ok y =>
    obtain ⟨y, q⟩ := y
    rw [hq] at h
    rw [hf _ _ _ hq]
    simp only at h ⊢
    cases he : expect s q with
    | error _ => rw [he] at h; cases h
    | ok q2 =>
      rw [he] at h
      rw [expect_bh hs0 he]
      cases h
      rfl
theorem index_bh {t : T} (ht : Rp t) {f : Pa E} (hf : Bh t f) : Bh t (index f) := by
  intro ts x r h
  simp only [index] at h ⊢
  split at h
  · rename_i h1
    obtain ⟨e1, _, e3⟩ := txt_bh (t := t) ts (ne_of_txt h1 (by simp))
    rw [e1, if_pos h1, e3]
    cases hq : closed f [93] ts.tail with
    | error _ => rw [hq] at h; cases h
    | ok y =>
      obtain ⟨y, q⟩ := y
      rw [hq] at h
      rw [closed_bh (by simp) hf _ _ _ hq]
      cases h
      rfl
  · rename_i h1
    have : txt (ts ++ [t]) ≠ [91] := by
      cases ts with
      | nil => simp [txt, ht.2]
      | cons a r => exact h1
    rw [if_neg this]
    cases h
    rfl
theorem number_bh {t : T} {n : Nat} {ts : List T} {x : Nat} {r : List T} (h : number n ts = .ok (x, r)) : number n (ts ++ [t]) = .ok (x, r ++ [t]) := by
  simp only [number] at h ⊢
  split at h
  · rename_i h1
    have hne : ts ≠ [] := by rintro rfl; simp [knd] at h1
    obtain ⟨e1, e2, e3⟩ := txt_bh (t := t) ts hne
    rw [e1, e2, e3, if_pos h1]
    cases h
    rfl
  · cases h
theorem primary_bh {t : T} (ht : Rp t) {f : Pa E} (hf : Bh t f) : Bh t (primary f) := by
  intro ts x r h
  simp only [primary] at h ⊢
  split at h
  · rename_i hk
    have hne : ts ≠ [] := by rintro rfl; simp [knd] at hk
    obtain ⟨e1, e2, e3⟩ := txt_bh (t := t) ts hne
    rw [e2, if_pos hk]
    simp only [named] at h ⊢
    rw [e1, e3]
    cases hq : index f ts.tail with
    | error _ => rw [hq] at h; cases h
    | ok y =>
      obtain ⟨y, q⟩ := y
      rw [hq] at h
      rw [index_bh ht hf _ _ _ hq]
      cases h
      rfl
  · rename_i hk
    split at h
    · rename_i hp
      obtain ⟨e1, e2, e3⟩ := txt_bh (t := t) ts (ne_of_txt hp (by simp))
      rw [e2, if_neg hk, e1, if_pos hp, e3]
      exact closed_bh (by simp) hf _ _ _ h
    · rename_i hp
      cases hq : number 0 ts with
      | error _ => rw [hq] at h; cases h
      | ok y =>
        obtain ⟨n, q⟩ := y
        have hne : ts ≠ [] := by
          rintro rfl
          simp [number, knd] at hq
        obtain ⟨e1, e2, e3⟩ := txt_bh (t := t) ts hne
        rw [e2, if_neg hk, e1, if_neg hp, number_bh hq]
        rw [hq] at h
        cases h
        rfl
theorem signed_bh {t : T} {f : Pa E} {o : Int} (hf : Bh t f) : Bh t (signed f o) := by
  intro ts x r h
  simp only [signed] at h ⊢
  cases hq : f ts with
  | error _ => rw [hq] at h; cases h
  | ok y =>
    obtain ⟨y, q⟩ := y
    rw [hq] at h
    rw [hf _ _ _ hq]
    cases h
    rfl
theorem unaryF_bh {t : T} (ht : Rp t) : ∀ n, Bh t (unaryF n)
  | 0 => by intro ts x r h; simp [unaryF] at h
  | n + 1 => by
    have ih := unaryF_bh ht n
    intro ts x r h
    simp only [unaryF] at h ⊢
    split at h
    · rename_i h1
      obtain ⟨e1, e2, e3⟩ := txt_bh (t := t) ts (ne_of_txt h1 (by simp))
      rw [e1, if_pos h1, e3]
      exact signed_bh ih _ _ _ h
    · rename_i h1
      split at h
      · rename_i h2
        obtain ⟨e1, e2, e3⟩ := txt_bh (t := t) ts (ne_of_txt h2 (by simp))
        rw [e1, if_neg h1, if_pos h2, e3]
        exact signed_bh ih _ _ _ h
      · rename_i h2
        have hne : ts ≠ [] := by
          rintro rfl
          simp [primary, knd, txt, number] at h
        obtain ⟨e1, e2, e3⟩ := txt_bh (t := t) ts hne
        rw [e1, if_neg h1, if_neg h2]
        exact primary_bh ht (exprP_bh ht ih (unaryF_lt n)) _ _ _ h

/-- What one reader reads the other reads as well. -/
def Sub {α : Type} (f g : Pa α) : Prop := ∀ ts p, f ts = .ok p → g ts = .ok p
theorem seriesL_sub {f g : Pa E} {ops : List (Bs × Int)} (h : Sub f g) : ∀ (n : Nat) (e : E), Sub (seriesL f ops n e) (seriesL g ops n e)
  | 0, e, ts, p, hs => hs
  | n + 1, e, ts, p, hs => by
    simp only [seriesL] at hs ⊢
    cases ho : opAt ops ts with
    | none => rw [ho] at hs; exact hs
    | some q =>
      obtain ⟨o, q⟩ := q
      rw [ho] at hs
      simp only at hs ⊢
      cases hq : f q with
      | error _ => rw [hq] at hs; cases hs
      | ok y =>
        rw [hq] at hs
        rw [h _ _ hq]
        exact seriesL_sub h n _ _ _ hs
theorem series_sub {f g : Pa E} {ops : List (Bs × Int)} (h : Sub f g) : Sub (series f ops) (series g ops) := by
  intro ts p hs
  simp only [series] at hs ⊢
  cases hq : f ts with
  | error _ => rw [hq] at hs; cases hs
  | ok y =>
    rw [hq] at hs
    rw [h _ _ hq]
    exact seriesL_sub h _ _ _ _ hs
theorem cmp_sub {f g : Pa E} (h : Sub f g) : Sub (cmp f) (cmp g) := by
  intro ts p hs
  simp only [cmp] at hs ⊢
  cases hq : f ts with
  | error _ => rw [hq] at hs; cases hs
  | ok y =>
    rw [hq] at hs
    rw [h _ _ hq]
    simp only at hs ⊢
    cases ho : opAt cmpOps y.2 with
    | none => rw [ho] at hs; exact hs
    | some q =>
      rw [ho] at hs
      simp only at hs ⊢
      cases hq2 : f q.2 with
      | error _ => rw [hq2] at hs; cases hs
      | ok z =>
        rw [hq2] at hs
        rw [h _ _ hq2]
        exact hs
theorem exprP_sub {f g : Pa E} (h : Sub f g) : Sub (exprP f) (exprP g) := series_sub (series_sub (cmp_sub (series_sub (series_sub h))))
theorem closed_sub {f g : Pa E} {s : Bs} (h : Sub f g) : Sub (closed f s) (closed g s) := by
  intro ts p hs
  simp only [closed] at hs ⊢
  cases hq : f ts with
  | error _ => rw [hq] at hs; cases hs
  | ok y =>
    rw [hq] at hs
    rw [h _ _ hq]
    exact hs
theorem index_sub {f g : Pa E} (h : Sub f g) : Sub (index f) (index g) := by
  intro ts p hs
  simp only [index] at hs ⊢
  split
  · rename_i h1
    rw [if_pos h1] at hs
    cases hq : closed f [93] ts.tail with
    | error _ => rw [hq] at hs; cases hs
    | ok y =>
      rw [hq] at hs
      rw [closed_sub h _ _ hq]
      exact hs
  · rename_i h1
    rw [if_neg h1] at hs
    exact hs
theorem primary_sub {f g : Pa E} (h : Sub f g) : Sub (primary f) (primary g) := by
  intro ts p hs
  unfold primary at hs ⊢
  by_cases hk : knd ts = 1
  · rw [if_pos hk] at hs ⊢
    unfold named at hs ⊢
    cases hq : index f ts.tail with
    | error _ => rw [hq] at hs; cases hs
    | ok y =>
      rw [hq] at hs
      rw [index_sub h _ _ hq]
      exact hs
  · rw [if_neg hk] at hs ⊢
    by_cases h1 : txt ts = [40]
    · rw [if_pos h1] at hs ⊢
      exact closed_sub h _ _ hs
    · rw [if_neg h1] at hs ⊢
      exact hs
theorem signed_sub {f g : Pa E} {o : Int} (h : Sub f g) : Sub (signed f o) (signed g o) := by
  intro ts p hs
  simp only [signed] at hs ⊢
  cases hq : f ts with
  | error _ => rw [hq] at hs; cases hs
  | ok y =>
    rw [hq] at hs
    rw [h _ _ hq]
    exact hs
theorem unaryF_sub : ∀ (m n : Nat), m ≤ n → Sub (unaryF m) (unaryF n)
  | 0, n, _ => by intro ts p hs; simp [unaryF] at hs
  | m + 1, n, hmn => by
    obtain ⟨n, rfl⟩ : ∃ k, n = k + 1 := ⟨n - 1, by omega⟩
    have ih := unaryF_sub m n (by omega)
    intro ts p hs
    simp only [unaryF] at hs ⊢
    split
    · rename_i h1
      rw [if_pos h1] at hs
      exact signed_sub ih _ _ hs
    · rename_i h1
      rw [if_neg h1] at hs
      split
      · rename_i h2
        rw [if_pos h2] at hs
        exact signed_sub ih _ _ hs
      · rename_i h2
        rw [if_neg h2] at hs
        exact primary_sub (exprP_sub ih) _ _ hs
theorem series_end {f : Pa E} {ops : List (Bs × Int)} {ts : List T} {x : E} (h : f ts = .ok (x, [])) : series f ops ts = .ok (x, []) := by
  unfold series
  rw [h]
  rfl
theorem cmp_end {f : Pa E} {ts : List T} {x : E} (h : f ts = .ok (x, [])) : cmp f ts = .ok (x, []) := by
  unfold cmp
  rw [h]
  rfl
theorem exprP_primary {u : Pa E} {ts : List T} {x : E} (h : u ts = .ok (x, [])) : exprP u ts = .ok (x, []) :=
  series_end (series_end (cmp_end (series_end (series_end h))))
theorem unary_lp {n : Nat} {lp : T} {r : List T} (hl : lp.1 = 4 ∧ lp.2.1 = [40]) : unaryF (n + 1) (lp :: r) = closed (exprP (unaryF n)) [41] r := by
  have t1 : txt (lp :: r) = [40] := hl.2
  have t2 : knd (lp :: r) = 4 := hl.1
  simp only [unaryF]
  rw [if_neg (by rw [t1]; decide), if_neg (by rw [t1]; decide)]
  unfold primary
  rw [if_neg (by rw [t2]; decide), if_pos t1]
  rfl
/-- What the tokens of a whole expression spell, in parentheses. -/
theorem paren_toks {ts : List T} {x : E} {lp rp : T} (hl : lp.1 = 4 ∧ lp.2.1 = [40]) (hr : Rp rp) (h : exprP (unaryF (ts.length + 1)) ts = .ok (x, [])) :
    exprP (unaryF ((lp :: (ts ++ [rp])).length + 1)) (lp :: (ts ++ [rp])) = .ok (x, []) := by
  have h1 : exprP (unaryF (ts.length + 2)) (ts ++ [rp]) = .ok (x, [rp]) := by
    have := exprP_sub (unaryF_sub _ (ts.length + 2) (by omega)) _ _ h
    exact exprP_bh hr (unaryF_bh hr _) (unaryF_lt _) _ _ _ this
  have hlen : (lp :: (ts ++ [rp])).length + 1 = (ts.length + 2) + 1 := by simp
  rw [hlen]
  refine exprP_primary ?_
  rw [unary_lp hl]
  unfold closed
  rw [h1]
  have : expect [41] [rp] = .ok [] := by
    unfold expect
    rw [if_pos (show txt [rp] = [41] from hr.2)]
    rfl
  simp only [this]
end Par
namespace Tok
theorem run_paren (l : Bs) (line : Nat) (acc : List T) : run (40 :: l) line acc = run l line (acc ++ [(4, [40], line)]) := by
  have hw : wordLen (40 :: l) = 0 := by simp [wordLen, isLetter]
  have hd : digLen (40 :: l) = 0 := by simp [digLen, isDigit]
  have h2 : ∀ b : UInt8, signs2.contains [40, b] = false := by
    intro b
    simp [signs2]
  have hs : signLen (40 :: l) = 1 := by
    unfold signLen
    have : signs2.contains ((40 :: l).take 2) = false := by
      cases l with
      | nil => decide
      | cons b r => exact h2 b
    rw [this]
    rfl
  have hf : first (40 :: l) = (4, 1, 0) := by
    unfold first
    rw [hw, hd, hs]
    rfl
  have hg : gapLen (40 :: l) = 0 := by simp [gapLen]
  rw [run_tok _ _ _ (by simp) hg (by rw [hf]), hf]
  rfl
theorem run_close (line : Nat) (acc : List T) : run [41] line acc = (acc ++ [(4, [41], line)], 0, 0) := by
  have hf : first [41] = (4, 1, 0) := by rfl
  have hg : gapLen [41] = 0 := by simp [gapLen]
  rw [run_tok _ _ _ (by simp) hg (by rw [hf]), hf]
  rfl
theorem sh_zero (ts : List T) : ts.map (sh 0) = ts := by
  have : sh 0 = id := by
    funext t
    rfl
  rw [this, List.map_id]
theorem scan_paren (l : Bs) (hl : l.length ≤ 1000) (h : (scan l).2.1 = 0) : scan ([40] ++ l ++ [10, 41]) = (((4, [40], 1) : T) :: ((scan l).1 ++ [(4, [41], 1 + lf l + 1)]), 0, 0) := by
  rw [scan_run l (by omega)] at h ⊢
  have e : [40] ++ l ++ [10, 41] = (40 : UInt8) :: (l ++ 10 :: [41]) := by simp
  have hs := run_shift 0 [((4, [40], 1) : T)] l 1 []
  rw [if_pos h, List.map_nil, List.append_nil, sh_zero, Nat.add_zero] at hs
  rw [scan_run _ (by simp; omega), e, run_paren, List.nil_append, run_feed [41] l.length l (Nat.le_refl _) 1 _, hs, if_pos rfl, run_close]
  simp
end Tok
namespace Par
open Tok (T Bs)
/-- The text of an expression in parentheses, with a line feed ahead of the closing one, is that expression. -/
theorem exprOut_paren (s : Bs) (hl : s.length ≤ 1000) (h : (exprOut s).2.1 = 0) : exprOut ([40] ++ s ++ [10, 41]) = ((exprOut s).1, 0, 0) := by
  unfold exprOut at h
  split at h
  · rename_i he
    have hsc := Tok.scan_paren s hl he
    unfold allOf at h
    split at h
    · simp at h
    · rename_i x q hx
      split at h
      · rename_i hq
        subst hq
        have h2 := paren_toks (lp := (4, [40], 1)) (rp := (4, [41], 1 + Tok.lf s + 1)) ⟨rfl, rfl⟩ ⟨rfl, rfl⟩ hx
        have e1 : exprOut s = (x, 0, 0) := by unfold exprOut; rw [if_pos he]; unfold allOf; rw [hx]; simp
        rw [e1]
        unfold exprOut
        rw [hsc, if_pos rfl]
        unfold allOf
        rw [h2]
        simp
      · simp at h
  · rename_i he
    exact absurd h he
end Par
end Go.Proofs.YthgicmdaenkjbaaGreatDoor

namespace Go.Proofs.YthgicmdaenkjbaaGreatDoor
open Go.RowKit
open Par

namespace Par
open Tok (T Bs)
theorem bytes_paren (t : ByteArray) : ((⟨#[40]⟩ ++ t) ++ ⟨#[10, 41]⟩ : ByteArray).data.toList = [40] ++ t.data.toList ++ [10, 41] := by
  rw [app_data, app_data]
end Par

set_option maxHeartbeats 4000000 in
set_option maxRecDepth 100000 in
theorem parseParentheses_any (A : Option Addr) (len cap : Nat) (xs : List Nat) (w : World) (hv : (Two w ∧ FieldsOf w) ∧ TabN w) (hx : BytesOf w A len xs) :
    Calls Tryz.prog 9 #[.slice A len cap] w fun e w' => e = .returned (.bool true) ∧ Below w.heap.size w w' := by
  have HV := Lib.hid hv.1.1
  have HF := Lib.hid hv.1.2
  have HT := Lib.hid hv.2
  have CM := Lib.hid (madeExpr_any w A len cap xs hx)
  clear hx hv
  go_enter Tryz.func9, Tryz.ntmps9
  go_wp2_with fail
  go_at_call 23
  refine CM.out.mono ?_
  rintro e w1 ⟨op0, n0, nm0, a0, len0, cap0, rfl, hb1, x0, hx0, hxb0, hr0⟩
  go_wp2_with fail
  go_at_call 22
  refine (rx_some hx0 hxb0 (HT.out.below hb1) hr0).mono ?_
  rintro e w2 ⟨t1, ht1, rfl, hb2⟩
  have hB2 := hb1.trans (hb2.mono hb1.size)
  clear hr0 hb1 hb2
  by_cases hbig : 1000 < t1.size
  · go_wp2_with fail
    go_ret
    exact ⟨rfl, hB2⟩
  · have hs1 : t1.size ≤ maxLen := by unfold maxLen; omega
    have hbk := bytes_paren t1
    have hpar := exprOut_paren t1.data.toList (by have : t1.data.toList.length = t1.size := by simp
                                                  omega)
    have hok := Lib.hid (exprOut_ok t1.data.toList)
    have C1 := Lib.hid (fun w h => expr_any t1 w h hs1)
    have C2 := Lib.hid (fun w h => expr_any ((⟨#[40]⟩ ++ t1) ++ ⟨#[10, 41]⟩) w h (by
      have e1 : (⟨#[40]⟩ : ByteArray).size = 1 := rfl
      have e2 : (⟨#[10, 41]⟩ : ByteArray).size = 2 := rfl
      unfold maxLen
      simp
      omega))
    unfold PostX at C1 C2
    rw [hbk] at C2
    obtain ⟨out, hout⟩ : ∃ out, out = exprOut t1.data.toList := ⟨_, rfl⟩
    rw [← hout] at C1 hpar hok
    obtain ⟨x, er, ln⟩ := out
    have HV2 := Lib.hid (HV.out.below hB2)
    have HF2 := Lib.hid (HF.out.below hB2)
    have HB2 := Lib.hid hB2
    clear hbk hout hB2
    by_cases he : er = 0
    · have hp := hpar he
      rw [hp] at C2
      subst he
      clear hpar hp
      go_wp2_with fail
      go_at_call 24
      refine (C1.out _ HV2.out).mono ?_
      rintro e w3 ⟨op1, n1, nm1, a1, len1, cap1, rfl, hb3, hr3⟩
      have z3 := hb3.size
      go_wp2_with fail
      go_at_call 24
      refine (C2.out _ ((HV2.out.below hb3).below ((Below.refl _ _).alloc (Nat.le_refl _) _))).mono ?_
      rintro e w5 ⟨op2, n2, nm2, a2, len2, cap2, rfl, hb5, hr2⟩
      have z2 := hb5.size
      simp at z2
      have hal := (Below.refl w5.heap.size w5).alloc (Nat.le_refl _) (.cells #[.int .i64 op2, .int .i64 n2, .string nm2, .slice a2 len2 cap2] 41)
      have hal1 := (Below.refl w3.heap.size w3).alloc (Nat.le_refl _) (.cells #[.int .i64 op1, .int .i64 n1, .string nm1, .slice a1 len1 cap1] 41)
      have hb12 := hal1.trans (hb5.mono (by simp))
      have hb22 := hb12.trans (hal.mono hb12.size)
      have x0 := (hal.cell (p := ⟨w3.heap.size, 0, none⟩) (by show w3.heap.size < w5.heap.size; omega)).trans ((hb5.cell (p := ⟨w3.heap.size, 0, none⟩) (by simp)).trans (World.cell?_alloc_at _ _ _ _ (by simp)))
      have x1 := (hal.cell (p := ⟨w3.heap.size, 1, none⟩) (by show w3.heap.size < w5.heap.size; omega)).trans ((hb5.cell (p := ⟨w3.heap.size, 1, none⟩) (by simp)).trans (World.cell?_alloc_at _ _ _ _ (by simp)))
      have x2 := (hal.cell (p := ⟨w3.heap.size, 2, none⟩) (by show w3.heap.size < w5.heap.size; omega)).trans ((hb5.cell (p := ⟨w3.heap.size, 2, none⟩) (by simp)).trans (World.cell?_alloc_at _ _ _ _ (by simp)))
      have x3 := (hal.cell (p := ⟨w3.heap.size, 3, none⟩) (by show w3.heap.size < w5.heap.size; omega)).trans ((hb5.cell (p := ⟨w3.heap.size, 3, none⟩) (by simp)).trans (World.cell?_alloc_at _ _ _ _ (by simp)))
      simp at x0 x1 x2 x3
      go_wp2_with (first
        | (go_at_call 26; refine (same_any _ _ x.ht x _ _ _ (Nat.le_refl _) hok.out (hr3.below hb22) (hr2.below hal)).mono ?_; rintro e w6 ⟨rfl, hb6⟩)
        | (go_at_call 18; refine (awake_any _ (((HV2.out.below hb3).below hb22).below hb6) (((HF2.out.below hb3).below hb22).below hb6)).mono ?_; rintro e w7 ⟨rfl, hb7⟩))
      go_ret
      have z6 := hb6.size
      simp at z6
      refine ⟨rfl, HB2.out.trans ((hb3.trans (Below.mono (B := w3.heap.size) ?_ z3)).mono HB2.out.size)⟩
      exact (hb22.trans (hb6.mono (by simp; omega))).trans (hb7.mono (by omega))
    · have hne : (((er : Nat) : Int) != 0) = true := by simpa using he
      have hne2 : (((er : Nat) : Int) == 0) = false := by simpa using he
      clear hpar C2
      go_wp2_with (first
        | (go_at_call 24; refine (C1.out _ HV2.out).mono ?_; rintro e w3 ⟨op1, n1, nm1, a1, len1, cap1, rfl, hb3, hr3⟩)
        | (go_at_call 18; refine (awake_any _ ((HV2.out.below hb3).below ((Below.refl _ _).alloc (Nat.le_refl _) _)) ((HF2.out.below hb3).below ((Below.refl _ _).alloc (Nat.le_refl _) _))).mono ?_; rintro e w4 ⟨rfl, hb4⟩))
      go_ret
      exact ⟨rfl, HB2.out.trans ((hb3.trans (((Below.refl _ _).alloc (Nat.le_refl _) _ |>.trans (hb4.mono (by simp))).mono hb3.size)).mono HB2.out.size)⟩
end Go.Proofs.YthgicmdaenkjbaaGreatDoor
