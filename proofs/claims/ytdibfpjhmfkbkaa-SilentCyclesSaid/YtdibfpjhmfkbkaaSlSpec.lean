/-
  Plain: the values of operators, lists of numbers that ascend, the steps of a thread's silent instructions. Nothing of the program stands here.
-/
import Derived.Lib.SlicesCompact
import Derived.RowKit
namespace Go.Proofs.Ytdibfpjhmfkbkaa
open Go.RowKit

namespace Vl
abbrev wr64 (z : Int) : Int := wrap64 z
/-- 1 for what holds, 0 for what doesn't. -/
def tr (b : Bool) : Int := if b = true then 1 else 0
def una (op a : Int) : Option Int := if op = 4 then some (wr64 (-a)) else if op = 5 then some (tr (a == 0)) else none
def quo (a b : Int) : Int := if b = 0 then 0 else wr64 (a.tdiv b)
def rmd (a b : Int) : Int := if b = 0 then 0 else a.tmod b
def bin (op a b : Int) : Option Int :=
  if op = 6 then some (wr64 (a + b)) else if op = 7 then some (wr64 (a - b)) else if op = 8 then some (wr64 (a * b)) else if op = 9 then some (quo a b) else if op = 10 then some (rmd a b)
  else if op = 11 then some (tr (a == b)) else if op = 12 then some (tr (a != b)) else if op = 13 then some (tr (decide (a < b))) else if op = 14 then some (tr (decide (a ≤ b)))
  else if op = 15 then some (tr (decide (b < a))) else if op = 16 then some (tr (decide (b ≤ a))) else if op = 17 then some (tr (a != 0 && b != 0)) else if op = 18 then some (tr (a != 0 || b != 0))
  else none
/-- A result and whether there is one. -/
def res (r : Option Int) : Value := .tuple #[.int .i64 (r.getD 0), .bool r.isSome]
theorem una_none {op a : Int} (h : op < 1 ∨ 100 < op) : una op a = none := by unfold una; rw [if_neg (by omega), if_neg (by omega)]
theorem bin_none {op a b : Int} (h : op < 1 ∨ 100 < op) : bin op a b = none := by unfold bin; repeat (rw [if_neg (by omega)])
theorem una_zero (a : Int) : una 0 a = none := una_none (by omega)
theorem bin_zero (a b : Int) : bin 0 a b = none := bin_none (by omega)
end Vl

namespace Sl
open Vl
def put : List Int → Int → List Int
  | [], n => [n]
  | x :: r, n => if x < n then x :: put r n else if x = n then x :: r else n :: x :: r
/-- The numbers of both lists in ascending order, each once. -/
def uni (a b : List Int) : List Int := (a ++ b).foldl put []
theorem put_mem (x n : Int) : ∀ l, x ∈ put l n ↔ x = n ∨ x ∈ l
  | [] => by simp [put]
  | y :: r => by
    simp only [put]
    split
    · simp only [List.mem_cons, put_mem x n r]
      constructor
      · rintro (h | h | h)
        · exact .inr (.inl h)
        · exact .inl h
        · exact .inr (.inr h)
      · rintro (h | h | h)
        · exact .inr (.inl h)
        · exact .inl h
        · exact .inr (.inr h)
    · split
      · rename_i h
        subst h
        simp
      · simp
theorem put_str (n : Int) : ∀ l : List Int, l.Pairwise (· < ·) → (put l n).Pairwise (· < ·)
  | [], _ => by simp [put]
  | y :: r, h => by
    obtain ⟨h1, h2⟩ := List.pairwise_cons.1 h
    simp only [put]
    split
    · rename_i hy
      refine List.pairwise_cons.2 ⟨fun z hz => ?_, put_str n r h2⟩
      rcases (put_mem z n r).1 hz with rfl | hz
      · exact hy
      · exact h1 z hz
    · split
      · exact h
      · rename_i h3 h4
        refine List.pairwise_cons.2 ⟨fun z hz => ?_, h⟩
        rcases List.mem_cons.1 hz with rfl | hz
        · omega
        · have := h1 z hz
          omega
theorem fold_mem (x : Int) : ∀ l acc : List Int, x ∈ l.foldl put acc ↔ x ∈ l ∨ x ∈ acc
  | [], acc => by simp
  | y :: r, acc => by
    rw [List.foldl_cons, fold_mem x r, put_mem, List.mem_cons]
    constructor
    · rintro (h | h | h)
      · exact .inl (.inr h)
      · exact .inl (.inl h)
      · exact .inr h
    · rintro ((h | h) | h)
      · exact .inr (.inl h)
      · exact .inl h
      · exact .inr (.inr h)
theorem fold_str : ∀ l acc : List Int, acc.Pairwise (· < ·) → (l.foldl put acc).Pairwise (· < ·)
  | [], _, h => h
  | y :: r, acc, h => fold_str r _ (put_str y acc h)
theorem uni_mem (x : Int) (a b : List Int) : x ∈ uni a b ↔ x ∈ a ∨ x ∈ b := by
  unfold uni
  rw [fold_mem]
  simp
theorem uni_str (a b : List Int) : (uni a b).Pairwise (· < ·) := fold_str _ _ List.Pairwise.nil
theorem str_ext : ∀ a b : List Int, a.Pairwise (· < ·) → b.Pairwise (· < ·) → (∀ x, x ∈ a ↔ x ∈ b) → a = b
  | [], [], _, _, _ => rfl
  | [], y :: s, _, _, h => absurd ((h y).2 (by simp)) (by simp)
  | x :: r, [], _, _, h => absurd ((h x).1 (by simp)) (by simp)
  | x :: r, y :: s, ha, hb, h => by
    obtain ⟨a1, a2⟩ := List.pairwise_cons.1 ha
    obtain ⟨b1, b2⟩ := List.pairwise_cons.1 hb
    have exy : x = y := by
      have h1 := (h x).1 (by simp)
      have h2 := (h y).2 (by simp)
      rcases List.mem_cons.1 h1 with h1 | h1
      · exact h1
      · rcases List.mem_cons.1 h2 with h2 | h2
        · exact h2.symm
        · have := b1 x h1
          have := a1 y h2
          omega
    subst exy
    congr 1
    refine str_ext r s a2 b2 fun z => ?_
    constructor
    · intro hz
      have hlt := a1 z hz
      rcases List.mem_cons.1 ((h z).1 (by simp [hz])) with e | e
      · omega
      · exact e
    · intro hz
      have hlt := b1 z hz
      rcases List.mem_cons.1 ((h z).2 (by simp [hz])) with e | e
      · omega
      · exact e
theorem str_len : ∀ (a U : List Int), a.Pairwise (· < ·) → (∀ x ∈ a, x ∈ U) → a.length ≤ U.length
  | [], _, _, _ => by simp
  | x :: r, U, h, hu => by
    obtain ⟨h1, h2⟩ := List.pairwise_cons.1 h
    have hx := hu x (by simp)
    have hl := List.length_erase_of_mem hx
    have hp : 0 < U.length := List.length_pos_of_mem hx
    have := str_len r (U.erase x) h2 fun z hz => by
      have hlt := h1 z hz
      exact (List.mem_erase_of_ne (by omega)).2 (hu z (by simp [hz]))
    simp only [List.length_cons]
    omega
open Go.Lib in
theorem compact_str (zs : List Int) (h : zs.Pairwise (· ≤ ·)) : (compact zs).Pairwise (· < ·) := by
  unfold compact compactUpTo
  rw [List.pairwise_map]
  have h0 : ((List.range zs.length).filter (keeps zs.toArray)).Pairwise (· < ·) := List.Pairwise.filter _ List.pairwise_lt_range
  refine List.Pairwise.imp_of_mem ?_ h0
  intro i j hi hj hij
  have hj1 := List.mem_filter.1 hj
  have hi1 := List.mem_filter.1 hi
  have hjn : j < zs.length := by simpa using hj1.1
  have hk : zs.toArray[j]! ≠ zs.toArray[j - 1]! := by
    have := hj1.2
    simp only [keeps, decide_eq_true_eq] at this
    rcases this with e | e
    · omega
    · exact e
  have hle := List.pairwise_iff_getElem.1 h
  have e1 : zs.toArray[i]! = zs[i] := by rw [getElem!_pos _ i (by simp; omega)]; simp
  have e2 : zs.toArray[j]! = zs[j] := by rw [getElem!_pos _ j (by simpa using hjn)]; simp
  have e3 : zs.toArray[j - 1]! = zs[j - 1] := by rw [getElem!_pos _ (j - 1) (by simp; omega)]; simp
  rw [e2, e3] at hk
  rw [e1, e2]
  have h2 := hle (j - 1) j (by omega) hjn (by omega)
  by_cases hij2 : i = j - 1
  · subst hij2
    omega
  · have h3 := hle i (j - 1) (by omega) (by omega) (by omega)
    omega
open Go.Lib in
theorem compact_mem (x : Int) (zs : List Int) : x ∈ compact zs ↔ x ∈ zs := by
  unfold compact compactUpTo
  simp only [List.mem_map, List.mem_filter, List.mem_range]
  constructor
  · rintro ⟨j, ⟨hj, _⟩, rfl⟩
    rw [getElem!_pos _ j (by simpa using hj)]
    simp
  · intro hx
    obtain ⟨j, hj, hjx⟩ := List.getElem_of_mem hx
    have key : ∀ n, ∀ j, j ≤ n → (h : j < zs.length) → zs[j] = x → ∃ i, (i < zs.length ∧ keeps zs.toArray i = true) ∧ zs.toArray[i]! = x := by
      intro n
      induction n with
      | zero =>
        intro j hn h e
        obtain rfl : j = 0 := by omega
        refine ⟨0, ⟨h, by simp [keeps]⟩, ?_⟩
        rw [getElem!_pos _ 0 (by simpa using h)]
        simpa using e
      | succ n ih =>
        intro j hn h e
        by_cases hk : keeps zs.toArray j = true
        · refine ⟨j, ⟨h, hk⟩, ?_⟩
          rw [getElem!_pos _ j (by simpa using h)]
          simpa using e
        · have hk2 : ¬ (j = 0 ∨ zs.toArray[j]! ≠ zs.toArray[j - 1]!) := by simpa [keeps] using hk
          have hj0 : ¬ j = 0 := fun e => hk2 (.inl e)
          have heq : zs.toArray[j]! = zs.toArray[j - 1]! := by
            by_cases e : zs.toArray[j]! = zs.toArray[j - 1]!
            · exact e
            · exact absurd (.inr e) hk2
          rw [getElem!_pos _ j (by simpa using h), getElem!_pos _ (j - 1) (by simp; omega)] at heq
          refine ih (j - 1) (by omega) (by omega) ?_
          have : zs[j] = zs[j - 1] := by simpa using heq
          rw [← this]
          exact e
    exact key j j (Nat.le_refl _) hj hjx
theorem compact_is (a b : List Int) : Lib.compact ((a ++ b).mergeSort fun x y => decide (x ≤ y)) = uni a b := by
  refine str_ext _ _ (compact_str _ ?_) (uni_str a b) fun x => ?_
  · have := List.pairwise_mergeSort (le := fun x y : Int => decide (x ≤ y)) (fun a b c h1 h2 => by simp only [decide_eq_true_eq] at *; omega) (fun a b => by simp only [Bool.or_eq_true, decide_eq_true_eq]; omega) (a ++ b)
    exact this.imp (by intro x y hxy; simpa using hxy)
  · rw [compact_mem, List.mem_mergeSort, uni_mem, List.mem_append]

/-- An instruction; a state of a thread. -/
structure I where
  op : Int
  a : Int
  b : Int
  c : Int
  n : Int
  site : Int
structure S where
  pc : Int
  ev : Int
  regs : List Int
  taint : List (List Int)
def ins (r : Int) (n : Nat) : Bool := decide (0 ≤ r ∧ r < n)
def S.rg (s : S) (r : Int) : Int := s.regs.getD r.toNat 0
def S.tn (s : S) (r : Int) : List Int := s.taint.getD r.toNat []
def val (i : I) (s : S) : Option (Int × List Int) :=
  if i.op = 1 then some (i.n, [])
  else if i.op = 2 then if ins i.b s.regs.length then some (s.rg i.b, s.tn i.b) else none
  else if i.op = 3 then if ins i.b s.regs.length then (una i.n (s.rg i.b)).map fun v => (v, s.tn i.b) else none
  else if i.op = 4 then if ins i.b s.regs.length && ins i.c s.regs.length then (bin i.n (s.rg i.b) (s.rg i.c)).map fun v => (v, uni (s.tn i.b) (s.tn i.c)) else none
  else none
def stp (i : I) (s : S) : Option S :=
  if i.op = 5 then some ⟨i.a, s.ev, s.regs, s.taint⟩
  else if ins i.a s.regs.length then (val i s).map fun p => ⟨s.pc + 1, s.ev, s.regs.set i.a.toNat p.1, s.taint.set i.a.toNat p.2⟩
  else none
def sil (op : Int) : Bool := decide (1 ≤ op ∧ op ≤ 5)
def zI : I := ⟨0, 0, 0, 0, 0, 0⟩
def go (l : List I) : Nat → S → Option S
  | 0, s => if ins s.pc l.length then if sil (l.getD s.pc.toNat zI).op then none else some s else none
  | k + 1, s => if ins s.pc l.length then if sil (l.getD s.pc.toNat zI).op then (stp (l.getD s.pc.toNat zI) s).bind (go l k) else some s else none
def settle (R : Int) (l : List I) (s : S) : Option S := if (s.regs.length : Int) = R ∧ (s.taint.length : Int) = R then go l l.length s else none
/-- No list is longer than M, and all numbers lie in U. -/
def Fair (M : Nat) (U : List Int) (s : S) : Prop := U.length ≤ M ∧ ∀ t ∈ s.taint, t.length ≤ M ∧ ∀ x ∈ t, x ∈ U
theorem tn_fair {M : Nat} {U : List Int} {s : S} (h : Fair M U s) (r : Int) : (s.tn r).length ≤ M ∧ ∀ x ∈ s.tn r, x ∈ U := by
  unfold S.tn
  rcases Nat.lt_or_ge r.toNat s.taint.length with hl | hl
  · rw [show s.taint.getD r.toNat [] = s.taint[r.toNat] by simp [hl]]
    exact h.2 _ (List.getElem_mem hl)
  · rw [show s.taint.getD r.toNat [] = [] by simp [hl]]
    simp
theorem val_fair {M : Nat} {U : List Int} {s : S} {i : I} {p : Int × List Int} (h : Fair M U s) (hv : val i s = some p) : p.2.length ≤ M ∧ ∀ x ∈ p.2, x ∈ U := by
  unfold val at hv
  split at hv
  · cases hv
    simp
  · split at hv
    · split at hv
      · cases hv
        exact tn_fair h i.b
      · cases hv
    · split at hv
      · split at hv
        · obtain ⟨v, _, rfl⟩ := Option.map_eq_some_iff.1 hv
          exact tn_fair h i.b
        · cases hv
      · split at hv
        · split at hv
          · obtain ⟨v, _, rfl⟩ := Option.map_eq_some_iff.1 hv
            have hm : ∀ x ∈ uni (s.tn i.b) (s.tn i.c), x ∈ U := fun x hx => by
              rcases (uni_mem x _ _).1 hx with e | e
              · exact (tn_fair h i.b).2 x e
              · exact (tn_fair h i.c).2 x e
            exact ⟨Nat.le_trans (str_len _ U (uni_str _ _) hm) h.1, hm⟩
          · cases hv
        · cases hv
theorem stp_fair {M : Nat} {U : List Int} {s s' : S} {i : I} (h : Fair M U s) (hs : stp i s = some s') : Fair M U s' := by
  unfold stp at hs
  split at hs
  · cases hs
    exact h
  · split at hs
    · obtain ⟨p, hp, rfl⟩ := Option.map_eq_some_iff.1 hs
      refine ⟨h.1, fun t ht => ?_⟩
      rcases List.mem_or_eq_of_mem_set ht with ht | rfl
      · exact h.2 t ht
      · exact val_fair h hp
    · cases hs
theorem stp_len {s s' : S} {i : I} (hs : stp i s = some s') : s'.regs.length = s.regs.length ∧ s'.taint.length = s.taint.length := by
  unfold stp at hs
  split at hs
  · cases hs
    exact ⟨rfl, rfl⟩
  · split at hs
    · obtain ⟨p, hp, rfl⟩ := Option.map_eq_some_iff.1 hs
      simp
    · cases hs
end Sl
end Go.Proofs.Ytdibfpjhmfkbkaa
