/-
  Lists of declarations and of threads: plain laws, and how they lie in memory.
-/
import Derived.Test.YteekcepbogndlaaGreatDoorPstN
import Derived.Test.YteekcepbogndlaaGreatDoorPstB
namespace Go.Proofs.YteekcepbogndlaaGreatDoor
open Go.RowKit
open Par

namespace Par
open Tok (T Bs)
theorem lt_andThen {α β : Type} {f : Pa α} {g : α → Pa β} (hf : Lt f) (hg : ∀ a, Mon (g a)) : Lt (andThen f g) := by
  intro ts b r h
  simp only [andThen] at h
  split at h
  · cases h
  · rename_i a q hq
    exact Nat.lt_of_le_of_lt ((hg a).1 _ _ _ h) (hf _ _ _ hq)
theorem exp_lt {s : Bs} (hs : s ≠ []) : Lt (exp s) := by
  intro ts a r h
  simp only [exp] at h
  split at h
  · rename_i hk
    cases h
    exact tail_lt (by rintro rfl; exact hs hk.symm)
  · cases h
theorem mon_number (n : Nat) : Mon (number n) := ⟨fun ts a r h => Nat.le_of_lt (number_lt n ts a r h), number_er n⟩
theorem mon_sizeP : Mon sizeP := by
  have hm : Mon (andThen (number 1) (fun n => andThen (exp [93]) fun _ => give n)) := mon_andThen (mon_number 1) fun _ => mon_andThen (mon_exp _) fun _ => mon_give _
  constructor
  · intro ts a r h
    simp only [sizeP] at h
    split at h
    · exact Nat.le_trans (hm.1 _ _ _ h) (tail_le _)
    · cases h; exact Nat.le_refl _
  · intro ts q h
    simp only [sizeP] at h
    split at h
    · exact Nat.le_trans (hm.2 _ _ h) (tail_le _)
    · cases h
theorem mon_initP : Mon initP := by
  have h1 : Mon (andThen (number 0) (fun n => give (-(n : Int)))) := mon_andThen (mon_number 0) fun _ => mon_give _
  have h2 : Mon (andThen (number 0) (fun n => give (n : Int))) := mon_andThen (mon_number 0) fun _ => mon_give _
  constructor
  · intro ts a r h
    simp only [initP] at h
    split at h
    · split at h
      · exact Nat.le_trans (h1.1 _ _ _ h) (Nat.le_trans (tail_le _) (tail_le _))
      · exact Nat.le_trans (h2.1 _ _ _ h) (tail_le _)
    · cases h; exact Nat.le_refl _
  · intro ts q h
    simp only [initP] at h
    split at h
    · split at h
      · exact Nat.le_trans (h1.2 _ _ h) (Nat.le_trans (tail_le _) (tail_le _))
      · exact Nat.le_trans (h2.2 _ _ h) (tail_le _)
    · cases h
theorem mon_declRest (k line : Nat) (nm : Bs) : Mon (declRest k line nm) := by
  unfold declRest
  split
  · exact mon_andThen mon_sizeP fun _ => mon_andThen mon_initP fun _ => mon_give _
  · split
    · exact mon_andThen mon_initP fun _ => mon_give _
    · split
      · exact mon_andThen mon_nameP fun _ => mon_give _
      · exact mon_give _
theorem declP_lt : Lt declP := by
  intro ts a r h
  exact Nat.lt_of_lt_of_le ((lt_andThen nameP_lt fun nm => mon_andThen (mon_declRest (declKind (txt ts)) (lineOf ts) nm) fun _ => mon_andThen (mon_exp _) fun _ => mon_give _) ts.tail a r h) (tail_le _)
theorem declP_er : Er declP := by
  intro ts q h
  exact Nat.le_trans ((mon_andThen mon_nameP fun nm => mon_andThen (mon_declRest (declKind (txt ts)) (lineOf ts) nm) fun _ => mon_andThen (mon_exp _) fun _ => mon_give _).2 ts.tail q h) (tail_le _)
theorem threadP_lt (n : Nat) : Lt (threadP n) := fun ts a r h =>
  lt_andThen (exp_lt (s := [116, 104, 114, 101, 97, 100]) (by decide)) (fun _ => mon_andThen mon_nameP fun nm => mon_andThen mon_localsP fun l => mon_andThen (mon_blockP (stmtF_mon n)) fun b => mon_give (⟨nm, lineOf ts, l, b⟩ : Th)) ts a r h
theorem threadP_er (n : Nat) : Er (threadP n) := fun ts q h =>
  (mon_andThen (mon_exp [116, 104, 114, 101, 97, 100]) (fun _ => mon_andThen mon_nameP fun nm => mon_andThen mon_localsP fun l => mon_andThen (mon_blockP (stmtF_mon n)) fun b => mon_give (⟨nm, lineOf ts, l, b⟩ : Th))).2 ts q h

/-- What f reads, as long as the next token is one of c's. -/
def many {α : Type} (c : Bs → Bool) (f : Pa α) : Nat → List α → Pa (List α)
  | 0, acc, ts => .ok (acc, ts)
  | n + 1, acc, ts => if c (txt ts) = true then match f ts with
      | .error q => .error q
      | .ok (a, r) => many c f n (acc ++ [a]) r
    else .ok (acc, ts)
def isDecl (b : Bs) : Bool := declKind b != 0
def isThread (b : Bs) : Bool := b == [116, 104, 114, 101, 97, 100]
theorem declsL_many : ∀ n acc ts, declsL n acc ts = many isDecl declP n acc ts
  | 0, _, _ => rfl
  | n + 1, acc, ts => by
    by_cases h : declKind (txt ts) = 0
    · simp [declsL, many, isDecl, h]
    · simp only [declsL, many, isDecl, h, if_false, bne_iff_ne, ne_eq, not_false_eq_true, if_true]
      split <;> simp_all [declsL_many n]
theorem threadsL_many (m : Nat) : ∀ n acc ts, threadsL m n acc ts = many isThread (threadP m) n acc ts
  | 0, _, _ => rfl
  | n + 1, acc, ts => by
    by_cases h : txt ts = [116, 104, 114, 101, 97, 100]
    · simp only [threadsL, many, isThread, h, if_true, beq_self_eq_true]
      split <;> simp_all [threadsL_many m n]
    · simp [threadsL, many, isThread, h]
/-- What is known at the head of such a loop in state st2 when the list read so far has the property R. -/
def Many {α : Type} (c : Bs → Bool) (f : Pa α) (a0 : List α) (st0 : St) (R : List α → Prop) : St → Prop
  | .off q => after (fun ts => many c f ts.length a0 ts) st0 = .off q ∧ val (fun ts => many c f ts.length a0 ts) st0 = none
  | .on q => ∃ acc m, q.length ≤ m ∧ R acc ∧ after (fun ts => many c f ts.length a0 ts) st0 = after (many c f m acc) (.on q) ∧ val (fun ts => many c f ts.length a0 ts) st0 = val (many c f m acc) (.on q)
theorem many_start {α : Type} (c : Bs → Bool) (f : Pa α) (a0 : List α) (st0 : St) (R : List α → Prop) (h : ∀ q, st0 = .on q → R a0) : Many c f a0 st0 R st0 := by
  cases st0 with
  | off q => exact ⟨rfl, rfl⟩
  | on q => exact ⟨a0, q.length, Nat.le_refl _, h q rfl, rfl, rfl⟩
theorem many_end {α : Type} {c : Bs → Bool} {f : Pa α} {a0 : List α} {st0 st2 : St} {R : List α → Prop} (h : Many c f a0 st0 R st2) (hc : c (txt st2.see) = false) :
    after (fun ts => many c f ts.length a0 ts) st0 = st2 ∧ ∀ l, val (fun ts => many c f ts.length a0 ts) st0 = some l → R l := by
  cases st2 with
  | off q => exact ⟨h.1, fun l hl => by rw [h.2] at hl; cases hl⟩
  | on q =>
    obtain ⟨acc, m, hm, hR, h1, h2⟩ := h
    have e : many c f m acc q = .ok (acc, q) := by
      have hc2 : c (txt q) = false := hc
      cases m with
      | zero => rfl
      | succ j => simp [many, hc2]
    rw [h1, h2]
    exact ⟨by simp [after, e], fun l hl => by simp only [val, e] at hl; cases hl; exact hR⟩
theorem many_step {α : Type} {c : Bs → Bool} {f : Pa α} (hf : Lt f) (hc0 : c [] = false) {a0 : List α} {st0 : St} {q : List T} {R R' : List α → Prop} (h : Many c f a0 st0 R (.on q)) (hc : c (txt q) = true)
    (hR : ∀ acc a, R acc → val f (.on q) = some a → R' (acc ++ [a])) : Many c f a0 st0 R' (after f (.on q)) := by
  obtain ⟨acc, m, hm, h1, h3, h4⟩ := h
  have hq : q ≠ [] := by rintro rfl; rw [show txt [] = ([] : Bs) from rfl, hc0] at hc; cases hc
  have hq0 : 0 < q.length := List.length_pos_iff.2 hq
  obtain ⟨j, rfl⟩ : ∃ j, m = j + 1 := ⟨m - 1, by omega⟩
  cases hx : f q with
  | error q2 =>
    have e : many c f (j + 1) acc q = .error q2 := by simp [many, hc, hx]
    have e1 : after f (.on q) = .off q2 := by simp [after, hx]
    rw [e1]
    exact ⟨by rw [h3]; simp [after, e], by rw [h4]; simp [val, e]⟩
  | ok p =>
    obtain ⟨s, q2⟩ := p
    have e : many c f (j + 1) acc q = many c f j (acc ++ [s]) q2 := by simp [many, hc, hx]
    have e1 : after f (.on q) = .on q2 := by simp [after, hx]
    have hlt := hf _ _ _ hx
    rw [e1]
    exact ⟨acc ++ [s], j, by omega, hR acc s h1 (by simp [val, hx]), by rw [h3]; simp [after, e], by rw [h4]; simp [val, e]⟩
def T0 : Th := ⟨[], 0, [], []⟩
/-- A program's declarations, its first thread, its other threads. -/
theorem prog_split (m : Nat) (st : St) :
    after (progP m) st = after (fun ts => many isThread (threadP m) ts.length [(val (threadP m) (after (fun ts => many isDecl declP ts.length [] ts) st)).getD T0] ts) (after (threadP m) (after (fun ts => many isDecl declP ts.length [] ts) st)) ∧
    ∀ pg, val (progP m) st = some pg → ∃ ds t l, val (fun ts => many isDecl declP ts.length [] ts) st = some ds ∧ val (threadP m) (after (fun ts => many isDecl declP ts.length [] ts) st) = some t ∧
      val (fun ts => many isThread (threadP m) ts.length [t] ts) (after (threadP m) (after (fun ts => many isDecl declP ts.length [] ts) st)) = some l ∧ pg = ⟨ds, l⟩ := by
  have e : progP m = andThen (fun ts => many isDecl declP ts.length [] ts) fun ds => andThen (threadP m) fun t => andThen (fun ts => many isThread (threadP m) ts.length [t] ts) fun l => give (⟨ds, l⟩ : Pg) := by
    unfold progP
    simp only [declsL_many, threadsL_many]
  rw [e]
  refine ⟨by rw [after_andThen _ _ [], after_andThen _ _ T0, after_andThen _ _ [], after_give], fun pg hp => ?_⟩
  obtain ⟨ds, h1, h2⟩ := val_andThen hp
  obtain ⟨t, h3, h4⟩ := val_andThen h2
  obtain ⟨l, h5, h6⟩ := val_andThen h4
  exact ⟨ds, t, l, h1, h3, h5, (val_give h6).symm⟩

/-- These values are the threads, one behind another. -/
def VTs (w : World) (S : Nat → Prop) : List Th → List Value → Prop
  | [], xs => xs = []
  | s :: r, xs => ∃ cs rest, xs = cs ++ rest ∧ RdT w S s cs ∧ VTs w S r rest
theorem VTs.turn {w w' : World} {S S' : Nat → Prop} (h : ∀ k o u, S k → w.cell? ⟨k, o, none⟩ = some u → w'.cell? ⟨k, o, none⟩ = some u ∧ S' k) : ∀ (l : List Th) (xs : List Value), VTs w S l xs → VTs w' S' l xs
  | [], _, hx => hx
  | s :: r, _, hx => by
    obtain ⟨cs, rest, rfl, hs, hr⟩ := hx
    exact ⟨cs, rest, rfl, hs.turn h, VTs.turn h r rest hr⟩
theorem VTs.snoc {w : World} {S : Nat → Prop} : ∀ (l : List Th) (xs : List Value) (s : Th) (cs : List Value), VTs w S l xs → RdT w S s cs → VTs w S (l ++ [s]) (xs ++ cs)
  | [], xs, s, cs, hx, hs => by
    have : xs = [] := hx
    subst this
    exact ⟨cs, [], by simp, hs, rfl⟩
  | t :: r, _, s, cs, hx, hs => by
    obtain ⟨c2, rest, rfl, ht, hr⟩ := hx
    exact ⟨c2, rest ++ cs, by simp, ht, VTs.snoc r rest s cs hr hs⟩
/-- The value is a slice of these declarations; of these threads. -/
def SlD (w : World) (S : Nat → Prop) (l : List Dc) (v : Value) : Prop := ∃ a cap, v = .slice a l.length cap ∧ (l = [] ∨ ∃ g, a = some ⟨g, 0, none⟩ ∧ S g ∧ ∀ j u, (l.flatMap dcells)[j]? = some u → w.cell? ⟨g, j, none⟩ = some u)
def SlT (w : World) (S : Nat → Prop) (l : List Th) (v : Value) : Prop := ∃ a cap, v = .slice a l.length cap ∧ (l = [] ∨ ∃ g xs, a = some ⟨g, 0, none⟩ ∧ S g ∧ VTs w S l xs ∧ ∀ j u, xs[j]? = some u → w.cell? ⟨g, j, none⟩ = some u)
/-- These two cells are the program. -/
def RdP (w : World) (S : Nat → Prop) (p : Pg) (v0 v1 : Value) : Prop := SlD w S p.decls v0 ∧ SlT w S p.threads v1
/-- What 'program' leaves. -/
def PostP (f : Pa Pg) (P : Nat) (all : List T) (st : St) (w : World) (e : Ending) (w' : World) : Prop :=
  ∃ a0 l0 c0 a1 l1 c1, e = .returned (.agg #[.slice a0 l0 c0, .slice a1 l1 c1]) ∧ Went P all (after f st) w w' ∧ ∀ p, val f st = some p → RdP w' (From w.heap.size) p (.slice a0 l0 c0) (.slice a1 l1 c1)
end Par
end Go.Proofs.YteekcepbogndlaaGreatDoor
