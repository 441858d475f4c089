/-
  Readers of statements leave no more tokens than there were, and statements take at least one.
-/
import Derived.Test.YtkjmcfphkihanaaGreatDoorPstA
namespace Go.Proofs.YtkjmcfphkihanaaGreatDoor.Par
open Tok (Bs T)

/-- A reader that leaves no more tokens than there were, whether it succeeds or fails. -/
def Mon {α : Type} (f : Pa α) : Prop := Le f ∧ Er f
theorem after_mon {α : Type} {f : Pa α} (h : Mon f) (st : St) : (after f st).rem.length ≤ st.rem.length := by
  cases st with
  | off r => exact Nat.le_refl _
  | on r =>
    simp only [after]
    split
    · rename_i q hq
      exact h.2 _ _ hq
    · rename_i a q hq
      exact h.1 _ _ _ hq
theorem mon_andThen {α β : Type} {f : Pa α} {g : α → Pa β} (hf : Mon f) (hg : ∀ a, Mon (g a)) : Mon (andThen f g) := by
  constructor
  · intro ts b r h
    simp only [andThen] at h
    split at h
    · cases h
    · rename_i a q hq
      exact Nat.le_trans ((hg a).1 _ _ _ h) (hf.1 _ _ _ hq)
  · intro ts q h
    simp only [andThen] at h
    split at h
    · rename_i q2 hq
      have := hf.2 _ _ hq
      cases h
      exact this
    · rename_i a q2 hq
      exact Nat.le_trans ((hg a).2 _ _ h) (hf.1 _ _ _ hq)
theorem mon_give {α : Type} (a : α) : Mon (give a) := ⟨fun ts b r h => by simp only [give] at h; cases h; exact Nat.le_refl _, fun ts q h => by simp [give] at h⟩
theorem mon_exp (s : Bs) : Mon (exp s) := by
  constructor
  · intro ts a r h
    simp only [exp] at h
    split at h
    · cases h; exact tail_le _
    · cases h
  · intro ts q h
    simp only [exp] at h
    split at h
    · cases h
    · cases h; exact Nat.le_refl _
theorem mon_nameP : Mon nameP := by
  constructor
  · intro ts a r h
    simp only [nameP] at h
    split at h
    · cases h; exact tail_le _
    · cases h
  · intro ts q h
    simp only [nameP] at h
    split at h
    · cases h
    · cases h; exact Nat.le_refl _
theorem exprA_lt : Lt exprA := fun ts a r h => exprP_lt (unaryF_lt _) ts a r h
theorem exprA_er : Er exprA := fun ts q h => exprP_er (unaryF_lt _) (unaryF_er _) ts q h
theorem mon_exprA : Mon exprA := ⟨fun ts a r h => Nat.le_of_lt (exprA_lt ts a r h), exprA_er⟩
theorem mon_index : Mon (index exprA) := ⟨index_le exprA_lt, index_er exprA_lt exprA_er⟩
theorem stmtsL_mon {f : Pa Sm} (hf : Mon f) : ∀ n acc, Mon (stmtsL f n acc)
  | 0, acc => ⟨fun ts a r h => by simp [stmtsL] at h, fun ts q h => by simp only [stmtsL] at h; cases h; exact Nat.le_refl _⟩
  | n + 1, acc => by
    constructor
    · intro ts a r h
      simp only [stmtsL] at h
      split at h
      · cases h; exact tail_le _
      · split at h
        · cases h
        · rename_i s q hq
          exact Nat.le_trans ((stmtsL_mon hf n _).1 _ _ _ h) (hf.1 _ _ _ hq)
    · intro ts q h
      simp only [stmtsL] at h
      split at h
      · cases h
      · split at h
        · rename_i q2 hq
          have := hf.2 _ _ hq
          cases h
          exact this
        · rename_i s q2 hq
          exact Nat.le_trans ((stmtsL_mon hf n _).2 _ _ h) (hf.1 _ _ _ hq)
theorem mon_blockP {f : Pa Sm} (hf : Mon f) : Mon (blockP f) :=
  mon_andThen (mon_exp _) fun _ => ⟨fun ts a r h => (stmtsL_mon hf (ts.length + 1) []).1 ts a r h, fun ts q h => (stmtsL_mon hf (ts.length + 1) []).2 ts q h⟩
theorem mon_choiceRest {f : Pa Sm} (hf : Mon f) (op line : Nat) (e : E) (b : List Sm) :
    Mon (fun ts => if txt ts = [101, 108, 115, 101] then andThen (blockP f) (fun c => give (Sm.mk op line [] [] [] e b c)) ts.tail else .ok (Sm.mk op line [] [] [] e b [], ts)) := by
  have hm : Mon (andThen (blockP f) (fun c => give (Sm.mk op line [] [] [] e b c))) := mon_andThen (mon_blockP hf) fun _ => mon_give _
  constructor
  · intro ts a r h
    simp only at h
    split at h
    · exact Nat.le_trans (hm.1 _ _ _ h) (tail_le _)
    · cases h; exact Nat.le_refl _
  · intro ts q h
    simp only at h
    split at h
    · exact Nat.le_trans (hm.2 _ _ h) (tail_le _)
    · cases h
theorem mon_restP {f : Pa Sm} (hf : Mon f) (k line : Nat) : Mon (restP f k line) := by
  unfold restP
  split
  · exact mon_andThen mon_exprA fun e => mon_andThen (mon_blockP hf) fun b => mon_choiceRest hf _ _ _ _
  · split
    · exact mon_andThen mon_exprA fun e => mon_andThen (mon_blockP hf) fun b => mon_give _
    · split
      · exact mon_andThen mon_nameP fun e => mon_andThen (mon_blockP hf) fun b => mon_give _
      · split
        · exact mon_andThen (mon_blockP hf) fun b => mon_give _
        · split
          · exact mon_andThen mon_nameP fun _ => mon_andThen mon_exprA fun _ => mon_andThen (mon_exp _) fun _ => mon_give _
          · split
            · exact mon_andThen mon_nameP fun _ => mon_andThen mon_nameP fun _ => mon_andThen (mon_exp _) fun _ => mon_give _
            · exact mon_andThen mon_nameP fun _ => mon_andThen (mon_exp _) fun _ => mon_give _
theorem nameP_lt : Lt nameP := by
  intro ts a r h
  simp only [nameP] at h
  split at h
  · rename_i hk
    cases h
    exact tail_lt (by rintro rfl; simp [knd] at hk)
  · cases h
theorem assign_eq (ts : List T) : ∃ g : Bs → Pa Sm, (∀ a, Mon (g a)) ∧ assignP ts = andThen nameP g ts :=
  ⟨_, fun _ => mon_andThen mon_index fun _ => mon_andThen (mon_exp _) fun _ => mon_andThen mon_exprA fun _ => mon_andThen (mon_exp _) fun _ => mon_give _, rfl⟩
theorem assignP_lt : Lt assignP := by
  intro ts a r h
  obtain ⟨g, hg, he⟩ := assign_eq ts
  rw [he] at h
  simp only [andThen] at h
  split at h
  · cases h
  · rename_i nm q hq
    exact Nat.lt_of_le_of_lt ((hg nm).1 _ _ _ h) (nameP_lt _ _ _ hq)
theorem assignP_er : Er assignP := by
  intro ts q h
  obtain ⟨g, hg, he⟩ := assign_eq ts
  rw [he] at h
  exact (mon_andThen mon_nameP hg).2 _ _ h
theorem stmtKind_ne {ts : List T} (h : ¬ stmtKind (txt ts) = 0) : ts ≠ [] := by
  rintro rfl
  exact h rfl
theorem step_lt {f : Pa Sm} (hf : Mon f) : Lt (stmtStep f) := by
  intro ts a r h
  simp only [stmtStep] at h
  split at h
  · exact assignP_lt _ _ _ h
  · split at h
    · cases h
    · rename_i hk
      exact Nat.lt_of_le_of_lt ((mon_restP hf _ _).1 _ _ _ h) (tail_lt (stmtKind_ne hk))
theorem step_er {f : Pa Sm} (hf : Mon f) : Er (stmtStep f) := by
  intro ts q h
  simp only [stmtStep] at h
  split at h
  · exact assignP_er _ _ h
  · split at h
    · cases h; exact Nat.le_refl _
    · exact Nat.le_trans ((mon_restP hf _ _).2 _ _ h) (tail_le _)
theorem stmtF_lt : ∀ n, Lt (stmtF n) ∧ Er (stmtF n)
  | 0 => ⟨fun ts a r h => by simp [stmtF] at h, fun ts q h => by simp only [stmtF] at h; cases h; exact Nat.le_refl _⟩
  | n + 1 => by
    obtain ⟨h1, h2⟩ := stmtF_lt n
    have hm : Mon (stmtF n) := ⟨fun ts a r h => Nat.le_of_lt (h1 ts a r h), h2⟩
    exact ⟨step_lt hm, step_er hm⟩
theorem stmtF_mon (n : Nat) : Mon (stmtF n) := ⟨fun ts a r h => Nat.le_of_lt ((stmtF_lt n).1 ts a r h), (stmtF_lt n).2⟩
end Go.Proofs.YtkjmcfphkihanaaGreatDoor.Par
