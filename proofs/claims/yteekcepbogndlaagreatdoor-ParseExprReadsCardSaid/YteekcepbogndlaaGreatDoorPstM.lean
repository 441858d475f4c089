/-
  statement and block of package parse, by induction on the tokens that are left.
-/
import Derived.Test.YteekcepbogndlaaGreatDoorPstL
namespace Go.Proofs.YteekcepbogndlaaGreatDoor
open Go.RowKit
open Par

namespace Par
open Tok (T Bs)
theorem ite_le {p : Prop} [Decidable p] {a b n : Nat} (ha : a ≤ n) (hb : b ≤ n) : (if p then a else b) ≤ n := by
  by_cases h : p
  · rw [if_pos h]; exact ha
  · rw [if_neg h]; exact hb
theorem stmtKind_le (l : Bs) : stmtKind l ≤ 15 := by
  unfold stmtKind
  repeat (refine ite_le (by decide) ?_)
  exact Nat.zero_le _
theorem knd_see {st : St} (h : knd st.see = 1) : ∃ t r, st = .on (t :: r) := by
  match st, h with
  | .off r, h => exact absurd (show (0 : Nat) = 1 from h) (by decide)
  | .on [], h => exact absurd (show (0 : Nat) = 1 from h) (by decide)
  | .on (t :: r), _ => exact ⟨t, r, rfl⟩
end Par

theorem statement_of (g : Pa Sm) (hg : Mon g) (N : Nat) (hb : ∀ M, M < N → BM g M) : SM (stmtStep g) N := by
  intro w P all st h hN
  by_cases hk : knd st.see = 1
  · obtain ⟨t, r, rfl⟩ := knd_see hk
    exact statement_name g w P all t r h hk
  by_cases h0 : stmtKind (txt st.see) = 0
  · exact statement_none g w P all st h hk h0
  obtain ⟨t, r, rfl⟩ := stmtKind_see h0
  replace hk : ¬ t.1 = 1 := hk
  replace h0 : ¬ stmtKind t.2.1 = 0 := h0
  have hbm := hb r.length (by simp [St.rem] at hN; omega)
  obtain ⟨k, hkk⟩ : ∃ k, stmtKind t.2.1 = k := ⟨_, rfl⟩
  have hle : k ≤ 15 := hkk ▸ stmtKind_le _
  have hall : k = 0 ∨ k = 1 ∨ k = 2 ∨ k = 3 ∨ k = 4 ∨ k = 5 ∨ k = 6 ∨ k = 7 ∨ k = 8 ∨ k = 9 ∨ k = 10 ∨ k = 11 ∨ k = 12 ∨ k = 13 ∨ k = 14 ∨ k = 15 := by omega
  rcases hall with rfl | rfl | rfl | rfl | rfl | rfl | rfl | rfl | rfl | rfl | rfl | rfl | rfl | rfl | rfl | rfl
  · exact absurd hkk h0
  · exact statement_word g 176 (.inr (.inr (.inr (.inr (.inr (.inr rfl)))))) 1 w P all t r h hk hkk (by decide) rfl (fun w B h hB hPB => nameOnly_any 1 t.2.2 w P B all (.on r) h hB hPB)
  · exact statement_word g 172 (.inl rfl) 2 w P all t r h hk hkk (by decide) rfl (fun w B h hB hPB => choice_any g hg _ hbm 2 t.2.2 w P B all (.on r) h (Nat.le_refl _) hB hPB)
  · exact statement_word g 173 (.inr (.inl rfl)) 3 w P all t r h hk hkk (by decide) rfl (fun w B h hB hPB => loop_any g _ hbm 3 t.2.2 w P B all (.on r) h (Nat.le_refl _) hB hPB)
  · exact statement_word g 174 (.inr (.inr (.inl rfl))) 4 w P all t r h hk hkk (by decide) rfl (fun w B h hB hPB => namedBlock_any g _ hbm 4 t.2.2 w P B all (.on r) h (Nat.le_refl _) hB hPB)
  · exact statement_word g 174 (.inr (.inr (.inl rfl))) 5 w P all t r h hk hkk (by decide) rfl (fun w B h hB hPB => namedBlock_any g _ hbm 5 t.2.2 w P B all (.on r) h (Nat.le_refl _) hB hPB)
  · exact statement_word g 174 (.inr (.inr (.inl rfl))) 6 w P all t r h hk hkk (by decide) rfl (fun w B h hB hPB => namedBlock_any g _ hbm 6 t.2.2 w P B all (.on r) h (Nat.le_refl _) hB hPB)
  · exact statement_word g 175 (.inr (.inr (.inr (.inl rfl)))) 7 w P all t r h hk hkk (by decide) rfl (fun w B h hB hPB => plainBlock_any g _ hbm 7 t.2.2 w P B all (.on r) h (Nat.le_refl _) hB hPB)
  · exact statement_word g 175 (.inr (.inr (.inr (.inl rfl)))) 8 w P all t r h hk hkk (by decide) rfl (fun w B h hB hPB => plainBlock_any g _ hbm 8 t.2.2 w P B all (.on r) h (Nat.le_refl _) hB hPB)
  · exact statement_word g 176 (.inr (.inr (.inr (.inr (.inr (.inr rfl)))))) 9 w P all t r h hk hkk (by decide) rfl (fun w B h hB hPB => nameOnly_any 9 t.2.2 w P B all (.on r) h hB hPB)
  · exact statement_word g 176 (.inr (.inr (.inr (.inr (.inr (.inr rfl)))))) 10 w P all t r h hk hkk (by decide) rfl (fun w B h hB hPB => nameOnly_any 10 t.2.2 w P B all (.on r) h hB hPB)
  · exact statement_word g 176 (.inr (.inr (.inr (.inr (.inr (.inr rfl)))))) 11 w P all t r h hk hkk (by decide) rfl (fun w B h hB hPB => nameOnly_any 11 t.2.2 w P B all (.on r) h hB hPB)
  · exact statement_word g 176 (.inr (.inr (.inr (.inr (.inr (.inr rfl)))))) 12 w P all t r h hk hkk (by decide) rfl (fun w B h hB hPB => nameOnly_any 12 t.2.2 w P B all (.on r) h hB hPB)
  · exact statement_word g 176 (.inr (.inr (.inr (.inr (.inr (.inr rfl)))))) 13 w P all t r h hk hkk (by decide) rfl (fun w B h hB hPB => nameOnly_any 13 t.2.2 w P B all (.on r) h hB hPB)
  · exact statement_word g 177 (.inr (.inr (.inr (.inr (.inl rfl))))) 14 w P all t r h hk hkk (by decide) rfl (fun w B h hB hPB => setting_any 14 t.2.2 w P B all (.on r) h hB hPB)
  · exact statement_word g 178 (.inr (.inr (.inr (.inr (.inr (.inl rfl)))))) 15 w P all t r h hk hkk (by decide) rfl (fun w B h hB hPB => getting_any 15 t.2.2 w P B all (.on r) h hB hPB)

theorem stmt_both : ∀ N n, N < n → SM (stmtF n) N ∧ BM (stmtF n) N := by
  intro N
  induction N using Nat.strongRecOn with
  | _ N ih =>
    intro n hn
    obtain ⟨m, rfl⟩ : ∃ m, n = m + 1 := ⟨n - 1, by omega⟩
    have hs : SM (stmtF (m + 1)) N := statement_of (stmtF m) (stmtF_mon m) N (fun M hM => (ih M hM m (by omega)).2)
    exact ⟨hs, block_of (stmtF (m + 1)) (stmtF_lt (m + 1)).1 (stmtF_lt (m + 1)).2 N hs⟩
/-- block, where no more than n - 1 tokens are left. -/
theorem block_any (n : Nat) (w : World) (P : Nat) (all : List Tok.T) (st : St) (h : Is w P all st) (hn : st.rem.length < n) : Calls Tryz.prog 107 #[.pointer (some ⟨P, 0, none⟩)] w (PostB (blockP (stmtF n)) P all st w) :=
  (stmt_both st.rem.length n hn).2 w P all st h (Nat.le_refl _)
end Go.Proofs.YteekcepbogndlaaGreatDoor
