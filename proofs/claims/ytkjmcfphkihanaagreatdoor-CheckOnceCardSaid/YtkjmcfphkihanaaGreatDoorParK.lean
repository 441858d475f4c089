/-
  The contract of unary of package parse; and, by induction on the tokens that are left, of expr.
-/
import Derived.Test.YtkjmcfphkihanaaGreatDoorParJ
namespace Go.Proofs.YtkjmcfphkihanaaGreatDoor
open Go.RowKit
open Par

namespace Par
open Tok (T Bs)
theorem EM.mono {k : FuncId} {f : Pa E} {M N : Nat} (h : EM k f N) (hM : M ≤ N) : EM k f M := fun w P all st hi hr => h w P all st hi (Nat.le_trans hr hM)
theorem after_signed (u : Pa E) (o : Int) (st : St) : after (signed u o) st = after u st ∧ ∀ x, val (signed u o) st = some x → ∃ e, val u st = some e ∧ x = .mk o 0 ⟨#[]⟩ [e] := by
  cases st with
  | off r => exact ⟨rfl, fun x hx => by cases hx⟩
  | on r =>
    cases hx : u r with
    | error q => simp [after, val, signed, hx]
    | ok p =>
      obtain ⟨e, q⟩ := p
      simp [after, val, signed, hx]
/-- What unary makes of tokens, over what it makes of fewer. -/
def unStep (u : Pa E) : Pa E := fun ts =>
  if txt ts = [45] then signed u 4 ts.tail
  else if txt ts = [33] then signed u 5 ts.tail
  else primary (exprP u) ts
theorem unaryF_succ (n : Nat) : unaryF (n + 1) = unStep (unaryF n) := rfl
theorem un_minus {u : Pa E} {t : T} {r : List T} (h : t.2.1 = [45]) : after (unStep u) (.on (t :: r)) = after (signed u 4) (.on r) ∧ val (unStep u) (.on (t :: r)) = val (signed u 4) (.on r) := by
  have e : unStep u (t :: r) = signed u 4 r := by simp [unStep, txt, h]
  simp only [after, val, e, and_self]
theorem un_not {u : Pa E} {t : T} {r : List T} (h : t.2.1 = [33]) : after (unStep u) (.on (t :: r)) = after (signed u 5) (.on r) ∧ val (unStep u) (.on (t :: r)) = val (signed u 5) (.on r) := by
  have e : unStep u (t :: r) = signed u 5 r := by simp [unStep, txt, h]
  simp only [after, val, e, and_self]
theorem un_prim {u : Pa E} {st : St} (h : txt st.see ≠ [45]) (h2 : txt st.see ≠ [33]) : after (unStep u) st = after (primary (exprP u)) st ∧ val (unStep u) st = val (primary (exprP u)) st := by
  cases st with
  | off r => exact ⟨rfl, rfl⟩
  | on r =>
    simp only [St.see] at h h2
    have e : unStep u r = primary (exprP u) r := by simp [unStep, h, h2]
    simp only [after, val, e, and_self]
end Par

set_option maxHeartbeats 1000000 in
set_option maxRecDepth 100000 in
theorem unary_of (u : Pa E) (N : Nat) (hu : ∀ M, M < N → EM 186 u M) (hp : EM 192 (primary (exprP u)) N) : EM 186 (unStep u) N := by
  intro w P all st h hN
  have hP := h.lt
  have H := Lib.hid h
  by_cases h1 : txt st.see = [45]
  · obtain ⟨t, r, rfl, ht⟩ := see_cons h1 (by simp)
    have CS := Lib.hid (fun w h => skip_yes w P all t r ⟨#[45]⟩ h ht)
    have CU : Hid (∀ (w : World), Is w P all (.on r) → Calls Tryz.prog 186 #[.pointer (some ⟨P, 0, none⟩)] w (PostE u P all (.on r) w)) :=
      Lib.hid fun w h => hu (N - 1) (by simp only [St.rem, List.length_cons] at hN; omega) w P all _ h (by simp only [St.rem, List.length_cons] at hN ⊢; omega)
    have HN := Lib.hid (un_minus (u := u) (r := r) ht)
    have HS := Lib.hid (after_signed u 4 (.on r))
    clear h1 ht h hN hu hp
    show Calls _ _ _ _ _
    go_enter Tryz.func186, Tryz.ntmps186
    go_wp2_with (first
      | (go_at_call 85; refine (CS.out _ (H.out.below ((Below.refl _ _).alloc (Nat.le_refl _) _))).mono ?_; rintro e w1 ⟨rfl, hk1, hi1⟩; have s1 := hk1.size; simp at s1)
      | (go_at_call 186; refine (CU.out _ hi1).mono ?_; rintro e w2 ⟨op, n, nm, a, len, cap, rfl, hk2, hi2, hv2⟩; have s2 := hk2.size; obtain ⟨r0, r1, r2, r3, g0, g1, g2, g3, hz, hn1, hn2⟩ := Kept.new4 (hk1.trans hk2) hP))
    obtain ⟨⟨hkW, hiW⟩, hrd, hpl, hnew⟩ := fin_build (n := w.heap.size + 1) (.int .i64 4) (.int .i64 0) (.string ⟨#[]⟩) (.slice (some ⟨w2.heap.size, 0, none⟩) 1 1) (cs := #[.int .i64 op, .int .i64 n, .string nm, .slice a len cap]) (t := 84)
      ((((Kept.refl P w).alloc _).trans hk1).trans hk2) hP hi2 (by omega) rfl
    refine bodyPost_ret (v := .agg #[.int .i64 4, .int .i64 0, .string ⟨#[]⟩, .slice (some ⟨w2.heap.size, 0, none⟩) 1 1]) (by simp [results, Tryz.results186, go_sem, *]) rfl ⟨_, _, _, _, _, _, rfl, hkW, by rw [HN.out.1, HS.out.1]; exact hiW, fun x hx => ?_⟩
    rw [HN.out.2] at hx
    obtain ⟨e, he, rfl⟩ := HS.out.2 x hx
    exact ⟨_, _, rfl, .inr ⟨w2.heap.size, rfl, ⟨by omega, hpl⟩, rdL_one (hnew 0 _ rfl) (hnew 1 _ rfl) (hnew 2 _ rfl) (hnew 3 _ rfl) (hrd _ _ ((hv2 e he).pweak s1))⟩⟩
  · have CS1 := Lib.hid (fun w h => skip_no w P all st ⟨#[45]⟩ h h1)
    by_cases h2 : txt st.see = [33]
    · obtain ⟨t, r, rfl, ht⟩ := see_cons h2 (by simp)
      have CS := Lib.hid (fun w h => skip_yes w P all t r ⟨#[33]⟩ h ht)
      have CU : Hid (∀ (w : World), Is w P all (.on r) → Calls Tryz.prog 186 #[.pointer (some ⟨P, 0, none⟩)] w (PostE u P all (.on r) w)) :=
        Lib.hid fun w h => hu (N - 1) (by simp only [St.rem, List.length_cons] at hN; omega) w P all _ h (by simp only [St.rem, List.length_cons] at hN ⊢; omega)
      have HN := Lib.hid (un_not (u := u) (r := r) ht)
      have HS := Lib.hid (after_signed u 5 (.on r))
      clear h1 h2 ht h hN hu hp
      show Calls _ _ _ _ _
      go_enter Tryz.func186, Tryz.ntmps186
      go_wp2_with (first
        | (go_at_call 85; refine (CS.out _ hi1).mono ?_; rintro e w3 ⟨rfl, hk3, hi3⟩; have s3 := hk3.size)
        | (go_at_call 85; refine (CS1.out _ (H.out.below ((Below.refl _ _).alloc (Nat.le_refl _) _))).mono ?_; rintro e w1 ⟨rfl, hk1, hi1⟩; have s1 := hk1.size; simp at s1)
        | (go_at_call 186; refine (CU.out _ hi3).mono ?_; rintro e w2 ⟨op, n, nm, a, len, cap, rfl, hk2, hi2, hv2⟩; have s2 := hk2.size; obtain ⟨r0, r1, r2, r3, g0, g1, g2, g3, hz, hn1, hn2⟩ := Kept.new4 ((hk1.trans hk3).trans hk2) hP))
      obtain ⟨⟨hkW, hiW⟩, hrd, hpl, hnew⟩ := fin_build (n := w.heap.size + 1) (.int .i64 5) (.int .i64 0) (.string ⟨#[]⟩) (.slice (some ⟨w2.heap.size, 0, none⟩) 1 1) (cs := #[.int .i64 op, .int .i64 n, .string nm, .slice a len cap]) (t := 84)
        (((((Kept.refl P w).alloc _).trans hk1).trans hk3).trans hk2) hP hi2 (by omega) rfl
      refine bodyPost_ret (v := .agg #[.int .i64 5, .int .i64 0, .string ⟨#[]⟩, .slice (some ⟨w2.heap.size, 0, none⟩) 1 1]) (by simp [results, Tryz.results186, go_sem, *]) rfl ⟨_, _, _, _, _, _, rfl, hkW, by rw [HN.out.1, HS.out.1]; exact hiW, fun x hx => ?_⟩
      rw [HN.out.2] at hx
      obtain ⟨e, he, rfl⟩ := HS.out.2 x hx
      exact ⟨_, _, rfl, .inr ⟨w2.heap.size, rfl, ⟨by omega, hpl⟩, rdL_one (hnew 0 _ rfl) (hnew 1 _ rfl) (hnew 2 _ rfl) (hnew 3 _ rfl) (hrd _ _ ((hv2 e he).pweak (by omega)))⟩⟩
    · have CS := Lib.hid (fun w h => skip_no w P all st ⟨#[33]⟩ h h2)
      have CP : Hid (∀ (w : World), Is w P all st → Calls Tryz.prog 192 #[.pointer (some ⟨P, 0, none⟩)] w (PostE (primary (exprP u)) P all st w)) :=
        Lib.hid fun w h => hp w P all _ h hN
      have HN := Lib.hid (un_prim (u := u) h1 h2)
      clear h1 h2 h hN hu hp
      show Calls _ _ _ _ _
      go_enter Tryz.func186, Tryz.ntmps186
      go_wp2_with (first
        | (go_at_call 85; refine (CS.out _ hi1).mono ?_; rintro e w3 ⟨rfl, hk3, hi3⟩; have s3 := hk3.size)
        | (go_at_call 85; refine (CS1.out _ (H.out.below ((Below.refl _ _).alloc (Nat.le_refl _) _))).mono ?_; rintro e w1 ⟨rfl, hk1, hi1⟩; have s1 := hk1.size; simp at s1)
        | (go_at_call 192; refine (CP.out _ hi3).mono ?_; rintro e w2 ⟨op, n, nm, a, len, cap, rfl, hk2, hi2, hv2⟩; have s2 := hk2.size; obtain ⟨r0, r1, r2, r3, g0, g1, g2, g3, hz, hn1, hn2⟩ := Kept.new4 ((hk1.trans hk3).trans hk2) hP))
      exact bodyPost_ret (v := .agg #[.int .i64 op, .int .i64 n, .string nm, .slice a len cap]) (by simp [results, Tryz.results186, go_sem, *]) rfl ⟨_, _, _, _, _, _, rfl, fin_store _ _ _ _ (((((Kept.refl P w).alloc _).trans hk1).trans hk3).trans hk2) hP (by rw [HN.out.1]; exact hi2) (n := w3.heap.size) (by omega) (fun x hx => hv2 x (HN.out.2 ▸ hx)) rfl⟩

namespace Par
theorem expr_up {u : Pa E} {N : Nat} (hl : Lt u) (he : Er u) (hu : EM 186 u N) : EM 140 (exprP u) N := by
  have p1 := product_of u N hl he hu
  have p2 := sum_of _ N (series_lt hl) (series_er hl he) p1
  have p3 := comparison_of _ N (series_lt (series_lt hl)) (series_er (series_lt hl) (series_er hl he)) p2
  have l3 := cmp_lt (series_lt (ops := sumOps) (series_lt (ops := mulOps) hl))
  have e3 := cmp_er (series_lt (ops := sumOps) (series_lt (ops := mulOps) hl)) (series_er (ops := sumOps) (series_lt (ops := mulOps) hl) (series_er (ops := mulOps) hl he))
  have p4 := and_of _ N l3 e3 p3
  exact expr_of _ N (series_lt l3) (series_er l3 e3) p4
theorem unary_all : ∀ N, EM 186 (unaryF (N + 1)) N
  | 0 => by
    rw [unaryF_succ]
    exact unary_of _ 0 (fun M h => absurd h (by omega)) (primary_of _ 0 (fun M h => absurd h (by omega)))
  | N + 1 => by
    have ih := unary_all N
    rw [unaryF_succ]
    exact unary_of _ (N + 1) (fun M h => ih.mono (by omega)) (primary_of _ (N + 1) (fun M h => (expr_up (unaryF_lt _) (unaryF_er _) ih).mono (by omega)))
/-- The expression that tokens spell. -/
def exprAll (ts : List Tok.T) : Except (List Tok.T) (E × List Tok.T) := exprP (unaryF (ts.length + 1)) ts
theorem expr_all (N : Nat) : EM 140 (exprP (unaryF (N + 1))) N := expr_up (unaryF_lt _) (unaryF_er _) (unary_all N)
end Par
end Go.Proofs.YtkjmcfphkihanaaGreatDoor
