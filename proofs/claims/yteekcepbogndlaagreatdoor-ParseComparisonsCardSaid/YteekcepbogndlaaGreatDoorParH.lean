/-
  Contracts of index and variable of package parse.
-/
import Derived.Test.YteekcepbogndlaaGreatDoorParG
namespace Go.Proofs.YteekcepbogndlaaGreatDoor
open Go.RowKit
open Par

namespace Par
open Tok (T Bs)
theorem from_ne {n g P : Nat} (h : From n g) (hp : P < n) : g ≠ P := by
  have : n ≤ g := h
  omega
theorem from_weak {m n k : Nat} (h : m ≤ n) : ∀ g, From n g → g < k → From m g := fun _ hg _ => Nat.le_trans h hg
theorem after_closed (f : Pa E) (s : Bs) (st : St) : after (closed f s) st = expSt s (after f st) := by
  cases st with
  | off r => rfl
  | on r =>
    cases hx : f r with
    | error q => simp [after, closed, hx, expSt]
    | ok p =>
      obtain ⟨e, q⟩ := p
      by_cases h : txt q = s
      · simp [after, closed, hx, expSt, expect, h]
      · simp [after, closed, hx, expSt, expect, h]
theorem val_closed {f : Pa E} {s : Bs} {st : St} {x : E} (h : val (closed f s) st = some x) : val f st = some x := by
  cases st with
  | off r => cases h
  | on r =>
    cases hx : f r with
    | error q => simp [val, closed, hx] at h
    | ok p =>
      obtain ⟨e, q⟩ := p
      by_cases h2 : txt q = s
      · simpa [val, closed, hx, expect, h2] using h
      · simp [val, closed, hx, expect, h2] at h
/-- One expression's cells in a new block. -/
theorem rdL_one {W : World} {S : Nat → Prop} {g : Nat} {e : E} {v0 v1 v2 v3 : Value}
    (c0 : W.cell? ⟨g, 0, none⟩ = some v0) (c1 : W.cell? ⟨g, 1, none⟩ = some v1) (c2 : W.cell? ⟨g, 2, none⟩ = some v2) (c3 : W.cell? ⟨g, 3, none⟩ = some v3)
    (he : RdE W S e (.agg #[v0, v1, v2, v3])) : RdL W S g 0 [e] := ⟨⟨v0, v1, v2, v3, c0, c1, c2, c3, he⟩, trivial⟩
/-- What 'index' leaves where a bracket stands next: one expression in a new block. -/
def PostIx (f : Pa E) (P : Nat) (all : List T) (r : List T) (w : World) (e : Ending) (w' : World) : Prop :=
  ∃ g, e = .returned (.slice (some ⟨g, 0, none⟩) 1 1) ∧ w.heap.size ≤ g ∧ Kept P w w' ∧ Is w' P all (after (closed f [93]) (.on r)) ∧ ∀ x, val (closed f [93]) (.on r) = some x → RdL w' (From w.heap.size) g 0 [x]
end Par

set_option maxHeartbeats 1000000 in
set_option maxRecDepth 100000 in
theorem index_no (P : Nat) (all : List Tok.T) (st : St) (w : World) (h : Is w P all st) (ht : txt st.see ≠ [91]) :
    Calls Tryz.prog 171 #[.pointer (some ⟨P, 0, none⟩)] w fun e w' => e = .returned (.slice none 0 0) ∧ Went P all st w w' := by
  have CS := Lib.hid (skip_no w P all st ⟨#[91]⟩ h ht)
  clear ht h
  go_enter Tryz.func171, Tryz.ntmps171
  go_wp2_with (go_at_call 139; refine CS.out.mono ?_; rintro e w1 ⟨rfl, hw1⟩)
  go_ret
  exact ⟨rfl, hw1⟩

set_option maxHeartbeats 1000000 in
set_option maxRecDepth 100000 in
theorem index_yes (f : Pa E) (P : Nat) (all : List Tok.T) (t : Tok.T) (r : List Tok.T) (w : World) (h : Is w P all (.on (t :: r))) (ht : t.2.1 = [91])
    (CE : Hid (∀ (w : World), Is w P all (.on r) → Calls Tryz.prog 40 #[.pointer (some ⟨P, 0, none⟩)] w (PostE f P all (.on r) w))) :
    Calls Tryz.prog 171 #[.pointer (some ⟨P, 0, none⟩)] w (PostIx f P all r w) := by
  have CS := Lib.hid (skip_yes w P all t r ⟨#[91]⟩ h ht)
  have hP := h.lt
  have HA := Lib.hid (after_closed f [93] (.on r))
  clear ht h
  go_enter Tryz.func171, Tryz.ntmps171
  go_wp2_with (first
    | (go_at_call 139; refine CS.out.mono ?_; rintro e w1 ⟨rfl, hk1, hi1⟩; have s1 := hk1.size)
    | (go_at_call 40; refine (CE.out _ hi1).mono ?_; rintro e w2 ⟨op, n, nm, a, len, cap, rfl, hk2, hi2, hv2⟩; have s2 := hk2.size)
    | (go_at_call 105; refine (expect_any _ P all _ ⟨#[93]⟩ (hi2.below ((Below.refl _ _).alloc (Nat.le_refl _) _)) (by decide)).mono ?_; rintro e w3 ⟨rfl, hk3, hi3⟩; obtain ⟨d0, d1, d2, d3, _, _, _, _, hzd, _, _⟩ := Kept.new4 hk3 (show P < w2.heap.size by omega)))
  go_ret
  have s3 := hk3.size
  simp at s3
  refine ⟨w3.heap.size, rfl, by omega, ((hk1.trans hk2).trans (((Kept.refl P w2).alloc _).trans hk3)).alloc _, ?_, ?_⟩
  · rw [HA.out]
    exact hi3.below ((Below.refl _ _).alloc (Nat.le_refl _) _)
  · intro x hx
    have hx2 := (hv2 x (val_closed hx)).kept (((Kept.refl P w2).alloc (.cells #[.int .i64 op, .int .i64 n, .string nm, .slice a len cap] 34)).trans hk3) (fun g hg => from_ne hg (by omega))
    exact rdL_one (by simp) (by simp) (by simp) (by simp) ((hx2.below ((Below.refl _ _).alloc (Nat.le_refl _) _)).weak (from_weak s1))
end Go.Proofs.YteekcepbogndlaaGreatDoor
