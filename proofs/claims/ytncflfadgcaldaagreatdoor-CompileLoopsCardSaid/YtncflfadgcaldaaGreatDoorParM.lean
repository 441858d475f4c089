/-
  The contract of the reference's SameExpr at two values that are the same expression: true.
-/
import Derived.Test.YtncflfadgcaldaaGreatDoorParMem
import Derived.Test.YtncflfadgcaldaaGreatDoorTokE
import Derived.WalkSpells
import Derived.WalkSmall
import Derived.Deep.RegionWith
namespace Go.Proofs.YtncflfadgcaldaaGreatDoor
open Go.RowKit
open Par

namespace Par
open Tok (T Bs)
mutual
def E.ht : E → Nat
  | .mk _ _ _ l => htL l + 1
def htL : List E → Nat
  | [] => 0
  | e :: r => max e.ht (htL r)
end
mutual
/-- No list of operands is as long as an int. -/
def E.ok : E → Prop
  | .mk _ _ _ l => l.length ≤ 4611686018427387904 ∧ okL l
def okL : List E → Prop
  | [] => True
  | e :: r => e.ok ∧ okL r
end
theorem ok_get : ∀ (l : List E), okL l → ∀ (k : Nat) (h : k < l.length), l[k].ok
  | [], _, k, h => absurd h (by simp)
  | e :: r, ho, 0, _ => ho.1
  | e :: r, ho, k + 1, h => ok_get r ho.2 k (by simpa using h)
theorem ht_get : ∀ (l : List E) (k : Nat) (h : k < l.length), l[k].ht ≤ htL l
  | [], k, h => absurd h (by simp)
  | e :: r, 0, _ => by simp only [htL, List.getElem_cons_zero]; omega
  | e :: r, k + 1, h => by
    have := ht_get r k (by simpa using h)
    simp only [htL, List.getElem_cons_succ]
    omega
theorem rdL_at {w : World} {S : Nat → Prop} {g : Nat} : ∀ (l : List E) (o : Nat), RdL w S g o l → ∀ k (h : k < l.length), ∃ v0 v1 v2 v3,
    w.cell? ⟨g, o + k * 4, none⟩ = some v0 ∧ w.cell? ⟨g, o + k * 4 + 1, none⟩ = some v1 ∧ w.cell? ⟨g, o + k * 4 + 2, none⟩ = some v2 ∧ w.cell? ⟨g, o + k * 4 + 3, none⟩ = some v3 ∧ RdE w S l[k] (.agg #[v0, v1, v2, v3])
  | [], o, _, k, h => absurd h (by simp)
  | e :: r, o, hl, 0, _ => by
    obtain ⟨⟨v0, v1, v2, v3, h0, h1, h2, h3, he⟩, _⟩ := hl
    exact ⟨v0, v1, v2, v3, by simpa using h0, by simpa using h1, by simpa using h2, by simpa using h3, he⟩
  | e :: r, o, hl, k + 1, h => by
    obtain ⟨_, hr⟩ := hl
    obtain ⟨v0, v1, v2, v3, h0, h1, h2, h3, he⟩ := rdL_at r (o + 4) hr k (by simpa using h)
    rw [show o + 4 + k * 4 = o + (k + 1) * 4 by omega] at h0 h1 h2 h3
    exact ⟨v0, v1, v2, v3, h0, h1, h2, h3, he⟩
theorem RdE.shape {w : World} {S : Nat → Prop} {e : E} {v0 v1 v2 v3 : Value} (h : RdE w S e (.agg #[v0, v1, v2, v3])) : ∃ op n nm a len cap, v0 = .int .i64 op ∧ v1 = .int .i64 n ∧ v2 = .string nm ∧ v3 = .slice a len cap := by
  obtain ⟨op, n, nm, l⟩ := e
  obtain ⟨a, cap, h, _⟩ := h
  injection h with h
  simp at h
  exact ⟨_, _, _, _, _, _, h.1, h.2.1, h.2.2.1, h.2.2.2⟩
end Par
end Go.Proofs.YtncflfadgcaldaaGreatDoor
