/-
  Expressions in memory as a forest: what stands at an address is one expression, and its operands stand at the addresses that its slice gives.
-/
import Derived.Test.YtiemibngfckgdaaPlain
import Derived.Test.YtiemibngfckgdaaVlSpec
namespace Go.Proofs.Ytiemibngfckgdaa
open Go.RowKit
open Par

namespace Par
open Tok (T Bs)
mutual
def E.ht : E → Nat
  | .mk _ _ _ l => htL l + 1
def htL : List E → Nat
  | [] => 0
  | e :: r => max e.ht (htL r)
end
theorem ht_get : ∀ (l : List E) (k : Nat) (h : k < l.length), l[k].ht ≤ htL l
  | [], k, h => absurd h (by simp)
  | e :: r, 0, _ => by simp only [htL, List.getElem_cons_zero]; omega
  | e :: r, k + 1, h => by
    have := ht_get r k (by simpa using h)
    simp only [htL, List.getElem_cons_succ]
    omega
theorem rdL_at {w : World} {S : Nat → Prop} {g : Nat} : ∀ (l : List E) (o : Nat), RdL w S g o l → ∀ k (h : k < l.length), ∃ v0 v1 v2 v3,
    w.cell? ⟨g, o + k * 4, none⟩ = some v0 ∧ w.cell? ⟨g, o + k * 4 + 1, none⟩ = some v1 ∧ w.cell? ⟨g, o + k * 4 + 2, none⟩ = some v2 ∧ w.cell? ⟨g, o + k * 4 + 3, none⟩ = some v3 ∧ RdE w S l[k] (.agg #[v0, v1, v2, v3])
  | [], o, _, k, h => absurd h (by simp)
  | e :: r, o, hl, 0, _ => by
    obtain ⟨⟨v0, v1, v2, v3, h0, h1, h2, h3, he⟩, _⟩ := hl
    exact ⟨v0, v1, v2, v3, by simpa using h0, by simpa using h1, by simpa using h2, by simpa using h3, he⟩
  | e :: r, o, hl, k + 1, h => by
    obtain ⟨_, hr⟩ := hl
    obtain ⟨v0, v1, v2, v3, h0, h1, h2, h3, he⟩ := rdL_at r (o + 4) hr k (by simpa using h)
    rw [show o + 4 + k * 4 = o + (k + 1) * 4 by omega] at h0 h1 h2 h3
    exact ⟨v0, v1, v2, v3, h0, h1, h2, h3, he⟩
theorem RdE.shape {w : World} {S : Nat → Prop} {e : E} {v0 v1 v2 v3 : Value} (h : RdE w S e (.agg #[v0, v1, v2, v3])) : ∃ op n nm a len cap, v0 = .int .i64 op ∧ v1 = .int .i64 n ∧ v2 = .string nm ∧ v3 = .slice a len cap := by
  obtain ⟨op, n, nm, l⟩ := e
  obtain ⟨a, cap, h, _⟩ := h
  injection h with h
  simp at h
  exact ⟨_, _, _, _, _, _, h.1, h.2.1, h.2.2.1, h.2.2.2⟩
mutual
theorem rdE_fun {w : World} {S S' : Nat → Prop} : ∀ (e e' : E) (v : Value), RdE w S e v → RdE w S' e' v → e = e'
  | .mk op n nm l, .mk op' n' nm' l', v, h, h' => by
    obtain ⟨a, cap, rfl, hl⟩ := h
    obtain ⟨a', cap', hv, hl'⟩ := h'
    injection hv with hv
    simp at hv
    obtain ⟨rfl, rfl, rfl, rfl, hlen, rfl⟩ := hv
    have : l = l' := by
      cases l with
      | nil =>
        cases l' with
        | nil => rfl
        | cons x r => simp at hlen
      | cons x r =>
        cases l' with
        | nil => simp at hlen
        | cons x' r' =>
          obtain ⟨g, hg, _, hr⟩ := hl.resolve_left (by simp)
          obtain ⟨g', hg', _, hr'⟩ := hl'.resolve_left (by simp)
          have : g = g' := by
            rw [hg] at hg'
            injection hg' with hg'
            injection hg' with h1
          subst this
          exact rdL_fun g 0 (x :: r) (x' :: r') hlen hr hr'
    rw [this]
theorem rdL_fun {w : World} {S S' : Nat → Prop} (g : Nat) : ∀ (o : Nat) (l l' : List E), l.length = l'.length → RdL w S g o l → RdL w S' g o l' → l = l'
  | _, [], [], _, _, _ => rfl
  | _, [], _ :: _, h, _, _ => by simp at h
  | _, _ :: _, [], h, _, _ => by simp at h
  | o, e :: r, e' :: r', hlen, h, h' => by
    obtain ⟨⟨v0, v1, v2, v3, h0, h1, h2, h3, he⟩, hr⟩ := h
    obtain ⟨⟨u0, u1, u2, u3, k0, k1, k2, k3, he'⟩, hr'⟩ := h'
    rw [h0] at k0
    rw [h1] at k1
    rw [h2] at k2
    rw [h3] at k3
    cases k0
    cases k1
    cases k2
    cases k3
    rw [rdE_fun e e' _ he he', rdL_fun g (o + 4) r r' (by simpa using hlen) hr hr']
end
mutual
/-- No name is longer than a string may be. -/
def E.nok : E → Prop
  | .mk _ _ nm l => nm.size ≤ maxLen ∧ nokL l
def nokL : List E → Prop
  | [] => True
  | e :: r => e.nok ∧ nokL r
end
theorem nok_get : ∀ (l : List E), nokL l → ∀ (k : Nat) (h : k < l.length), l[k].nok
  | [], _, k, h => absurd h (by simp)
  | e :: r, ho, 0, _ => ho.1
  | e :: r, ho, k + 1, h => nok_get r ho.2 k (by simpa using h)
/-- An expression stands at this address, in blocks that can be compared. -/
def AtE (w : World) (a : Addr) (e : E) : Prop := ∃ n0 g o v0 v1 v2 v3, a = ⟨g, o, none⟩ ∧ PlainAt w g ∧ w.cell? ⟨g, o, none⟩ = some v0 ∧ w.cell? ⟨g, o + 1, none⟩ = some v1 ∧ w.cell? ⟨g, o + 2, none⟩ = some v2 ∧ w.cell? ⟨g, o + 3, none⟩ = some v3 ∧ RdE w (PF n0 w) e (.agg #[v0, v1, v2, v3]) ∧ e.nok
theorem atE_fun {w : World} {a : Addr} {e e' : E} (h : AtE w a e) (h' : AtE w a e') : e = e' := by
  obtain ⟨_, g, o, v0, v1, v2, v3, rfl, _, h0, h1, h2, h3, he, _⟩ := h
  obtain ⟨_, g', o', u0, u1, u2, u3, hq, _, k0, k1, k2, k3, he', _⟩ := h'
  injection hq with hq1 hq2
  subst hq1
  subst hq2
  rw [h0] at k0
  rw [h1] at k1
  rw [h2] at k2
  rw [h3] at k3
  cases k0
  cases k1
  cases k2
  cases k3
  exact rdE_fun e e' _ he he'
theorem AtE.plain {w : World} {a : Addr} {e : E} (h : AtE w a e) : PlainAt w a.block := by
  obtain ⟨_, g, o, _, _, _, _, rfl, hp, _⟩ := h
  exact hp
theorem AtE.below {w w' : World} {a : Addr} {e : E} (h : AtE w a e) (b : Below w.heap.size w w') : AtE w' a e := by
  obtain ⟨n0, g, o, v0, v1, v2, v3, rfl, hp, h0, h1, h2, h3, he, hn⟩ := h
  exact ⟨n0, g, o, v0, v1, v2, v3, rfl, hp.below b, (b.cell (block_lt_of_cell h0)).trans h0, (b.cell (block_lt_of_cell h1)).trans h1, (b.cell (block_lt_of_cell h2)).trans h2, (b.cell (block_lt_of_cell h3)).trans h3, he.pbelow b, hn⟩
/-- The cells of an expression in memory, and where its operands stand. -/
theorem AtE.open_ {w : World} {a : Addr} {op n : Int} {nm : ByteArray} {l : List E} (h : AtE w a (.mk op n nm l)) : ∃ g o b cap, a = ⟨g, o, none⟩ ∧ g < w.heap.size ∧ w.cell? ⟨g, o, none⟩ = some (.int .i64 op) ∧ w.cell? ⟨g, o + 1, none⟩ = some (.int .i64 n) ∧
    w.cell? ⟨g, o + 2, none⟩ = some (.string nm) ∧ w.cell? ⟨g, o + 3, none⟩ = some (.slice b l.length cap) ∧ nm.size ≤ maxLen ∧ (0 < l.length → ∃ g', b = some ⟨g', 0, none⟩ ∧ ∀ k (hk : k < l.length), AtE w ⟨g', k * 4, none⟩ l[k]) := by
  obtain ⟨n0, g, o, v0, v1, v2, v3, rfl, hpl, h0, h1, h2, h3, ⟨b, cap, hv, hl⟩, hnok⟩ := h
  injection hv with hv
  simp at hv
  obtain ⟨rfl, rfl, rfl, rfl⟩ := hv
  refine ⟨g, o, b, cap, rfl, hpl.lt, h0, h1, h2, h3, hnok.1, fun hpos => ?_⟩
  rcases hl with hl | ⟨g', hb, hS, hr⟩
  · rw [hl] at hpos
    exact absurd hpos (by simp)
  · refine ⟨g', hb, fun k hk => ?_⟩
    obtain ⟨u0, u1, u2, u3, c0, c1, c2, c3, he⟩ := rdL_at l 0 hr k hk
    rw [Nat.zero_add] at c0 c1 c2 c3
    exact ⟨n0, g', k * 4, u0, u1, u2, u3, rfl, hS.2, c0, c1, c2, c3, he, nok_get l hnok.2 k hk⟩
end Par
end Go.Proofs.Ytiemibngfckgdaa
