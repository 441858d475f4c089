/-
  Expressions in memory as a forest: what stands at an address is one expression; every node fits just if the expression is shaped.
-/
import Derived.Test.YtncflfadgcaldaaGreatDoorEvB
import Derived.Test.YtncflfadgcaldaaGreatDoorParM
namespace Go.Proofs.YtncflfadgcaldaaGreatDoor
open Go.RowKit
open Par

namespace Par
open Tok (T Bs)
mutual
def E.sz : E → Nat
  | .mk _ _ _ l => szL l + 1
def szL : List E → Nat
  | [] => 0
  | e :: r => e.sz + szL r
end
theorem szL_sum : ∀ l : List E, szL l = (l.map E.sz).sum
  | [] => rfl
  | e :: r => by simp only [szL, List.map_cons, List.sum_cons, szL_sum r]
/-- How many operands an operator has. -/
def arity (op : Int) : Nat := if op = 1 ∨ op = 2 then 0 else if op = 3 ∨ op = 4 ∨ op = 5 then 1 else 2
/-- A node is shaped, apart from its operands. -/
def fitN (op n : Int) (nm : ByteArray) (k : Nat) : Bool :=
  decide (1 ≤ op) && decide (op ≤ 18) && decide (k = arity op) && (if op = 2 ∨ op = 3 then Tok.isName nm.data.toList else decide (nm.size = 0)) && (decide (n = 0) || (decide (op = 1) && decide (0 < n)))
def E.fit : E → Bool
  | .mk op n nm l => fitN op n nm l.length
mutual
/-- A shaped expression. -/
def shE : E → Bool
  | .mk op n nm l => fitN op n nm l.length && shL l
def shL : List E → Bool
  | [] => true
  | e :: r => shE e && shL r
end
theorem shL_all : ∀ l : List E, shL l = true ↔ ∀ e ∈ l, shE e = true
  | [] => by simp [shL]
  | e :: r => by simp [shL, shL_all r]
mutual
theorem rdE_fun {w : World} {S S' : Nat → Prop} : ∀ (e e' : E) (v : Value), RdE w S e v → RdE w S' e' v → e = e'
  | .mk op n nm l, .mk op' n' nm' l', v, h, h' => by
    obtain ⟨a, cap, rfl, hl⟩ := h
    obtain ⟨a', cap', hv, hl'⟩ := h'
    injection hv with hv
    simp at hv
    obtain ⟨rfl, rfl, rfl, rfl, hlen, rfl⟩ := hv
    have : l = l' := by
      cases l with
      | nil =>
        cases l' with
        | nil => rfl
        | cons x r => simp at hlen
      | cons x r =>
        cases l' with
        | nil => simp at hlen
        | cons x' r' =>
          obtain ⟨g, hg, _, hr⟩ := hl.resolve_left (by simp)
          obtain ⟨g', hg', _, hr'⟩ := hl'.resolve_left (by simp)
          have : g = g' := by
            rw [hg] at hg'
            injection hg' with hg'
            injection hg' with h1
          subst this
          exact rdL_fun g 0 (x :: r) (x' :: r') hlen hr hr'
    rw [this]
theorem rdL_fun {w : World} {S S' : Nat → Prop} (g : Nat) : ∀ (o : Nat) (l l' : List E), l.length = l'.length → RdL w S g o l → RdL w S' g o l' → l = l'
  | _, [], [], _, _, _ => rfl
  | _, [], _ :: _, h, _, _ => by simp at h
  | _, _ :: _, [], h, _, _ => by simp at h
  | o, e :: r, e' :: r', hlen, h, h' => by
    obtain ⟨⟨v0, v1, v2, v3, h0, h1, h2, h3, he⟩, hr⟩ := h
    obtain ⟨⟨u0, u1, u2, u3, k0, k1, k2, k3, he'⟩, hr'⟩ := h'
    rw [h0] at k0
    rw [h1] at k1
    rw [h2] at k2
    rw [h3] at k3
    cases k0
    cases k1
    cases k2
    cases k3
    rw [rdE_fun e e' _ he he', rdL_fun g (o + 4) r r' (by simpa using hlen) hr hr']
end
mutual
/-- No name is longer than a string may be. -/
def E.nok : E → Prop
  | .mk _ _ nm l => nm.size ≤ maxLen ∧ nokL l
def nokL : List E → Prop
  | [] => True
  | e :: r => e.nok ∧ nokL r
end
theorem nok_get : ∀ (l : List E), nokL l → ∀ (k : Nat) (h : k < l.length), l[k].nok
  | [], _, k, h => absurd h (by simp)
  | e :: r, ho, 0, _ => ho.1
  | e :: r, ho, k + 1, h => nok_get r ho.2 k (by simpa using h)
/-- An expression stands at this address, in blocks that can be compared. -/
def AtE (w : World) (a : Addr) (e : E) : Prop := ∃ n0 g o v0 v1 v2 v3, a = ⟨g, o, none⟩ ∧ PlainAt w g ∧ w.cell? ⟨g, o, none⟩ = some v0 ∧ w.cell? ⟨g, o + 1, none⟩ = some v1 ∧ w.cell? ⟨g, o + 2, none⟩ = some v2 ∧ w.cell? ⟨g, o + 3, none⟩ = some v3 ∧ RdE w (PF n0 w) e (.agg #[v0, v1, v2, v3]) ∧ e.nok
theorem atE_fun {w : World} {a : Addr} {e e' : E} (h : AtE w a e) (h' : AtE w a e') : e = e' := by
  obtain ⟨_, g, o, v0, v1, v2, v3, rfl, _, h0, h1, h2, h3, he, _⟩ := h
  obtain ⟨_, g', o', u0, u1, u2, u3, hq, _, k0, k1, k2, k3, he', _⟩ := h'
  injection hq with hq1 hq2
  subst hq1
  subst hq2
  rw [h0] at k0
  rw [h1] at k1
  rw [h2] at k2
  rw [h3] at k3
  cases k0
  cases k1
  cases k2
  cases k3
  exact rdE_fun e e' _ he he'
/-- The operands' addresses. -/
def kidsE (w : World) (a : Addr) : List Addr := match w.cell? ⟨a.block, a.off + 3, none⟩ with
  | some (.slice (some b) n _) => (List.range n).map fun k => ⟨b.block, k * 4, none⟩
  | _ => []
open Classical in
noncomputable def evE (w : World) (a : Addr) : E := if h : ∃ e, AtE w a e then Classical.choose h else .mk 0 0 ⟨#[]⟩ []
theorem evE_eq {w : World} {a : Addr} {e : E} (h : AtE w a e) : evE w a = e := by
  have hx : ∃ e, AtE w a e := ⟨e, h⟩
  unfold evE
  rw [dif_pos hx]
  exact atE_fun (Classical.choose_spec hx) h
theorem kidsE_eq {w : World} {a : Addr} {op n : Int} {nm : ByteArray} {l : List E} (h : AtE w a (.mk op n nm l)) : ∃ u, w.cell? ⟨a.block, a.off + 3, none⟩ = some u ∧ Ev.Leads 4 u (kidsE w a) ∧ (kidsE w a).length = l.length ∧ ∀ k (hk : k < l.length) (hk' : k < (kidsE w a).length), AtE w ((kidsE w a)[k]) l[k] := by
  obtain ⟨n0, g, o, v0, v1, v2, v3, rfl, hpl, h0, h1, h2, h3, ⟨b, cap, hv, hl⟩, hnok⟩ := h
  injection hv with hv
  simp at hv
  obtain ⟨rfl, rfl, rfl, rfl⟩ := hv
  refine ⟨_, h3, ?_⟩
  have hk : ∀ b', b = some b' → kidsE w ⟨g, o, none⟩ = (List.range l.length).map fun k => ⟨b'.block, k * 4, none⟩ := by
    intro b' hb
    unfold kidsE
    rw [h3, hb]
  have h00 : l = [] → kidsE w ⟨g, o, none⟩ = [] := by
    intro hl0
    unfold kidsE
    rw [h3, hl0]
    cases b <;> rfl
  rcases hl with hl | ⟨g', hb, hS, hr⟩
  · have e := h00 hl
    rw [e, hl]
    exact ⟨⟨b, cap, rfl, fun h => absurd h (by simp)⟩, rfl, fun k hk => absurd hk (by simp)⟩
  · have e := hk _ hb
    rw [e]
    refine ⟨⟨b, cap, by simp, fun _ => ⟨g', hb, fun k hk => by simp⟩⟩, by simp, fun k hk hk' => ?_⟩
    obtain ⟨u0, u1, u2, u3, c0, c1, c2, c3, he⟩ := rdL_at l 0 hr k hk
    rw [Nat.zero_add] at c0 c1 c2 c3
    exact ⟨n0, g', k * 4, u0, u1, u2, u3, by simp, hS.2, c0, c1, c2, c3, he, nok_get l hnok.2 k hk⟩
theorem kid_mem {w : World} {a : Addr} {op n : Int} {nm : ByteArray} {l : List E} (h : AtE w a (.mk op n nm l)) {c : Addr} (hc : c ∈ kidsE w a) : ∃ e, e ∈ l ∧ AtE w c e := by
  obtain ⟨u, _, _, hlen, hat⟩ := kidsE_eq h
  obtain ⟨k, hk, rfl⟩ := List.getElem_of_mem hc
  exact ⟨l[k]'(by omega), List.getElem_mem _, hat k (by omega) hk⟩
theorem ht_mem : ∀ (l : List E) (e : E), e ∈ l → e.ht ≤ htL l
  | [], _, h => nomatch h
  | x :: r, e, h => by
    rcases List.mem_cons.1 h with rfl | h
    · simp only [htL]; omega
    · have := ht_mem r e h
      simp only [htL]
      omega
theorem kids_sum {w : World} {a : Addr} {op n : Int} {nm : ByteArray} {l : List E} (h : AtE w a (.mk op n nm l)) : (kidsE w a).map (fun c => (evE w c).sz) = l.map E.sz := by
  obtain ⟨u, _, _, hlen, hat⟩ := kidsE_eq h
  apply List.ext_getElem
  · simp [hlen]
  · intro k h1 h2
    simp only [List.length_map] at h1 h2
    rw [List.getElem_map, List.getElem_map, evE_eq (hat k h2 h1)]
/-- The expressions of a world. -/
noncomputable def forestE (w : World) : Ev.Forest where
  D := fun a => ∃ e, AtE w a e
  kids := kidsE w
  ht := fun a => (evE w a).ht
  sz := fun a => (evE w a).sz
  fit := fun a => (evE w a).fit
  down := by
    rintro a ⟨⟨op, n, nm, l⟩, h⟩ c hc
    obtain ⟨e, he, hce⟩ := kid_mem h hc
    refine ⟨⟨e, hce⟩, ?_⟩
    rw [evE_eq h, evE_eq hce]
    have := ht_mem l e he
    simp only [E.ht]
    omega
  size := by
    rintro a ⟨⟨op, n, nm, l⟩, h⟩
    rw [kids_sum h, evE_eq h]
    simp only [E.sz, szL_sum]
    exact Nat.le_refl _
theorem allE : ∀ (N : Nat) (w : World) (a : Addr) (e : E), e.ht ≤ N → AtE w a e → (Ev.All (forestE w) a ↔ shE e = true)
  | 0, w, a, .mk op n nm l, hN, _ => by simp [E.ht] at hN
  | N + 1, w, a, .mk op n nm l, hN, h => by
    obtain ⟨u, _, _, hlen, hat⟩ := kidsE_eq h
    have hN2 : htL l ≤ N := by simp only [E.ht] at hN; omega
    have hfit : (forestE w).fit a = fitN op n nm l.length := by
      show (evE w a).fit = _
      rw [evE_eq h]
      rfl
    simp only [shE, Bool.and_eq_true, shL_all]
    constructor
    · intro hall
      refine ⟨hfit ▸ Ev.all_fit hall, fun e he => ?_⟩
      obtain ⟨k, hk, rfl⟩ := List.getElem_of_mem he
      have hk' : k < (kidsE w a).length := by omega
      exact (allE N w _ _ (by have := ht_get l k hk; omega) (hat k hk hk')).1 (Ev.all_kids hall _ (List.getElem_mem hk'))
    · rintro ⟨h1, h2⟩
      refine .mk a (hfit.trans h1) (fun c hc => ?_)
      obtain ⟨k, hk, rfl⟩ := List.getElem_of_mem hc
      have hk2 : k < (kidsE w a).length := hk
      have hk' : k < l.length := by omega
      exact (allE N w _ _ (by have := ht_get l k hk'; omega) (hat k hk' hk2)).2 (h2 _ (List.getElem_mem hk'))
theorem AtE.plain {w : World} {a : Addr} {e : E} (h : AtE w a e) : PlainAt w a.block := by
  obtain ⟨_, g, o, _, _, _, _, rfl, hp, _⟩ := h
  exact hp
end Par
end Go.Proofs.YtncflfadgcaldaaGreatDoor
