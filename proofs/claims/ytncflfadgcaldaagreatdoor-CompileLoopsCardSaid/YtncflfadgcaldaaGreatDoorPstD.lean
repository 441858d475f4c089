/-
  How statements lie in memory; what the methods that read what follows a statement's word leave.
-/
import Derived.Test.YtncflfadgcaldaaGreatDoorPstC
namespace Go.Proofs.YtncflfadgcaldaaGreatDoor
open Go.RowKit
open Par

namespace Par
open Tok (T Bs)
/-- The value is a slice of these expressions. -/
def SlE (w : World) (S : Nat → Prop) (l : List E) (v : Value) : Prop := ∃ a cap, v = .slice a l.length cap ∧ (l = [] ∨ ∃ g, a = some ⟨g, 0, none⟩ ∧ S g ∧ RdL w S g 0 l)
mutual
/-- These cells are the statement; what they lead to lies in blocks of the set S. -/
def RdS (w : World) (S : Nat → Prop) : Sm → List Value → Prop
  | .mk op line name arg ix ex body els, cs => ∃ v4 e0 e1 e2 e3 a9 c9 a10 c10, cs = [.int .i64 op, .int .i64 line, .string ⟨name.toArray⟩, .string ⟨arg.toArray⟩, v4, e0, e1, e2, e3, .slice a9 body.length c9, .slice a10 els.length c10] ∧
      SlE w S ix v4 ∧ RdE w S ex (.agg #[e0, e1, e2, e3]) ∧
      (body = [] ∨ ∃ g xs, a9 = some ⟨g, 0, none⟩ ∧ S g ∧ VSs w S body xs ∧ ∀ j u, xs[j]? = some u → w.cell? ⟨g, j, none⟩ = some u) ∧
      (els = [] ∨ ∃ g xs, a10 = some ⟨g, 0, none⟩ ∧ S g ∧ VSs w S els xs ∧ ∀ j u, xs[j]? = some u → w.cell? ⟨g, j, none⟩ = some u)
def VSs (w : World) (S : Nat → Prop) : List Sm → List Value → Prop
  | [], xs => xs = []
  | s :: r, xs => ∃ cs rest, xs = cs ++ rest ∧ RdS w S s cs ∧ VSs w S r rest
end
/-- The value is a slice of these statements. -/
def SlS (w : World) (S : Nat → Prop) (l : List Sm) (v : Value) : Prop :=
  ∃ a cap, v = .slice a l.length cap ∧ (l = [] ∨ ∃ g xs, a = some ⟨g, 0, none⟩ ∧ S g ∧ VSs w S l xs ∧ ∀ j u, xs[j]? = some u → w.cell? ⟨g, j, none⟩ = some u)
theorem SlE.turn {w w' : World} {S S' : Nat → Prop} (h : ∀ k o u, S k → w.cell? ⟨k, o, none⟩ = some u → w'.cell? ⟨k, o, none⟩ = some u ∧ S' k) {l : List E} {v : Value} (hl : SlE w S l v) : SlE w' S' l v := by
  obtain ⟨a, cap, rfl, hl⟩ := hl
  refine ⟨a, cap, rfl, ?_⟩
  rcases hl with hl | ⟨g, ha, hg, hr⟩
  · exact .inl hl
  · match l, hr with
    | [], _ => exact .inl rfl
    | e :: r, hr =>
      have hr2 := RdL.turn h g hg 0 _ hr
      obtain ⟨⟨v0, _, _, _, h0, _⟩, _⟩ := hr
      exact .inr ⟨g, ha, (h _ _ _ hg h0).2, hr2⟩
theorem RdS.len {w : World} {S : Nat → Prop} {s : Sm} {cs : List Value} (h : RdS w S s cs) : cs.length = 11 := by
  obtain ⟨op, line, name, arg, ix, ex, body, els⟩ := s
  obtain ⟨_, _, _, _, _, _, _, _, _, rfl, _⟩ := h
  rfl
mutual
theorem RdS.turn {w w' : World} {S S' : Nat → Prop} (h : ∀ k o u, S k → w.cell? ⟨k, o, none⟩ = some u → w'.cell? ⟨k, o, none⟩ = some u ∧ S' k) : ∀ (s : Sm) (cs : List Value), RdS w S s cs → RdS w' S' s cs
  | .mk op line name arg ix ex body els, cs, hs => by
    obtain ⟨v4, e0, e1, e2, e3, a9, c9, a10, c10, rfl, h4, he, hb, hl⟩ := hs
    refine ⟨v4, e0, e1, e2, e3, a9, c9, a10, c10, rfl, h4.turn h, RdE.turn h _ _ he, ?_, ?_⟩
    · rcases hb with hb | ⟨g, xs, ha, hg, hv, hc⟩
      · exact .inl hb
      · match body, hv with
        | [], _ => exact .inl rfl
        | s :: r, hv =>
          have hv2 := VSs.turn h (s :: r) xs hv
          obtain ⟨cs, rest, rfl, hs, _⟩ := hv
          have h0 : ∃ u, (cs ++ rest)[0]? = some u := by
            have := RdS.len hs
            match cs, this with
            | c :: _, _ => exact ⟨c, rfl⟩
          obtain ⟨u, hu⟩ := h0
          exact .inr ⟨g, _, ha, (h _ _ _ hg (hc _ _ hu)).2, hv2, fun j u hj => (h _ _ _ hg (hc j u hj)).1⟩
    · rcases hl with hb | ⟨g, xs, ha, hg, hv, hc⟩
      · exact .inl hb
      · match els, hv with
        | [], _ => exact .inl rfl
        | s :: r, hv =>
          have hv2 := VSs.turn h (s :: r) xs hv
          obtain ⟨cs, rest, rfl, hs, _⟩ := hv
          have h0 : ∃ u, (cs ++ rest)[0]? = some u := by
            have := RdS.len hs
            match cs, this with
            | c :: _, _ => exact ⟨c, rfl⟩
          obtain ⟨u, hu⟩ := h0
          exact .inr ⟨g, _, ha, (h _ _ _ hg (hc _ _ hu)).2, hv2, fun j u hj => (h _ _ _ hg (hc j u hj)).1⟩
theorem VSs.turn {w w' : World} {S S' : Nat → Prop} (h : ∀ k o u, S k → w.cell? ⟨k, o, none⟩ = some u → w'.cell? ⟨k, o, none⟩ = some u ∧ S' k) : ∀ (l : List Sm) (xs : List Value), VSs w S l xs → VSs w' S' l xs
  | [], _, hx => hx
  | s :: r, _, hx => by
    obtain ⟨cs, rest, rfl, hs, hr⟩ := hx
    exact ⟨cs, rest, rfl, RdS.turn h s cs hs, VSs.turn h r rest hr⟩
end
theorem VSs.snoc {w : World} {S : Nat → Prop} : ∀ (l : List Sm) (xs : List Value) (s : Sm) (cs : List Value), VSs w S l xs → RdS w S s cs → VSs w S (l ++ [s]) (xs ++ cs)
  | [], xs, s, cs, hx, hs => by
    have : xs = [] := hx
    subst this
    exact ⟨cs, [], by simp, hs, rfl⟩
  | t :: r, _, s, cs, hx, hs => by
    obtain ⟨c2, rest, rfl, ht, hr⟩ := hx
    exact ⟨c2, rest ++ cs, by simp, ht, VSs.snoc r rest s cs hr hs⟩
theorem VSs.len {w : World} {S : Nat → Prop} : ∀ (l : List Sm) (xs : List Value), VSs w S l xs → xs.length = l.length * 11
  | [], xs, hx => by
    have : xs = [] := hx
    subst this
    rfl
  | s :: r, _, hx => by
    obtain ⟨cs, rest, rfl, hs, hr⟩ := hx
    have h1 := hs.len
    have h2 := VSs.len r rest hr
    simp only [List.length_append, List.length_cons]
    omega

/-- A block that holds these values and may be written. -/
def Box (w : World) (b : Nat) (vs : List Value) : Prop := ∀ j u, vs[j]? = some u → w.cell? ⟨b, j, none⟩ = some u ∧ w.frozen? ⟨b, j, none⟩ = false
theorem Box.far {w : World} {b : Nat} {vs : List Value} (h : Box w b vs) {a : Addr} (ha : b ≠ a.block) (u : Value) : Box (w.setCell a u) b vs := fun j v hj => by
  have hb := Below.heap_setCell w a u b ha
  exact ⟨(World.cell?_of_block hb).trans (h j v hj).1, (World.frozen?_of_block hb).trans (h j v hj).2⟩
theorem Box.set {w : World} {b : Nat} {vs : List Value} (h : Box w b vs) {j : Nat} (u : Value) (hj : j < vs.length) : Box (w.setCell ⟨b, j, none⟩ u) b (vs.set j u) := by
  intro k v hk
  have hold := h j vs[j] (List.getElem?_eq_getElem hj)
  refine ⟨?_, ?_⟩
  · by_cases e : j = k
    · subst e
      rw [List.getElem?_set_self hj] at hk
      cases hk
      exact World.cell?_setCell_same (h := hold.1) ..
    · rw [List.getElem?_set_ne e] at hk
      have hne : (⟨b, j, none⟩ : Addr) ≠ ⟨b, k, none⟩ := by intro hh; injection hh with _ h2; exact e h2
      exact (World.cell?_setCell_other (h := hne) ..).trans (h k v hk).1
  · rw [World.frozen?_setCell]
    by_cases e : j = k
    · subst e; exact hold.2
    · rw [List.getElem?_set_ne e] at hk
      exact (h k v hk).2
theorem Box.new (w : World) (cs : Array Value) (t : TypeId) : Box (w.alloc (.cells cs t)) w.heap.size cs.toList := by
  intro j u hj
  have h : cs[j]? = some u := by simpa using hj
  exact ⟨by simp [h], by simp⟩
/-- Besides blocks P and B nothing that was there has turned. -/
structure Kept2 (P B : Nat) (w w' : World) : Prop where
  os : w'.os = w.os
  tape : w'.tape = w.tape
  output : w'.output = w.output
  size : w.heap.size ≤ w'.heap.size
  block : ∀ k, k < w.heap.size → k ≠ P → k ≠ B → w'.heap[k]? = w.heap[k]?
theorem Kept2.refl (P B : Nat) (w : World) : Kept2 P B w w := ⟨rfl, rfl, rfl, Nat.le_refl _, fun _ _ _ _ => rfl⟩
theorem Kept2.trans {P B : Nat} {a b c : World} (h : Kept2 P B a b) (k : Kept2 P B b c) : Kept2 P B a c :=
  ⟨k.os.trans h.os, k.tape.trans h.tape, k.output.trans h.output, Nat.le_trans h.size k.size, fun i hi hp hb => (k.block i (Nat.lt_of_lt_of_le hi h.size) hp hb).trans (h.block i hi hp hb)⟩
theorem Kept2.of {P B : Nat} {w w' : World} (h : Kept P w w') : Kept2 P B w w' := ⟨h.os, h.tape, h.output, h.size, fun k hk hp _ => h.block k hk hp⟩
theorem Kept2.set {P B : Nat} {a w : World} (h : Kept2 P B a w) (o : Nat) (u : Value) : Kept2 P B a (w.setCell ⟨B, o, none⟩ u) :=
  h.trans ⟨rfl, rfl, rfl, by simp [World.setCell], fun k _ _ hb => Below.heap_setCell _ _ _ _ hb⟩
/-- From before the block was laid: the block is new. -/
theorem Kept2.drop {P B : Nat} {a b c : World} (h : Kept P a b) (k : Kept2 P B b c) (hB : a.heap.size ≤ B) : Kept P a c :=
  ⟨k.os.trans h.os, k.tape.trans h.tape, k.output.trans h.output, Nat.le_trans h.size k.size, fun i hi hp => (k.block i (Nat.lt_of_lt_of_le hi h.size) hp (by omega)).trans (h.block i hi hp)⟩
/-- A new statement of this kind on this line, before its fields are read. -/
def bare (op line : Int) : List Value := [.int .i64 op, .int .i64 line, .string ⟨#[]⟩, .string ⟨#[]⟩, .slice none 0 0, .int .i64 0, .int .i64 0, .string ⟨#[]⟩, .slice none 0 0, .slice none 0 0, .slice none 0 0]
/-- Values of a statement's shape. -/
def Shape (vs : List Value) : Prop := ∃ op line nm ag a4 l4 c4 e0 e1 e2 a3 l3 c3 a9 l9 c9 a10 l10 c10,
  vs = [.int .i64 op, .int .i64 line, .string nm, .string ag, .slice a4 l4 c4, .int .i64 e0, .int .i64 e1, .string e2, .slice a3 l3 c3, .slice a9 l9 c9, .slice a10 l10 c10]
/-- What a method leaves that reads what follows a statement's word into block B. -/
def PostMe (f : Pa Sm) (P B : Nat) (all : List T) (st : St) (w : World) (e : Ending) (w' : World) : Prop :=
  e = .returned (.tuple #[]) ∧ Kept2 P B w w' ∧ Is w' P all (after f st) ∧ ∃ vs, Box w' B vs ∧ Shape vs ∧ ∀ s, val f st = some s → RdS w' (PF w.heap.size w') s vs
/-- What 'block' leaves. -/
def PostB (f : Pa (List Sm)) (P : Nat) (all : List T) (st : St) (w : World) (e : Ending) (w' : World) : Prop :=
  ∃ a n cap, e = .returned (.slice a n cap) ∧ Went P all (after f st) w w' ∧ ∀ l, val f st = some l → SlS w' (PF w.heap.size w') l (.slice a n cap)
/-- The method 'block' reads statements by f, where at most N tokens are left. -/
def BM (f : Pa Sm) (N : Nat) : Prop := ∀ (w : World) (P : Nat) (all : List T) (st : St), Is w P all st → st.rem.length ≤ N → Calls Tryz.prog 39 #[.pointer (some ⟨P, 0, none⟩)] w (PostB (blockP f) P all st w)
end Par
end Go.Proofs.YtncflfadgcaldaaGreatDoor
