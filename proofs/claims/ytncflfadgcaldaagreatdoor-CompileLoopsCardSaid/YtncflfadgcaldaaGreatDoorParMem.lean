/-
  How expressions, tokens and the parser's state lie in memory; what a call of one of its methods leaves.
-/
import Derived.Test.YtncflfadgcaldaaGreatDoorRows
import Derived.Test.YtncflfadgcaldaaGreatDoorParSpec
import Derived.WalkKit
import Derived.Below
import Derived.Lib.Hide
import Derived.Deep.QuietTactic
import Derived.BigQuiet
namespace Go.Proofs.YtncflfadgcaldaaGreatDoor
open Go.RowKit

namespace Par
open Tok (T Bs)
/-- Besides block P nothing that was there has turned. -/
structure Kept (P : Nat) (w w' : World) : Prop where
  os : w'.os = w.os
  tape : w'.tape = w.tape
  output : w'.output = w.output
  size : w.heap.size ≤ w'.heap.size
  block : ∀ k, k < w.heap.size → k ≠ P → w'.heap[k]? = w.heap[k]?
theorem Kept.refl (P : Nat) (w : World) : Kept P w w := ⟨rfl, rfl, rfl, Nat.le_refl _, fun _ _ _ => rfl⟩
theorem Kept.trans {P : Nat} {a b c : World} (h : Kept P a b) (k : Kept P b c) : Kept P a c :=
  ⟨k.os.trans h.os, k.tape.trans h.tape, k.output.trans h.output, Nat.le_trans h.size k.size, fun i hi hp => (k.block i (Nat.lt_of_lt_of_le hi h.size) hp).trans (h.block i hi hp)⟩
theorem Kept.of_below {P : Nat} {w w' : World} (h : Below w.heap.size w w') : Kept P w w' := ⟨h.os, h.tape, h.output, h.size, fun k hk _ => h.block k hk⟩
theorem Kept.below {P : Nat} {a w w' : World} {B : Nat} (h : Below B a w) (k : Kept P w w') (hP : B ≤ P) (hB : B ≤ w.heap.size) : Below B a w' :=
  h.trans ⟨k.os, k.tape, k.output, k.size, fun i hi => k.block i (by omega) (by omega)⟩
theorem Kept.alloc {P : Nat} {a w : World} (h : Kept P a w) (o : Obj) : Kept P a (w.alloc o) :=
  h.trans ⟨rfl, rfl, rfl, by simp, fun k hk _ => Below.heap_alloc _ _ _ hk⟩
theorem Kept.setOwn {P : Nat} {a w : World} (h : Kept P a w) (o : Nat) (u : Value) : Kept P a (w.setCell ⟨P, o, none⟩ u) :=
  h.trans ⟨rfl, rfl, rfl, by simp [World.setCell], fun k _ hp => Below.heap_setCell _ _ _ _ hp⟩
theorem Kept.setNew {P : Nat} {a w : World} (h : Kept P a w) {p : Addr} (hp : a.heap.size ≤ p.block) (u : Value) : Kept P a (w.setCell p u) :=
  ⟨h.os, h.tape, h.output, by simpa [World.setCell] using h.size, fun k hk hP => (Below.heap_setCell _ _ _ _ (by omega)).trans (h.block k hk hP)⟩
theorem Kept.drewN {P : Nat} {a w : World} (h : Kept P a w) (n : Nat) : Kept P a (w.drewN n) := h.trans ⟨rfl, rfl, rfl, Nat.le_refl _, fun _ _ _ => rfl⟩
theorem Kept.cell {P : Nat} {w w' : World} (h : Kept P w w') {g o : Nat} (hg : g < w.heap.size) (hp : g ≠ P) : w'.cell? ⟨g, o, none⟩ = w.cell? ⟨g, o, none⟩ :=
  World.cell?_of_block (w := w) (h.block g hg hp)

theorem Kept.frozen {P : Nat} {w w' : World} (h : Kept P w w') {g o : Nat} (hg : g < w.heap.size) (hp : g ≠ P) : w'.frozen? ⟨g, o, none⟩ = w.frozen? ⟨g, o, none⟩ :=
  World.frozen?_of_block (w := w) (h.block g hg hp)
theorem and_use {p q : Prop} (h : p) (k : p → q) : p ∧ q := ⟨h, k h⟩
/-- A new block (a result's, a local variable's) still holds what it held behind a call. -/
theorem Kept.new3 {P : Nat} {w w1 : World} {a b c : Value} {t : TypeId} (h : Kept P (w.alloc (.cells #[a, b, c] t)) w1) (hP : P < w.heap.size) :
    w1.cell? ⟨w.heap.size, 0, none⟩ = some a ∧ w1.cell? ⟨w.heap.size, 1, none⟩ = some b ∧ w1.cell? ⟨w.heap.size, 2, none⟩ = some c ∧
    w1.frozen? ⟨w.heap.size, 0, none⟩ = false ∧ w1.frozen? ⟨w.heap.size, 1, none⟩ = false ∧ w1.frozen? ⟨w.heap.size, 2, none⟩ = false ∧ w.heap.size < w1.heap.size ∧ ¬ P = w.heap.size ∧ ¬ w.heap.size = P := by
  have hs := h.size
  simp at hs
  refine ⟨(h.cell (by simp) (by omega)).trans (by simp), (h.cell (by simp) (by omega)).trans (by simp), (h.cell (by simp) (by omega)).trans (by simp),
    (h.frozen (by simp) (by omega)).trans (by simp), (h.frozen (by simp) (by omega)).trans (by simp), (h.frozen (by simp) (by omega)).trans (by simp), hs, by omega, by omega⟩
theorem Kept.new4 {P : Nat} {w w1 : World} {a b c d : Value} {t : TypeId} (h : Kept P (w.alloc (.cells #[a, b, c, d] t)) w1) (hP : P < w.heap.size) :
    w1.cell? ⟨w.heap.size, 0, none⟩ = some a ∧ w1.cell? ⟨w.heap.size, 1, none⟩ = some b ∧ w1.cell? ⟨w.heap.size, 2, none⟩ = some c ∧ w1.cell? ⟨w.heap.size, 3, none⟩ = some d ∧
    w1.frozen? ⟨w.heap.size, 0, none⟩ = false ∧ w1.frozen? ⟨w.heap.size, 1, none⟩ = false ∧ w1.frozen? ⟨w.heap.size, 2, none⟩ = false ∧ w1.frozen? ⟨w.heap.size, 3, none⟩ = false ∧ w.heap.size < w1.heap.size ∧ ¬ P = w.heap.size ∧ ¬ w.heap.size = P := by
  have hs := h.size
  simp at hs
  refine ⟨(h.cell (by simp) (by omega)).trans (by simp), (h.cell (by simp) (by omega)).trans (by simp), (h.cell (by simp) (by omega)).trans (by simp), (h.cell (by simp) (by omega)).trans (by simp),
    (h.frozen (by simp) (by omega)).trans (by simp), (h.frozen (by simp) (by omega)).trans (by simp), (h.frozen (by simp) (by omega)).trans (by simp), (h.frozen (by simp) (by omega)).trans (by simp), hs, by omega, by omega⟩

/-- A block of four cells that may be written. -/
structure Box4 (w : World) (b : Nat) (v0 v1 v2 v3 : Value) : Prop where
  c0 : w.cell? ⟨b, 0, none⟩ = some v0
  c1 : w.cell? ⟨b, 1, none⟩ = some v1
  c2 : w.cell? ⟨b, 2, none⟩ = some v2
  c3 : w.cell? ⟨b, 3, none⟩ = some v3
  f0 : w.frozen? ⟨b, 0, none⟩ = false
  f1 : w.frozen? ⟨b, 1, none⟩ = false
  f2 : w.frozen? ⟨b, 2, none⟩ = false
  f3 : w.frozen? ⟨b, 3, none⟩ = false
theorem Box4.lt {w : World} {b : Nat} {v0 v1 v2 v3 : Value} (h : Box4 w b v0 v1 v2 v3) : b < w.heap.size := block_lt_of_cell h.c0
theorem Box4.kept {P : Nat} {w w' : World} {b : Nat} {v0 v1 v2 v3 : Value} (h : Box4 w b v0 v1 v2 v3) (k : Kept P w w') (hb : b ≠ P) : Box4 w' b v0 v1 v2 v3 :=
  ⟨(k.cell h.lt hb).trans h.c0, (k.cell h.lt hb).trans h.c1, (k.cell h.lt hb).trans h.c2, (k.cell h.lt hb).trans h.c3,
    (k.frozen h.lt hb).trans h.f0, (k.frozen h.lt hb).trans h.f1, (k.frozen h.lt hb).trans h.f2, (k.frozen h.lt hb).trans h.f3⟩
theorem Box4.new (w : World) (v0 v1 v2 v3 : Value) (t : TypeId) : Box4 (w.alloc (.cells #[v0, v1, v2, v3] t)) w.heap.size v0 v1 v2 v3 := by
  constructor <;> simp

theorem Box4.below {w w' : World} {b : Nat} {v0 v1 v2 v3 : Value} (h : Box4 w b v0 v1 v2 v3) (k : Below w.heap.size w w') : Box4 w' b v0 v1 v2 v3 :=
  ⟨(k.cell (p := ⟨b, 0, none⟩) h.lt).trans h.c0, (k.cell (p := ⟨b, 1, none⟩) h.lt).trans h.c1, (k.cell (p := ⟨b, 2, none⟩) h.lt).trans h.c2, (k.cell (p := ⟨b, 3, none⟩) h.lt).trans h.c3,
    (k.frozen (p := ⟨b, 0, none⟩) h.lt).trans h.f0, (k.frozen (p := ⟨b, 1, none⟩) h.lt).trans h.f1, (k.frozen (p := ⟨b, 2, none⟩) h.lt).trans h.f2, (k.frozen (p := ⟨b, 3, none⟩) h.lt).trans h.f3⟩
theorem Box4.at {w : World} {v0 v1 v2 v3 : Value} {t : TypeId} {n : Nat} (hn : n = w.heap.size) : Box4 (w.alloc (.cells #[v0, v1, v2, v3] t)) n v0 v1 v2 v3 := hn ▸ Box4.new w v0 v1 v2 v3 t

/-- The cells of tokens in memory. -/
def tcells (ts : List T) : List Value := ts.flatMap fun t => [.int .i64 t.1, .string ⟨t.2.1.toArray⟩, .int .i64 t.2.2]
/-- The value is a slice that holds these tokens, not in block P. -/
def Toks (w : World) (P : Nat) (v : Value) (ts : List T) : Prop :=
  ∃ ad cap, v = .slice ad ts.length cap ∧ (0 < ts.length → ∃ g, ad = some ⟨g, 0, none⟩ ∧ g < P ∧ g < w.heap.size ∧ ∀ j u, (tcells ts)[j]? = some u → w.cell? ⟨g, j, none⟩ = some u)
theorem Toks.below {P : Nat} {w w' : World} {v : Value} {ts : List T} (h : Toks w P v ts) (k : Below P w w') : Toks w' P v ts := by
  obtain ⟨ad, cap, hv, hc⟩ := h
  refine ⟨ad, cap, hv, fun hp => ?_⟩
  obtain ⟨g, ha, hgp, hg, hcell⟩ := hc hp
  exact ⟨g, ha, hgp, Nat.lt_of_lt_of_le hg k.size, fun j u hj => (k.cell (p := ⟨g, j, none⟩) hgp).trans (hcell j u hj)⟩
theorem Kept.lower {P : Nat} {w w' : World} (k : Kept P w w') (hP : P ≤ w.heap.size) : Below P w w' := ⟨k.os, k.tape, k.output, k.size, fun i hi => k.block i (by omega) (by omega)⟩
theorem tcells_at : ∀ (ts : List T) (k : Nat) (h : k < ts.length), (tcells ts)[k * 3]? = some (.int .i64 ts[k].1) ∧ (tcells ts)[k * 3 + 1]? = some (.string ⟨ts[k].2.1.toArray⟩) ∧ (tcells ts)[k * 3 + 2]? = some (.int .i64 ts[k].2.2)
  | [], k, h => absurd h (by simp)
  | t :: r, 0, _ => by simp [tcells]
  | t :: r, k + 1, h => by
    have ih := tcells_at r k (by simpa using h)
    have e : tcells (t :: r) = .int .i64 t.1 :: .string ⟨t.2.1.toArray⟩ :: .int .i64 t.2.2 :: tcells r := by simp [tcells]
    rw [e, show (k + 1) * 3 = k * 3 + 3 by omega]
    simpa using ih
/-- The k-th token's three cells. -/
theorem Toks.at_ {w : World} {P : Nat} {v : Value} {ts : List T} (h : Toks w P v ts) (k : Nat) (hk : k < ts.length) :
    ∃ g cap, v = .slice (some ⟨g, 0, none⟩) ts.length cap ∧ g < P ∧ g < w.heap.size ∧ w.cell? ⟨g, k * 3, none⟩ = some (.int .i64 ts[k].1) ∧ w.cell? ⟨g, k * 3 + 1, none⟩ = some (.string ⟨ts[k].2.1.toArray⟩) ∧ w.cell? ⟨g, k * 3 + 2, none⟩ = some (.int .i64 ts[k].2.2) := by
  obtain ⟨ad, cap, hv, hc⟩ := h
  obtain ⟨g, rfl, hgp, hg, hcell⟩ := hc (by omega)
  obtain ⟨h1, h2, h3⟩ := tcells_at ts k hk
  exact ⟨g, cap, hv, hgp, hg, hcell _ _ h1, hcell _ _ h2, hcell _ _ h3⟩

/-- The parser's state: the tokens that are left, and whether it still reads. -/
inductive St where
  | on (r : List T)
  | off (r : List T)
def St.rem : St → List T
  | .on r => r
  | .off r => r
def St.bad : St → Bool
  | .on _ => false
  | .off _ => true
/-- The tokens that the parser sees. -/
def St.see : St → List T
  | .on r => r
  | .off _ => []
/-- The state behind a reader. -/
def after {α : Type} (f : Pa α) : St → St
  | .off r => .off r
  | .on r => match f r with
    | .error q => .off q
    | .ok (_, q) => .on q
/-- What a reader makes of the tokens, where it succeeds. -/
def val {α : Type} (f : Pa α) : St → Option α
  | .off _ => none
  | .on r => match f r with
    | .error _ => none
    | .ok (x, _) => some x
/-- The variable strconv.ErrSyntax lies outside of block P, and holds an error. -/
def VarS (w : World) (P : Nat) : Prop := 3 < w.heap.size ∧ 3 < P ∧ ∃ te pe, w.cell? ⟨3, 0, none⟩ = some (.iface te pe)
theorem VarS.below {w w' : World} {P : Nat} (h : VarS w P) (k : Below P w w') : VarS w' P := by
  obtain ⟨h1, h2, te, pe, hc⟩ := h
  exact ⟨Nat.lt_of_lt_of_le h1 k.size, h2, te, pe, (k.cell (p := ⟨3, 0, none⟩) h2).trans hc⟩
/-- The parser of package parse lies in block P: its tokens, the next one's number, whether it has failed. -/
structure At (w : World) (P : Nat) (all : List T) (st : St) (v : Value) (k : Nat) : Prop where
  toks : Toks w P v all
  le : k ≤ all.length
  drop : all.drop k = st.rem
  c0 : w.cell? ⟨P, 0, none⟩ = some v
  c1 : w.cell? ⟨P, 1, none⟩ = some (.int .i64 k)
  c2 : w.cell? ⟨P, 2, none⟩ = some (.bool st.bad)
  f1 : w.frozen? ⟨P, 1, none⟩ = false
  f2 : w.frozen? ⟨P, 2, none⟩ = false
  lt : P < w.heap.size
  vs : VarS w P
  sm : all.length ≤ 5000
  wf : ∀ t ∈ all, WF t
def Is (w : World) (P : Nat) (all : List T) (st : St) : Prop := ∃ v k, At w P all st v k
theorem At.past {w w' : World} {P : Nat} {all : List T} {st : St} {v : Value} {k : Nat} (h : At w P all st v k) (b : Below (P + 1) w w') : At w' P all st v k :=
  have hP : P < P + 1 := Nat.lt_succ_self P
  ⟨h.toks.below (b.mono (Nat.le_succ P)), h.le, h.drop, (b.cell (p := ⟨P, 0, none⟩) hP).trans h.c0, (b.cell (p := ⟨P, 1, none⟩) hP).trans h.c1, (b.cell (p := ⟨P, 2, none⟩) hP).trans h.c2,
    (b.frozen (p := ⟨P, 1, none⟩) hP).trans h.f1, (b.frozen (p := ⟨P, 2, none⟩) hP).trans h.f2, Nat.lt_of_lt_of_le h.lt b.size, h.vs.below (b.mono (Nat.le_succ P)), h.sm, h.wf⟩
theorem At.below {w w' : World} {P : Nat} {all : List T} {st : St} {v : Value} {k : Nat} (h : At w P all st v k) (b : Below w.heap.size w w') : At w' P all st v k := h.past (b.mono h.lt)
theorem Is.past {w w' : World} {P : Nat} {all : List T} {st : St} (h : Is w P all st) (b : Below (P + 1) w w') : Is w' P all st := by
  obtain ⟨v, k, h⟩ := h
  exact ⟨v, k, h.past b⟩
theorem Is.below {w w' : World} {P : Nat} {all : List T} {st : St} (h : Is w P all st) (b : Below w.heap.size w w') : Is w' P all st := by
  obtain ⟨v, k, h⟩ := h
  exact ⟨v, k, h.below b⟩
theorem Is.drew {w : World} {P : Nat} {all : List T} {st : St} (h : Is w P all st) : Is w.drew P all st := h.below (Below.refl _ _).drew
/-- One token further. -/
theorem At.step {w w' : World} {P : Nat} {all : List T} {t : T} {r : List T} {v : Value} {k : Nat} (h : At w P all (.on (t :: r)) v k) (hk : Kept P w w')
    (c0 : w'.cell? ⟨P, 0, none⟩ = some v) (c1 : w'.cell? ⟨P, 1, none⟩ = some (.int .i64 ((k : Int) + 1))) (c2 : w'.cell? ⟨P, 2, none⟩ = some (.bool false))
    (f1 : w'.frozen? ⟨P, 1, none⟩ = false) (f2 : w'.frozen? ⟨P, 2, none⟩ = false) : At w' P all (.on r) v (k + 1) := by
  have hd := h.drop
  have hlen := congrArg List.length hd
  simp only [St.rem, List.length_drop, List.length_cons] at hlen
  refine ⟨h.toks.below (hk.lower (Nat.le_of_lt h.lt)), by omega, ?_, c0, ?_, c2, f1, f2, Nat.lt_of_lt_of_le h.lt hk.size, h.vs.below (hk.lower (Nat.le_of_lt h.lt)), h.sm, h.wf⟩
  · rw [← List.tail_drop, hd]; rfl
  · rw [c1]; norm_cast
/-- The parser has failed. -/
theorem At.fail {w w' : World} {P : Nat} {all : List T} {st : St} {v : Value} {k : Nat} (h : At w P all st v k) (hk : Kept P w w')
    (c0 : w'.cell? ⟨P, 0, none⟩ = some v) (c1 : w'.cell? ⟨P, 1, none⟩ = some (.int .i64 k)) (c2 : w'.cell? ⟨P, 2, none⟩ = some (.bool true))
    (f1 : w'.frozen? ⟨P, 1, none⟩ = false) (f2 : w'.frozen? ⟨P, 2, none⟩ = false) : At w' P all (.off st.rem) v k :=
  ⟨h.toks.below (hk.lower (Nat.le_of_lt h.lt)), h.le, h.drop, c0, c1, c2, f1, f2, Nat.lt_of_lt_of_le h.lt hk.size, h.vs.below (hk.lower (Nat.le_of_lt h.lt)), h.sm, h.wf⟩
mutual
/-- The value is this expression; what it leads to lies in blocks of the set S. -/
def RdE (w : World) (S : Nat → Prop) : E → Value → Prop
  | .mk op n nm l, v => ∃ a cap, v = .agg #[.int .i64 op, .int .i64 n, .string nm, .slice a l.length cap] ∧ (l = [] ∨ ∃ g, a = some ⟨g, 0, none⟩ ∧ S g ∧ RdL w S g 0 l)
def RdL (w : World) (S : Nat → Prop) (g : Nat) : Nat → List E → Prop
  | _, [] => True
  | o, e :: r => (∃ v0 v1 v2 v3, w.cell? ⟨g, o, none⟩ = some v0 ∧ w.cell? ⟨g, o + 1, none⟩ = some v1 ∧ w.cell? ⟨g, o + 2, none⟩ = some v2 ∧ w.cell? ⟨g, o + 3, none⟩ = some v3 ∧ RdE w S e (.agg #[v0, v1, v2, v3])) ∧ RdL w S g (o + 4) r
end
mutual
theorem RdE.turn {w w' : World} {S S' : Nat → Prop} (h : ∀ k o u, S k → w.cell? ⟨k, o, none⟩ = some u → w'.cell? ⟨k, o, none⟩ = some u ∧ S' k) : ∀ (e : E) (v : Value), RdE w S e v → RdE w' S' e v
  | .mk op n nm l, v, hv => by
    obtain ⟨a, cap, rfl, hl⟩ := hv
    refine ⟨a, cap, rfl, ?_⟩
    rcases hl with hl | ⟨g, ha, hg, hr⟩
    · exact .inl hl
    · match l, hr with
      | [], _ => exact .inl rfl
      | e :: r, hr =>
        obtain ⟨⟨v0, v1, v2, v3, h0, h1, h2, h3, he⟩, hr⟩ := hr
        exact .inr ⟨g, ha, (h _ _ _ hg h0).2, ⟨v0, v1, v2, v3, (h _ _ _ hg h0).1, (h _ _ _ hg h1).1, (h _ _ _ hg h2).1, (h _ _ _ hg h3).1, RdE.turn h e _ he⟩, RdL.turn h g hg _ r hr⟩
theorem RdL.turn {w w' : World} {S S' : Nat → Prop} (h : ∀ k o u, S k → w.cell? ⟨k, o, none⟩ = some u → w'.cell? ⟨k, o, none⟩ = some u ∧ S' k) (g : Nat) (hg : S g) : ∀ (o : Nat) (l : List E), RdL w S g o l → RdL w' S' g o l
  | _, [], _ => trivial
  | o, e :: r, hl => by
    obtain ⟨⟨v0, v1, v2, v3, h0, h1, h2, h3, he⟩, hr⟩ := hl
    exact ⟨⟨v0, v1, v2, v3, (h _ _ _ hg h0).1, (h _ _ _ hg h1).1, (h _ _ _ hg h2).1, (h _ _ _ hg h3).1, RdE.turn h e _ he⟩, RdL.turn h g hg _ r hr⟩
end
/-- Blocks from n on. -/
def From (n : Nat) : Nat → Prop := fun g => n ≤ g
theorem RdE.kept {w w' : World} {P : Nat} {S : Nat → Prop} {e : E} {v : Value} (h : RdE w S e v) (k : Kept P w w') (hS : ∀ g, S g → g ≠ P) : RdE w' S e v :=
  RdE.turn (fun b _ _ hk hc => ⟨(k.cell (g := b) (block_lt_of_cell hc) (hS b hk)).trans hc, hk⟩) e v h
theorem RdE.below {w w' : World} {S : Nat → Prop} {e : E} {v : Value} (h : RdE w S e v) (k : Below w.heap.size w w') : RdE w' S e v :=
  RdE.turn (fun _ _ _ hk hc => ⟨(k.cell (block_lt_of_cell hc)).trans hc, hk⟩) e v h
theorem RdE.weak {w : World} {S S' : Nat → Prop} {e : E} {v : Value} (h : RdE w S e v) (hS : ∀ g, S g → g < w.heap.size → S' g) : RdE w S' e v :=
  RdE.turn (fun k o _ hk hc => ⟨hc, hS k hk (block_lt_of_cell (a := ⟨k, o, none⟩) hc)⟩) e v h

/-- Block g holds cells, and none of them is frozen. -/
def PlainAt (w : World) (g : Nat) : Prop := ∃ cs t, w.heap[g]? = some (.cells cs t)
theorem PlainAt.of_block {w w' : World} {g : Nat} (h : PlainAt w g) (k : w'.heap[g]? = w.heap[g]?) : PlainAt w' g := by
  obtain ⟨cs, t, hg⟩ := h
  exact ⟨cs, t, k.trans hg⟩
theorem PlainAt.lt {w : World} {g : Nat} (h : PlainAt w g) : g < w.heap.size := by
  obtain ⟨cs, t, hg⟩ := h
  exact (Array.getElem?_eq_some_iff.1 hg).1
theorem PlainAt.below {w w' : World} {g : Nat} (h : PlainAt w g) (b : Below w.heap.size w w') : PlainAt w' g := h.of_block (b.block g h.lt)
theorem PlainAt.kept {P : Nat} {w w' : World} {g : Nat} (h : PlainAt w g) (b : Kept P w w') (hg : g ≠ P) : PlainAt w' g := h.of_block (b.block g h.lt hg)
theorem plain_new {w : World} {n : Nat} {cs : Array Value} {t : TypeId} (hn : n = w.heap.size) : PlainAt (w.alloc (.cells cs t)) n := by
  subst hn
  exact ⟨cs, t, by simp only [← World.alloc_eq, Array.getElem?_push_size]⟩
theorem PlainAt.frozen {w : World} {g : Nat} (h : PlainAt w g) (o : Nat) : w.frozen? ⟨g, o, none⟩ = false := by
  obtain ⟨cs, t, hg⟩ := h
  simp [World.frozen?, hg]
/-- New blocks from n on that can be compared. -/
def PF (n : Nat) (w : World) : Nat → Prop := fun g => n ≤ g ∧ PlainAt w g
theorem RdE.pbelow {w w' : World} {n : Nat} {e : E} {v : Value} (h : RdE w (PF n w) e v) (b : Below w.heap.size w w') : RdE w' (PF n w') e v :=
  RdE.turn (fun _ _ _ hk hc => ⟨(b.cell (block_lt_of_cell hc)).trans hc, hk.1, hk.2.below b⟩) e v h
theorem RdE.pkept {P : Nat} {w w' : World} {n : Nat} {e : E} {v : Value} (h : RdE w (PF n w) e v) (k : Kept P w w') (hS : ∀ g, n ≤ g → g ≠ P) : RdE w' (PF n w') e v :=
  RdE.turn (fun b _ _ hk hc => ⟨(k.cell (g := b) (block_lt_of_cell hc) (hS b hk.1)).trans hc, hk.1, hk.2.kept k (hS b hk.1)⟩) e v h
theorem RdE.pweak {w : World} {m n : Nat} {e : E} {v : Value} (h : RdE w (PF n w) e v) (hm : m ≤ n) : RdE w (PF m w) e v :=
  RdE.turn (fun _ _ _ hk hc => ⟨hc, Nat.le_trans hm hk.1, hk.2⟩) e v h
theorem RdE.from {w : World} {n : Nat} {e : E} {v : Value} (h : RdE w (PF n w) e v) : RdE w (From n) e v := h.weak (fun _ hg _ => hg.1)
/-- Nothing that was new has turned. -/
theorem RdE.move {w w' : World} {n m : Nat} {e : E} {v : Value} (h : RdE w (PF n w) e v) (hb : ∀ g, n ≤ g → g < w.heap.size → w'.heap[g]? = w.heap[g]?) (hm : m ≤ n) : RdE w' (PF m w') e v :=
  RdE.turn (fun g _ _ hg hc => have hk := hb g hg.1 (block_lt_of_cell hc)
    ⟨(World.cell?_of_block hk).trans hc, Nat.le_trans hm hg.1, hg.2.of_block hk⟩) e v h
theorem RdE.goes {P : Nat} {w w' : World} {n m : Nat} {e : E} {v : Value} (h : RdE w (PF n w) e v) (k : Kept P w w') (hP : P < n) (hm : m ≤ n) : RdE w' (PF m w') e v :=
  h.move (fun g hg hl => k.block g hl (by omega)) hm
theorem RdL.move {w w' : World} {n m g0 : Nat} (hg0 : PF n w g0) (hb : ∀ g, n ≤ g → g < w.heap.size → w'.heap[g]? = w.heap[g]?) (hm : m ≤ n) (o : Nat) (l : List E) (h : RdL w (PF n w) g0 o l) : RdL w' (PF m w') g0 o l :=
  RdL.turn (fun g _ _ hg hc => have hk := hb g hg.1 (block_lt_of_cell hc)
    ⟨(World.cell?_of_block hk).trans hc, Nat.le_trans hm hg.1, hg.2.of_block hk⟩) g0 hg0 o l h

/-- What a method that reads an expression leaves. -/
def PostE (f : Pa E) (P : Nat) (all : List T) (st : St) (w : World) (e : Ending) (w' : World) : Prop :=
  ∃ op n nm a len cap, e = .returned (.agg #[.int .i64 op, .int .i64 n, .string nm, .slice a len cap]) ∧ Kept P w w' ∧ Is w' P all (after f st) ∧
    ∀ x, val f st = some x → RdE w' (PF w.heap.size w') x (.agg #[.int .i64 op, .int .i64 n, .string nm, .slice a len cap])
end Par
end Go.Proofs.YtncflfadgcaldaaGreatDoor
