/-
  What the maker of expressions makes: shaped expressions of a bounded text.
-/
import Derived.Test.YtiemibngfckgdaaMkA
namespace Go.Proofs.Ytiemibngfckgdaa
open Go.RowKit
open Par

namespace Par
open Tok (T Bs)
mutual
/-- A bound of the text of an expression. -/
def bnd : E → Nat
  | .mk _ _ nm l => 40 + nm.size + bndL l
def bndL : List E → Nat
  | [] => 0
  | e :: r => bnd e + bndL r
end
/-- How many operands an operator has. -/
def ar (op : Int) : Nat := if op ≤ 2 then 0 else if op ≤ 5 then 1 else 2
/-- A node that the document calls shaped: operator, number, name, how many operands. -/
structure Node (op n : Int) (nm : ByteArray) (k : Nat) : Prop where
  lo : 1 ≤ op
  hi : op ≤ 18
  n0 : 0 ≤ n
  n1 : n ≤ 9223372036854775807
  ar : k = ar op
  num : op = 1 ∨ n = 0
  name : op = 2 ∨ op = 3 → Tok.isName nm.data.toList = true ∧ nm.size ≤ 64
  bare : ¬ (op = 2 ∨ op = 3) → nm = ⟨#[]⟩
mutual
/-- A shaped expression. -/
def Fit : E → Prop
  | .mk op n nm l => Node op n nm l.length ∧ FitL l
def FitL : List E → Prop
  | [] => True
  | e :: r => Fit e ∧ FitL r
end
theorem fit_num {z : Int} (h0 : 0 ≤ z) (h1 : z ≤ 9223372036854775807) : Fit (.mk 1 z ⟨#[]⟩ []) :=
  ⟨⟨by decide, by decide, h0, h1, by decide, .inl rfl, fun h => absurd h (by decide), fun _ => rfl⟩, trivial⟩
theorem fit_name {s : ByteArray} (h : Tok.isName s.data.toList = true) (hs : s.size ≤ 64) : Fit (.mk 2 0 s []) :=
  ⟨⟨by decide, by decide, by decide, by decide, by decide, .inr rfl, fun _ => ⟨h, hs⟩, fun h => absurd h (by decide)⟩, trivial⟩
theorem fit_index {s : ByteArray} {e : E} (h : Tok.isName s.data.toList = true) (hs : s.size ≤ 64) (he : Fit e) : Fit (.mk 3 0 s [e]) :=
  ⟨⟨by decide, by decide, by decide, by decide, rfl, .inr rfl, fun _ => ⟨h, hs⟩, fun h => absurd h (by decide)⟩, he, trivial⟩
theorem fit_una {o : Int} {e : E} (h : o = 4 ∨ o = 5) (he : Fit e) : Fit (.mk o 0 ⟨#[]⟩ [e]) :=
  ⟨⟨by omega, by omega, by decide, by decide, by unfold ar; rw [if_neg (by omega), if_pos (by omega)]; rfl, .inr rfl, fun h => by omega, fun _ => rfl⟩, he, trivial⟩
theorem fit_bin {o : Int} {a b : E} (h1 : 6 ≤ o) (h2 : o ≤ 18) (ha : Fit a) (hb : Fit b) : Fit (Par.binary o a b) :=
  ⟨⟨by omega, by omega, by decide, by decide, by unfold ar; rw [if_neg (by omega), if_neg (by omega)]; rfl, .inr rfl, fun h => by omega, fun _ => rfl⟩, ha, hb, trivial⟩
/-- The bound at a depth. -/
def room : Nat → Nat
  | 0 => 42
  | d + 1 => 42 + 2 * room d
theorem room_le : ∀ d, 42 ≤ room d
  | 0 => Nat.le_refl _
  | d + 1 => by simp only [room]; omega
/-- What making an expression at depth d leaves. -/
def PostM (d T : Nat) (A : Option Addr) (len cap : Nat) (xs : List Nat) (w : World) (e : Ending) (w' : World) : Prop :=
  ∃ op n nm a ln cp, e = .returned (.agg #[.int .i64 op, .int .i64 n, .string nm, .slice a ln cp]) ∧ (Kept T w w' ∧ ∃ k, Tp w' T A len cap xs k) ∧
    ∃ x, Fit x ∧ bnd x ≤ room d ∧ RdE w' (PF w.heap.size w') x (.agg #[.int .i64 op, .int .i64 n, .string nm, .slice a ln cp])
def LM (d : Nat) : Prop := ∀ (w : World) (L T : Nat) (A : Option Addr) (len cap : Nat) (xs : List Nat) (k : Nat), Tp w T A len cap xs k → w.cell? ⟨L, 0, none⟩ = some (.pointer (some ⟨T, 0, none⟩)) → L ≠ T →
  Calls Try.prog 23 #[.pointer (some ⟨L, 0, none⟩), .int .i64 d] w (PostM d T A len cap xs w)
theorem next_at (z : Int) (n : Nat) (hz : z = n) (w : World) (T : Nat) (A : Option Addr) (len cap : Nat) (xs : List Nat) (k : Nat) (h : Tp w T A len cap xs k) (hn : 1 ≤ n) (hn2 : n ≤ 1000) :
    Calls Try.prog 34 #[.pointer (some ⟨T, 0, none⟩), .int .i64 z] w fun e w' => e = .returned (.int .i64 (nx xs k n)) ∧ Kept T w w' ∧ Tp w' T A len cap xs (nk xs k) :=
  hz ▸ next_any w T A len cap xs k n h hn hn2
/-- A new block's cells stand behind a call. -/
theorem Kept.newAt {P : Nat} {w w1 : World} {cs : Array Value} {t : TypeId} (h : Kept P (w.alloc (.cells cs t)) w1) (hP : P < w.heap.size) {j : Nat} {u : Value} (hj : cs[j]? = some u) : w1.cell? ⟨w.heap.size, j, none⟩ = some u :=
  (h.cell (by simp) (by omega)).trans ((World.cell?_alloc_at _ _ _ _ (by simp)).trans hj)
theorem mfin {T : Nat} {w w1 : World} {A : Option Addr} {len cap : Nat} {xs : List Nat} {k n : Nat} {x : E} {v : Value} (u0 u1 u2 u3 : Value) (hk : Kept T w w1) (hT : T < w.heap.size) (ht : Tp w1 T A len cap xs k) (hn : w.heap.size < n)
    (hv : RdE w1 (PF n w1) x v) {W : World} (hW : W = (((w1.setCell ⟨w.heap.size, 0, none⟩ u0).setCell ⟨w.heap.size, 1, none⟩ u1).setCell ⟨w.heap.size, 2, none⟩ u2).setCell ⟨w.heap.size, 3, none⟩ u3) :
    (Kept T w W ∧ ∃ k, Tp W T A len cap xs k) ∧ RdE W (PF w.heap.size W) x v := by
  have h1 : Kept T w W ∧ ∃ k, Tp W T A len cap xs k := by
    subst hW
    exact ⟨(((hk.setNew (p := ⟨w.heap.size, 0, none⟩) (Nat.le_refl _) _).setNew (p := ⟨w.heap.size, 1, none⟩) (Nat.le_refl _) _).setNew (p := ⟨w.heap.size, 2, none⟩) (Nat.le_refl _) _).setNew (p := ⟨w.heap.size, 3, none⟩) (Nat.le_refl _) _,
      k, ht.past (((((Below.refl _ _).setCell (p := ⟨w.heap.size, 0, none⟩) hT _).setCell (p := ⟨w.heap.size, 1, none⟩) hT _).setCell (p := ⟨w.heap.size, 2, none⟩) hT _).setCell (p := ⟨w.heap.size, 3, none⟩) hT _)⟩
  have hB : ∀ g, n ≤ g → W.heap[g]? = w1.heap[g]? := by
    subst hW
    intro g hg
    have hne : g ≠ w.heap.size := by omega
    rw [Below.heap_setCell _ _ _ _ hne, Below.heap_setCell _ _ _ _ hne, Below.heap_setCell _ _ _ _ hne, Below.heap_setCell _ _ _ _ hne]
  clear hW
  exact ⟨h1, RdE.turn (fun g oo u hg hc => ⟨(World.cell?_of_block (hB g hg.1)).trans hc, Nat.le_of_lt (Nat.lt_of_lt_of_le hn hg.1), hg.2.of_block (hB g hg.1)⟩) _ _ hv⟩
theorem nums_at (j : Nat) (hj : j < 8) : ∃ z : Int, 0 ≤ z ∧ z ≤ 9223372036854775807 ∧ (#[Value.int .i64 0, .int .i64 1, .int .i64 2, .int .i64 3, .int .i64 7, .int .i64 10, .int .i64 100, .int .i64 9223372036854775807] : Array Value)[j]? = some (.int .i64 z) := by
  rcases (show j = 0 ∨ j = 1 ∨ j = 2 ∨ j = 3 ∨ j = 4 ∨ j = 5 ∨ j = 6 ∨ j = 7 by omega) with rfl | rfl | rfl | rfl | rfl | rfl | rfl | rfl
  all_goals exact ⟨_, by decide, by decide, rfl⟩
theorem names_at (j : Nat) (hj : j < 10) : ∃ s : ByteArray, (s.size ≤ 2 ∧ Tok.isName s.data.toList = true) ∧ (#[Value.string ⟨#[120]⟩, .string ⟨#[121]⟩, .string ⟨#[97]⟩, .string ⟨#[98]⟩, .string ⟨#[118]⟩, .string ⟨#[113]⟩, .string ⟨#[109]⟩, .string ⟨#[116]⟩, .string ⟨#[122, 122]⟩, .string ⟨#[102]⟩] : Array Value)[j]? = some (.string s) := by
  rcases (show j = 0 ∨ j = 1 ∨ j = 2 ∨ j = 3 ∨ j = 4 ∨ j = 5 ∨ j = 6 ∨ j = 7 ∨ j = 8 ∨ j = 9 by omega) with rfl | rfl | rfl | rfl | rfl | rfl | rfl | rfl | rfl | rfl
  all_goals exact ⟨_, ⟨by decide, by decide⟩, rfl⟩
end Par

end Go.Proofs.Ytiemibngfckgdaa
