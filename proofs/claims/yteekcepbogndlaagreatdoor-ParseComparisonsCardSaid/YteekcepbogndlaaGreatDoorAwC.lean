/-
  What the laws' check of one fixed text calls: fittingStmt and the walk over one node, at an assignment of a number to a name.
-/
import Derived.Test.YteekcepbogndlaaGreatDoorAwB
import Derived.Deep.RegionHeld3
namespace Go.Proofs.YteekcepbogndlaaGreatDoor
open Go.RowKit
open Par

/-- The row of stmtFields for assignments. -/
def FieldsOf (w : World) : Prop :=
  w.cell? ⟨0, 6, none⟩ = some (.bool true) ∧ w.cell? ⟨0, 7, none⟩ = some (.bool false) ∧ w.cell? ⟨0, 8, none⟩ = some (.bool true) ∧
  w.cell? ⟨0, 9, none⟩ = some (.bool true) ∧ w.cell? ⟨0, 10, none⟩ = some (.bool false) ∧ w.cell? ⟨0, 11, none⟩ = some (.bool false)
theorem FieldsOf.below {w w' : World} (h : FieldsOf w) (b : Below w.heap.size w w') : FieldsOf w' := by
  obtain ⟨h0, h1, h2, h3, h4, h5⟩ := h
  have hl : 0 < w.heap.size := block_lt_of_cell h0
  exact ⟨(b.cell (p := ⟨0, 6, none⟩) hl).trans h0, (b.cell (p := ⟨0, 7, none⟩) hl).trans h1, (b.cell (p := ⟨0, 8, none⟩) hl).trans h2,
    (b.cell (p := ⟨0, 9, none⟩) hl).trans h3, (b.cell (p := ⟨0, 10, none⟩) hl).trans h4, (b.cell (p := ⟨0, 11, none⟩) hl).trans h5⟩
/-- A block that begins with an assignment of the number n to the name s. -/
structure Assign1 (w : World) (g : Nat) (s : ByteArray) (n : Int) : Prop where
  b0 : w.cell? ⟨g, 0, none⟩ = some (.int .i64 1)
  b2 : w.cell? ⟨g, 2, none⟩ = some (.string s)
  b3 : w.cell? ⟨g, 3, none⟩ = some (.string ⟨#[]⟩)
  b4 : ∃ a c, w.cell? ⟨g, 4, none⟩ = some (.slice a 0 c)
  b5 : w.cell? ⟨g, 5, none⟩ = some (.int .i64 1)
  b6 : w.cell? ⟨g, 6, none⟩ = some (.int .i64 n)
  b7 : w.cell? ⟨g, 7, none⟩ = some (.string ⟨#[]⟩)
  b8 : ∃ a c, w.cell? ⟨g, 8, none⟩ = some (.slice a 0 c)
  b9 : ∃ a c, w.cell? ⟨g, 9, none⟩ = some (.slice a 0 c)
  b10 : ∃ a c, w.cell? ⟨g, 10, none⟩ = some (.slice a 0 c)
theorem Assign1.below {w w' : World} {g : Nat} {s : ByteArray} {n : Int} (h : Assign1 w g s n) (b : Below w.heap.size w w') : Assign1 w' g s n := by
  have hl : g < w.heap.size := block_lt_of_cell h.b0
  obtain ⟨a4, c4, h4⟩ := h.b4
  obtain ⟨a8, c8, h8⟩ := h.b8
  obtain ⟨a9, c9, h9⟩ := h.b9
  obtain ⟨a10, c10, h10⟩ := h.b10
  exact ⟨(b.cell (p := ⟨g, 0, none⟩) hl).trans h.b0, (b.cell (p := ⟨g, 2, none⟩) hl).trans h.b2, (b.cell (p := ⟨g, 3, none⟩) hl).trans h.b3, ⟨a4, c4, (b.cell (p := ⟨g, 4, none⟩) hl).trans h4⟩,
    (b.cell (p := ⟨g, 5, none⟩) hl).trans h.b5, (b.cell (p := ⟨g, 6, none⟩) hl).trans h.b6, (b.cell (p := ⟨g, 7, none⟩) hl).trans h.b7, ⟨a8, c8, (b.cell (p := ⟨g, 8, none⟩) hl).trans h8⟩,
    ⟨a9, c9, (b.cell (p := ⟨g, 9, none⟩) hl).trans h9⟩, ⟨a10, c10, (b.cell (p := ⟨g, 10, none⟩) hl).trans h10⟩⟩

/-- A world of the class S. -/
structure In (S : World → Prop) where
  x : World
  h : S x
/-- A region that draws its order, whose operations yield one value each in every world of a class and leave a world of it, walked once. -/
theorem wp_region_class {I : Type} (f : I → World) {P : Program} {id : Nat} {Q : Exit → Act → World → Prop} {a : Act} {w : World} {l : List Oper} (hm : P.follows .mixedOrders = true) (hB : Region.lexB .any l.toArray = true)
    (hC : ∃ i, w.drew = f i) (h : wpQuiet P l.toArray (fun w' => ∃ i, w' = f i) (fun a' => ∀ w', (∃ i, w' = f i) → Q .normal a' w') l a) : (Code.region id l.toArray true).wp P Q a w :=
  wp_region_quiet (C := fun w' => ∃ i, w' = f i) hm hB hC (by simpa using h)
/-- What fittingStmt loads, and that nothing below block m has turned. -/
theorem held_below {w x y : World} {m g b : Nat} {s : ByteArray} {n : Int} {a4 a8 a9 a10 : Option Addr} {k4 k8 k9 k10 : Nat}
    (h : Below m w x ∧ m ≤ x.heap.size ∧ x.cell? ⟨g, 2, none⟩ = some (.string s) ∧ x.cell? ⟨g, 3, none⟩ = some (.string ⟨#[]⟩) ∧ x.cell? ⟨g, 4, none⟩ = some (.slice a4 0 k4) ∧ x.cell? ⟨g, 5, none⟩ = some (.int .i64 1) ∧ x.cell? ⟨g, 6, none⟩ = some (.int .i64 n) ∧ x.cell? ⟨g, 7, none⟩ = some (.string ⟨#[]⟩) ∧ x.cell? ⟨g, 8, none⟩ = some (.slice a8 0 k8) ∧ x.cell? ⟨g, 9, none⟩ = some (.slice a9 0 k9) ∧ x.cell? ⟨g, 10, none⟩ = some (.slice a10 0 k10) ∧ x.cell? ⟨b, 0, none⟩ = some (.bool true) ∧ x.cell? ⟨b, 1, none⟩ = some (.bool false) ∧ x.cell? ⟨b, 2, none⟩ = some (.bool true) ∧ x.cell? ⟨b, 3, none⟩ = some (.bool true) ∧ x.cell? ⟨b, 4, none⟩ = some (.bool false) ∧ x.cell? ⟨b, 5, none⟩ = some (.bool false)) (hb : Below x.heap.size x y) :
    Below m w y ∧ m ≤ y.heap.size ∧ y.cell? ⟨g, 2, none⟩ = some (.string s) ∧ y.cell? ⟨g, 3, none⟩ = some (.string ⟨#[]⟩) ∧ y.cell? ⟨g, 4, none⟩ = some (.slice a4 0 k4) ∧ y.cell? ⟨g, 5, none⟩ = some (.int .i64 1) ∧ y.cell? ⟨g, 6, none⟩ = some (.int .i64 n) ∧ y.cell? ⟨g, 7, none⟩ = some (.string ⟨#[]⟩) ∧ y.cell? ⟨g, 8, none⟩ = some (.slice a8 0 k8) ∧ y.cell? ⟨g, 9, none⟩ = some (.slice a9 0 k9) ∧ y.cell? ⟨g, 10, none⟩ = some (.slice a10 0 k10) ∧ y.cell? ⟨b, 0, none⟩ = some (.bool true) ∧ y.cell? ⟨b, 1, none⟩ = some (.bool false) ∧ y.cell? ⟨b, 2, none⟩ = some (.bool true) ∧ y.cell? ⟨b, 3, none⟩ = some (.bool true) ∧ y.cell? ⟨b, 4, none⟩ = some (.bool false) ∧ y.cell? ⟨b, 5, none⟩ = some (.bool false) := by
  obtain ⟨h0, h1, q0, q1, q2, q3, q4, q5, q6, q7, q8, q9, q10, q11, q12, q13, q14⟩ := h
  exact ⟨h0.trans (hb.mono h1), Nat.le_trans h1 hb.size, (hb.cell (p := ⟨g, 2, none⟩) (block_lt_of_cell q0)).trans q0, (hb.cell (p := ⟨g, 3, none⟩) (block_lt_of_cell q1)).trans q1, (hb.cell (p := ⟨g, 4, none⟩) (block_lt_of_cell q2)).trans q2, (hb.cell (p := ⟨g, 5, none⟩) (block_lt_of_cell q3)).trans q3, (hb.cell (p := ⟨g, 6, none⟩) (block_lt_of_cell q4)).trans q4, (hb.cell (p := ⟨g, 7, none⟩) (block_lt_of_cell q5)).trans q5, (hb.cell (p := ⟨g, 8, none⟩) (block_lt_of_cell q6)).trans q6, (hb.cell (p := ⟨g, 9, none⟩) (block_lt_of_cell q7)).trans q7, (hb.cell (p := ⟨g, 10, none⟩) (block_lt_of_cell q8)).trans q8, (hb.cell (p := ⟨b, 0, none⟩) (block_lt_of_cell q9)).trans q9, (hb.cell (p := ⟨b, 1, none⟩) (block_lt_of_cell q10)).trans q10, (hb.cell (p := ⟨b, 2, none⟩) (block_lt_of_cell q11)).trans q11, (hb.cell (p := ⟨b, 3, none⟩) (block_lt_of_cell q12)).trans q12, (hb.cell (p := ⟨b, 4, none⟩) (block_lt_of_cell q13)).trans q13, (hb.cell (p := ⟨b, 5, none⟩) (block_lt_of_cell q14)).trans q14⟩

set_option maxHeartbeats 20000000 in
set_option maxRecDepth 100000 in
theorem fittingStmt_assign (w : World) (g : Nat) (s : ByteArray) (n : Int) (hs : s.size ≤ maxLen) (hnm : Tok.isName s.data.toList = true) (hn : 0 < n) (h : Assign1 w g s n) (hf : FieldsOf w) :
    Calls Tryz.prog 91 #[.pointer (some ⟨g, 0, none⟩)] w fun e w' => e = .returned (.bool true) ∧ Below w.heap.size w w' := by
  obtain ⟨b0, b2, b3, ⟨a4, k4, b4⟩, b5, b6, b7, ⟨a8, k8, b8⟩, ⟨a9, k9, b9⟩, ⟨a10, k10, b10⟩⟩ := h
  obtain ⟨f0, f1, f2, f3, f4, f5⟩ := hf
  have hl : g < w.heap.size := block_lt_of_cell b0
  have CY := Lib.hid (fun w => fittingName_yes s w hs hnm)
  have CN := Lib.hid fittingName_no
  have CE := Lib.hid (fun w => shapedExpr_num w n a8 k8 hn)
  clear hs hnm
  go_enter Tryz.func91, Tryz.ntmps91
  go_wp2_with fail
  simp only [List.append]
  obtain ⟨S, hS⟩ : ∃ S : World → Prop, S = fun x => Below w.heap.size w x ∧ w.heap.size ≤ x.heap.size ∧ x.cell? ⟨g, 2, none⟩ = some (.string s) ∧ x.cell? ⟨g, 3, none⟩ = some (.string ⟨#[]⟩) ∧ x.cell? ⟨g, 4, none⟩ = some (.slice a4 0 k4) ∧ x.cell? ⟨g, 5, none⟩ = some (.int .i64 1) ∧ x.cell? ⟨g, 6, none⟩ = some (.int .i64 n) ∧ x.cell? ⟨g, 7, none⟩ = some (.string ⟨#[]⟩) ∧ x.cell? ⟨g, 8, none⟩ = some (.slice a8 0 k8) ∧ x.cell? ⟨g, 9, none⟩ = some (.slice a9 0 k9) ∧ x.cell? ⟨g, 10, none⟩ = some (.slice a10 0 k10) ∧ x.cell? ⟨w.heap.size, 0, none⟩ = some (.bool true) ∧ x.cell? ⟨w.heap.size, 1, none⟩ = some (.bool false) ∧ x.cell? ⟨w.heap.size, 2, none⟩ = some (.bool true) ∧ x.cell? ⟨w.heap.size, 3, none⟩ = some (.bool true) ∧ x.cell? ⟨w.heap.size, 4, none⟩ = some (.bool false) ∧ x.cell? ⟨w.heap.size, 5, none⟩ = some (.bool false) := ⟨_, rfl⟩
  have S0 : S (w.alloc (Obj.cells #[Value.bool true, Value.bool false, Value.bool true, Value.bool true, Value.bool false, Value.bool false] 151)).drew := by
    rw [hS]
    exact ⟨((Below.refl _ _).alloc (Nat.le_refl _) _).drew, by simp, by simp [go_sem, *], by simp [go_sem, *], by simp [go_sem, *], by simp [go_sem, *], by simp [go_sem, *], by simp [go_sem, *], by simp [go_sem, *], by simp [go_sem, *], by simp [go_sem, *], by simp [go_sem], by simp [go_sem], by simp [go_sem], by simp [go_sem], by simp [go_sem], by simp [go_sem]⟩
  have HS : Hid (∀ x y, S x → Below x.heap.size x y → S y) := Lib.hid (fun x y h hb => by rw [hS] at h ⊢; exact held_below h hb)
  have hSx : ∀ x, S x → Below w.heap.size w x ∧ w.heap.size ≤ x.heap.size ∧ x.cell? ⟨g, 2, none⟩ = some (.string s) ∧ x.cell? ⟨g, 3, none⟩ = some (.string ⟨#[]⟩) ∧ x.cell? ⟨g, 4, none⟩ = some (.slice a4 0 k4) ∧ x.cell? ⟨g, 5, none⟩ = some (.int .i64 1) ∧ x.cell? ⟨g, 6, none⟩ = some (.int .i64 n) ∧ x.cell? ⟨g, 7, none⟩ = some (.string ⟨#[]⟩) ∧ x.cell? ⟨g, 8, none⟩ = some (.slice a8 0 k8) ∧ x.cell? ⟨g, 9, none⟩ = some (.slice a9 0 k9) ∧ x.cell? ⟨g, 10, none⟩ = some (.slice a10 0 k10) ∧ x.cell? ⟨w.heap.size, 0, none⟩ = some (.bool true) ∧ x.cell? ⟨w.heap.size, 1, none⟩ = some (.bool false) ∧ x.cell? ⟨w.heap.size, 2, none⟩ = some (.bool true) ∧ x.cell? ⟨w.heap.size, 3, none⟩ = some (.bool true) ∧ x.cell? ⟨w.heap.size, 4, none⟩ = some (.bool false) ∧ x.cell? ⟨w.heap.size, 5, none⟩ = some (.bool false) := fun x h => by rw [hS] at h; exact h
  have HB : Hid (∀ x, S x → Below w.heap.size w x) := Lib.hid (fun x h => by rw [hS] at h; exact h.1)
  have c0 : ∀ x : In S, x.x.cell? ⟨g, 2, none⟩ = some (.string s) := fun x => (hSx x.x x.h).2.2.1
  have c1 : ∀ x : In S, x.x.cell? ⟨g, 3, none⟩ = some (.string ⟨#[]⟩) := fun x => (hSx x.x x.h).2.2.2.1
  have c2 : ∀ x : In S, x.x.cell? ⟨g, 4, none⟩ = some (.slice a4 0 k4) := fun x => (hSx x.x x.h).2.2.2.2.1
  have c3 : ∀ x : In S, x.x.cell? ⟨g, 5, none⟩ = some (.int .i64 1) := fun x => (hSx x.x x.h).2.2.2.2.2.1
  have c4 : ∀ x : In S, x.x.cell? ⟨g, 6, none⟩ = some (.int .i64 n) := fun x => (hSx x.x x.h).2.2.2.2.2.2.1
  have c5 : ∀ x : In S, x.x.cell? ⟨g, 7, none⟩ = some (.string ⟨#[]⟩) := fun x => (hSx x.x x.h).2.2.2.2.2.2.2.1
  have c6 : ∀ x : In S, x.x.cell? ⟨g, 8, none⟩ = some (.slice a8 0 k8) := fun x => (hSx x.x x.h).2.2.2.2.2.2.2.2.1
  have c7 : ∀ x : In S, x.x.cell? ⟨g, 9, none⟩ = some (.slice a9 0 k9) := fun x => (hSx x.x x.h).2.2.2.2.2.2.2.2.2.1
  have c8 : ∀ x : In S, x.x.cell? ⟨g, 10, none⟩ = some (.slice a10 0 k10) := fun x => (hSx x.x x.h).2.2.2.2.2.2.2.2.2.2.1
  have c9 : ∀ x : In S, x.x.cell? ⟨w.heap.size, 0, none⟩ = some (.bool true) := fun x => (hSx x.x x.h).2.2.2.2.2.2.2.2.2.2.2.1
  have c10 : ∀ x : In S, x.x.cell? ⟨w.heap.size, 1, none⟩ = some (.bool false) := fun x => (hSx x.x x.h).2.2.2.2.2.2.2.2.2.2.2.2.1
  have c11 : ∀ x : In S, x.x.cell? ⟨w.heap.size, 2, none⟩ = some (.bool true) := fun x => (hSx x.x x.h).2.2.2.2.2.2.2.2.2.2.2.2.2.1
  have c12 : ∀ x : In S, x.x.cell? ⟨w.heap.size, 3, none⟩ = some (.bool true) := fun x => (hSx x.x x.h).2.2.2.2.2.2.2.2.2.2.2.2.2.2.1
  have c13 : ∀ x : In S, x.x.cell? ⟨w.heap.size, 4, none⟩ = some (.bool false) := fun x => (hSx x.x x.h).2.2.2.2.2.2.2.2.2.2.2.2.2.2.2.1
  have c14 : ∀ x : In S, x.x.cell? ⟨w.heap.size, 5, none⟩ = some (.bool false) := fun x => (hSx x.x x.h).2.2.2.2.2.2.2.2.2.2.2.2.2.2.2.2
  clear hSx hS b0 b2 b3 b4 b5 b6 b7 b8 b9 b10 f0 f1 f2 f3 f4 f5
  haveI : Nonempty (In S) := ⟨⟨_, S0⟩⟩
  refine wp_region_class (I := In S) (fun x => x.x) (by kernel_rfl) (by kernel_rfl) ⟨⟨_, S0⟩, rfl⟩ ?_
  repeat (go_big_quiet_step (first
    | (go_at_call 124; (with_reducible refine (CY.out _).mono ?_); rintro e w1 ⟨rfl, hb1⟩; exact ⟨rfl, ⟨_, HS.out _ _ (In.h _) hb1⟩, rfl⟩)
    | (go_at_call 124; (with_reducible refine (CN.out _).mono ?_); rintro e w2 ⟨rfl, rfl⟩; exact ⟨rfl, _, rfl⟩)
    | (go_at_call 29; refine (CE.out _).mono ?_; rintro e w3 ⟨rfl, hb3⟩; exact ⟨rfl, ⟨_, HS.out _ _ (In.h _) hb3⟩, rfl⟩)))
  refine wpQuiet_nil ?_
  rintro _ ⟨x, rfl⟩
  have hx := HB.out _ x.h
  go_wp2_with fail
  go_ret
  exact ⟨rfl, hx⟩
end Go.Proofs.YteekcepbogndlaaGreatDoor
