/-
  ShapedExpr at a number: what the laws' check of one fixed text calls.
  ShapedExpr at a number: the walk over the one node.
  What the laws' check of one fixed text calls: fittingStmt and the walk over one node, at an assignment of a number to a name.
  The walk over one node, an assignment; shapedDecl, shapedThread, Shaped at the laws' fixed program.
-/
import Derived.Test.YtncflfadgcaldaaGreatDoorMapP
import Derived.Test.YtncflfadgcaldaaGreatDoorParD
import Derived.Test.YtncflfadgcaldaaGreatDoorTokDn
import Derived.LoopN
import Derived.Deep.RegionWith
import Derived.Deep.AppendLies
import Derived.Deep.RegionHeld3
namespace Go.Proofs.YtncflfadgcaldaaGreatDoor
open Go.RowKit
open Par

set_option maxHeartbeats 1000000 in
theorem operands_num (w : World) : Calls Tryz.prog 155 #[.int .i64 1] w fun e w' => e = .returned (.int .i64 0) ∧ w' = w := by
  go_enter Tryz.func155, Tryz.ntmps155
  go_wp2
  go_ret
  exact ⟨rfl, rfl⟩

set_option maxHeartbeats 1000000 in
theorem fittingName_no (w : World) : Calls Tryz.prog 99 #[.string ⟨#[]⟩, .bool false] w fun e w' => e = .returned (.bool true) ∧ w' = w := by
  go_enter Tryz.func99, Tryz.ntmps99
  go_wp2_with fail
  go_ret
  exact ⟨rfl, rfl⟩

set_option maxHeartbeats 1000000 in
theorem fittingName_yes (s : ByteArray) (w : World) (hs : s.size ≤ maxLen) (hn : Tok.isName s.data.toList = true) :
    Calls Tryz.prog 99 #[.string s, .bool true] w fun e w' => e = .returned (.bool true) ∧ Below w.heap.size w w' := by
  have CI := Lib.hid (fun w => isName_any s w hs)
  rw [hn] at CI
  go_enter Tryz.func99, Tryz.ntmps99
  go_wp2_with (go_at_call 69; refine (CI.out _).mono ?_; rintro e w1 ⟨rfl, hb⟩)
  go_ret
  exact ⟨rfl, hb⟩

set_option maxHeartbeats 4000000 in
set_option maxRecDepth 100000 in
theorem fittingExpr_num (w : World) (g o : Nat) (n : Int) (a : Option Addr) (cap : Nat) (hn : 0 < n)
    (c0 : w.cell? ⟨g, o, none⟩ = some (.int .i64 1)) (c1 : w.cell? ⟨g, o + 1, none⟩ = some (.int .i64 n)) (c2 : w.cell? ⟨g, o + 2, none⟩ = some (.string ⟨#[]⟩)) (c3 : w.cell? ⟨g, o + 3, none⟩ = some (.slice a 0 cap)) :
    Calls Tryz.prog 131 #[.pointer (some ⟨g, o, none⟩)] w fun e w' => e = .returned (.bool true) ∧ Below w.heap.size w w' := by
  have CO := Lib.hid operands_num
  have CF := Lib.hid fittingName_no
  have hn0 : (n == 0) = false := by simp; omega
  go_enter Tryz.func131, Tryz.ntmps131
  go_wp2_with fail
  go_quiet (first
    | (go_at_call 155; exact Calls.quiet_of_same (operands_num _))
    | (go_at_call 99; exact Calls.quiet_of_same (fittingName_no _)))
  go_wp2_with fail
  go_ret
  exact ⟨rfl, below_drewN (Below.refl _ _) _⟩
end Go.Proofs.YtncflfadgcaldaaGreatDoor

namespace Go.Proofs.YtncflfadgcaldaaGreatDoor
open Go.RowKit
open Par

theorem Tryz.infoPE : (Tryz.prog.info? 190).map (fun i => (i.zero, i.size, i.bytes)) = some (some (.pointer none), 1, 8) := by kernel_rfl

set_option maxHeartbeats 1000000 in
theorem exprParts_any (w : World) (g o : Nat) (a : Option Addr) (l c : Nat) (c3 : w.cell? ⟨g, o + 3, none⟩ = some (.slice a l c)) :
    Calls Tryz.prog 132 #[.pointer (some ⟨g, o, none⟩)] w fun e w' => ∃ b, e = .returned (.slice (some ⟨b, 0, none⟩) 1 1) ∧ Below w.heap.size w w' ∧ w'.cell? ⟨b, 0, none⟩ = some (.slice a l c) := by
  go_enter Tryz.func132, Tryz.ntmps132
  go_wp2_with fail
  go_ret
  exact ⟨_, rfl, (Below.refl _ _).alloc (Nat.le_refl _) _, by simp⟩

theorem Tryz.infoEx : (Tryz.prog.info? 81).map (fun i => (i.zero, i.size, i.bytes)) = some (some (.agg #[.int .i64 0, .int .i64 0, .string ⟨#[]⟩, .slice none 0 0]), 4, 56) := by kernel_rfl
theorem Tryz.infoIn : (Tryz.prog.info? 3).map (fun i => (i.zero, i.size, i.bytes)) = some (some (.int .i64 0), 1, 8) := by kernel_rfl
/-- A look-up of a pointer in the one map of pointers to expressions. -/
theorem lookE {w : World} {b : Nat} {L : List (Addr × Int)} (h : MapP.At w b L) (a : Addr) (hs : ∀ p ∈ L, (sameAddr a p.1).run Tryz.prog w = .ok (decide (p.1 = a)) w) :
    (Instr.lookup 211 (.map (some b)) (.pointer (some a)) false).run Tryz.prog w = .ok (.int .i64 (MapP.get L a)) w := by
  obtain ⟨i0, hi, _, hz1, _⟩ := info_parts Tryz.infoEx
  obtain ⟨i1, hi1, hz, _, _⟩ := info_parts Tryz.infoIn
  exact MapP.run_look Tryz.underlying211 Tryz.underlying190 hi (by rw [hz1]; decide) hi1 hz h a hs
theorem storeE {w : World} {b : Nat} {L : List (Addr × Int)} (h : MapP.At w b L) (a : Addr) (c : Int) (hs : ∀ p ∈ L, (sameAddr a p.1).run Tryz.prog w = .ok (decide (p.1 = a)) w) :
    ∃ w', (Instr.mapUpdate 211 (.map (some b)) (.pointer (some a)) (.int .i64 c)).run Tryz.prog w = .ok () w' ∧ MapP.At w' b (MapP.put L a c) ∧ w.grownBy w' (some b) := by
  obtain ⟨i0, hi, _, hz1, _⟩ := info_parts Tryz.infoEx
  exact MapP.run_store Tryz.underlying211 Tryz.underlying190 hi (by rw [hz1]; decide) h a c hs
theorem MapP.At.below {w w' : World} {b : Nat} {L : List (Addr × Int)} (h : MapP.At w b L) (k : Below w.heap.size w w') : MapP.At w' b L := h.kept (k.block b h.lt)
theorem below_grown {B : Nat} {a w w' : World} {b : Nat} (h : Below B a w) (k : w.grownBy w' (some b)) (hb : B ≤ b) (hB : B ≤ w.heap.size) : Below B a w' :=
  ⟨k.os.trans h.os, k.tape.trans h.tape, k.output.trans h.output, Nat.le_trans h.size k.size, fun i hi => (k.block i (by omega) (by intro e; cases e; omega)).trans (h.block i hi)⟩
theorem grown_cell {w w' : World} {b : Nat} (k : w.grownBy w' (some b)) {g o : Nat} {v : Value} (hc : w.cell? ⟨g, o, none⟩ = some v) (hg : g ≠ b) : w'.cell? ⟨g, o, none⟩ = some v :=
  (World.cell?_of_block (k.block g (block_lt_of_cell hc) (by intro e; cases e; exact hg rfl))).trans hc

set_option maxHeartbeats 4000000 in
set_option maxRecDepth 100000 in
theorem everyE_leaf (w : World) (g : Nat) (n : Int) (a : Option Addr) (cap rc : Nat) (hn : 0 < n)
    (c0 : w.cell? ⟨g, 0, none⟩ = some (.int .i64 1)) (c1 : w.cell? ⟨g, 1, none⟩ = some (.int .i64 n)) (c2 : w.cell? ⟨g, 2, none⟩ = some (.string ⟨#[]⟩)) (c3 : w.cell? ⟨g, 3, none⟩ = some (.slice a 0 cap)) :
    Calls Tryz.prog 130 #[.slice (some ⟨g, 0, none⟩) 1 rc, .func (.func 131) #[] #[], .func (.func 132) #[] #[]] w
      fun e w' => e = .returned (.bool true) ∧ Below w.heap.size w w' := by
  obtain ⟨i0, hi, hz0, hz1, hz2⟩ := info_parts Tryz.infoPE
  have hmm := @run_makeMap Tryz.prog
  have hg := block_lt_of_cell c0
  go_enter Tryz.func130, Tryz.ntmps130
  go_wp2_with fail
  refine wp_loop_rounds 2 ?_
  rw [rounds_succ]
  go_wp2_with fail
  generalize (Question.appendCap 1 0 190).cut (w.tape w.drawn (Question.appendCap 1 0 190)) = rcp
  generalize hW : World.drew (((w.alloc (Obj.map #[] 0)).alloc (Obj.cells #[Value.pointer (some ⟨g, 0, none⟩)] 190)).alloc (Obj.cells (#[Value.pointer (some ⟨g, 0, none⟩)] ++ Builtin.zeroCells #[Value.pointer none] (rcp - 1)) 190)) = W1
  have hB1 : Below w.heap.size w W1 := by
    rw [← hW]
    exact ((((Below.refl _ _).alloc (Nat.le_refl _) _).alloc (by simp) _).alloc (by simp; omega) _).drew
  have hs1 : W1.heap.size = w.heap.size + 3 := by rw [← hW]; simp
  have hM1 : MapP.At W1 w.heap.size [] := by
    refine (MapP.At.made w).below ?_
    rw [← hW]
    exact (((Below.refl _ _).alloc (Nat.le_refl _) _).alloc (by simp) _).drew
  have hC1 : W1.cell? ⟨w.heap.size + 1 + 1, 0, none⟩ = some (.pointer (some ⟨g, 0, none⟩)) := by
    rw [← hW]
    simp [go_sem, Array.getElem?_append]
  clear hW
  have c01 := (hB1.cell (p := ⟨g, 0, none⟩) hg).trans c0
  have c11 := (hB1.cell (p := ⟨g, 1, none⟩) hg).trans c1
  have c21 := (hB1.cell (p := ⟨g, 2, none⟩) hg).trans c2
  have c31 := (hB1.cell (p := ⟨g, 3, none⟩) hg).trans c3
  have L1 := lookE hM1 ⟨g, 0, none⟩ (by simp)
  have e1 : MapP.get [] ⟨g, 0, none⟩ = 0 := rfl
  rw [e1] at L1
  rw [rounds_succ]
  go_wp2_with fail
  refine wp_loop_rounds 3 ?_
  rw [rounds_succ]
  go_wp2_with (first
    | (go_at_call 131; refine (fittingExpr_num W1 g 0 n a cap hn c01 c11 c21 c31).mono ?_; rintro e W2 ⟨rfl, hB2⟩; have hM2 := hM1.below hB2; obtain ⟨W3, hst3, hM3, hg3⟩ := storeE hM2 ⟨g, 0, none⟩ 1 (by simp); have c33 := grown_cell hg3 ((hB2.cell (p := ⟨g, 3, none⟩) (block_lt_of_cell c31)).trans c31) (by omega))
    | (go_at_call 132; refine (exprParts_any W3 g 0 a 0 cap c33).mono ?_; rintro e W4 ⟨b4, rfl, hB4, c4⟩))
  have hC4 : W4.cell? ⟨w.heap.size + 1 + 1, 0, none⟩ = some (.pointer (some ⟨g, 0, none⟩)) := by
    have h2 := (hB2.cell (p := ⟨w.heap.size + 1 + 1, 0, none⟩) (block_lt_of_cell hC1)).trans hC1
    have h3 := grown_cell hg3 h2 (by omega)
    exact (hB4.cell (p := ⟨w.heap.size + 1 + 1, 0, none⟩) (block_lt_of_cell h3)).trans h3
  have hM4 : MapP.At W4 w.heap.size [(⟨g, 0, none⟩, 1)] := MapP.At.below hM3 hB4
  have L4 := lookE hM4 ⟨g, 0, none⟩ (MapP.same_one _ _)
  have e4 : MapP.get [(⟨g, 0, none⟩, 1)] ⟨g, 0, none⟩ = 1 := by simp [MapP.get, MapP.seek]
  rw [e4] at L4
  obtain ⟨W5, hst5, hM5, hg5⟩ := storeE hM4 ⟨g, 0, none⟩ 2 (MapP.same_one _ _)
  have hsz := hB4.size
  refine wp_loop_rounds 2 ?_
  rw [rounds_succ]
  go_wp2_with fail
  refine wp_loop_rounds 1 ?_
  rw [rounds_succ]
  go_wp2_with fail
  rw [rounds_succ]
  go_wp2_with fail
  rw [rounds_succ]
  go_wp2_with fail
  rw [rounds_succ]
  go_wp2_with fail
  go_ret
  have z2 := hB2.size
  have z3 := hg3.size
  have x2 := hB1.trans (hB2.mono (by omega))
  have x3 := below_grown x2 hg3 (Nat.le_refl _) (by omega)
  have x4 := x3.trans (hB4.mono (by omega))
  exact ⟨rfl, below_grown x4 hg5 (Nat.le_refl _) (by omega)⟩

set_option maxHeartbeats 1000000 in
theorem shapedExprs_leaf (w : World) (g : Nat) (n : Int) (a : Option Addr) (cap rc : Nat) (hn : 0 < n)
    (c0 : w.cell? ⟨g, 0, none⟩ = some (.int .i64 1)) (c1 : w.cell? ⟨g, 1, none⟩ = some (.int .i64 n)) (c2 : w.cell? ⟨g, 2, none⟩ = some (.string ⟨#[]⟩)) (c3 : w.cell? ⟨g, 3, none⟩ = some (.slice a 0 cap)) :
    Calls Tryz.prog 100 #[.slice (some ⟨g, 0, none⟩) 1 rc] w fun e w' => e = .returned (.bool true) ∧ Below w.heap.size w w' := by
  have C := Lib.hid (everyE_leaf w g n a cap rc hn c0 c1 c2 c3)
  go_enter Tryz.func100, Tryz.ntmps100
  go_wp2_with (go_at_call 130; refine C.out.mono ?_; rintro e w1 ⟨rfl, hb⟩)
  go_ret
  exact ⟨rfl, hb⟩

set_option maxHeartbeats 1000000 in
/-- ShapedExpr is true at a positive number. -/
theorem shapedExpr_num (w : World) (n : Int) (a : Option Addr) (cap : Nat) (hn : 0 < n) :
    Calls Tryz.prog 101 #[.agg #[.int .i64 1, .int .i64 n, .string ⟨#[]⟩, .slice a 0 cap]] w fun e w' => e = .returned (.bool true) ∧ Below w.heap.size w w' := by
  go_enter Tryz.func101, Tryz.ntmps101
  go_wp2_with (go_at_call 100; refine (shapedExprs_leaf _ (w.heap.size + 1) n a cap 1 hn ?_ ?_ ?_ ?_).mono ?_; simp [go_sem]; simp [go_sem]; simp [go_sem]; simp [go_sem]; rintro e w1 ⟨rfl, hb⟩)
  go_ret
  exact ⟨rfl, (((Below.refl _ _).alloc (Nat.le_refl _) _).alloc (by simp) _).trans (hb.mono (by simp; omega))⟩
end Go.Proofs.YtncflfadgcaldaaGreatDoor

namespace Go.Proofs.YtncflfadgcaldaaGreatDoor
open Go.RowKit
open Par

/-- The row of stmtFields for assignments. -/
def FieldsOf (w : World) : Prop :=
  w.cell? ⟨2, 6, none⟩ = some (.bool true) ∧ w.cell? ⟨2, 7, none⟩ = some (.bool false) ∧ w.cell? ⟨2, 8, none⟩ = some (.bool true) ∧
  w.cell? ⟨2, 9, none⟩ = some (.bool true) ∧ w.cell? ⟨2, 10, none⟩ = some (.bool false) ∧ w.cell? ⟨2, 11, none⟩ = some (.bool false)
theorem FieldsOf.below {w w' : World} (h : FieldsOf w) (b : Below w.heap.size w w') : FieldsOf w' := by
  obtain ⟨h0, h1, h2, h3, h4, h5⟩ := h
  have hl : 2 < w.heap.size := block_lt_of_cell h0
  exact ⟨(b.cell (p := ⟨2, 6, none⟩) hl).trans h0, (b.cell (p := ⟨2, 7, none⟩) hl).trans h1, (b.cell (p := ⟨2, 8, none⟩) hl).trans h2,
    (b.cell (p := ⟨2, 9, none⟩) hl).trans h3, (b.cell (p := ⟨2, 10, none⟩) hl).trans h4, (b.cell (p := ⟨2, 11, none⟩) hl).trans h5⟩
/-- A block that begins with an assignment of the number n to the name s. -/
structure Assign1 (w : World) (g : Nat) (s : ByteArray) (n : Int) : Prop where
  b0 : w.cell? ⟨g, 0, none⟩ = some (.int .i64 1)
  b2 : w.cell? ⟨g, 2, none⟩ = some (.string s)
  b3 : w.cell? ⟨g, 3, none⟩ = some (.string ⟨#[]⟩)
  b4 : ∃ a c, w.cell? ⟨g, 4, none⟩ = some (.slice a 0 c)
  b5 : w.cell? ⟨g, 5, none⟩ = some (.int .i64 1)
  b6 : w.cell? ⟨g, 6, none⟩ = some (.int .i64 n)
  b7 : w.cell? ⟨g, 7, none⟩ = some (.string ⟨#[]⟩)
  b8 : ∃ a c, w.cell? ⟨g, 8, none⟩ = some (.slice a 0 c)
  b9 : ∃ a c, w.cell? ⟨g, 9, none⟩ = some (.slice a 0 c)
  b10 : ∃ a c, w.cell? ⟨g, 10, none⟩ = some (.slice a 0 c)
theorem Assign1.below {w w' : World} {g : Nat} {s : ByteArray} {n : Int} (h : Assign1 w g s n) (b : Below w.heap.size w w') : Assign1 w' g s n := by
  have hl : g < w.heap.size := block_lt_of_cell h.b0
  obtain ⟨a4, c4, h4⟩ := h.b4
  obtain ⟨a8, c8, h8⟩ := h.b8
  obtain ⟨a9, c9, h9⟩ := h.b9
  obtain ⟨a10, c10, h10⟩ := h.b10
  exact ⟨(b.cell (p := ⟨g, 0, none⟩) hl).trans h.b0, (b.cell (p := ⟨g, 2, none⟩) hl).trans h.b2, (b.cell (p := ⟨g, 3, none⟩) hl).trans h.b3, ⟨a4, c4, (b.cell (p := ⟨g, 4, none⟩) hl).trans h4⟩,
    (b.cell (p := ⟨g, 5, none⟩) hl).trans h.b5, (b.cell (p := ⟨g, 6, none⟩) hl).trans h.b6, (b.cell (p := ⟨g, 7, none⟩) hl).trans h.b7, ⟨a8, c8, (b.cell (p := ⟨g, 8, none⟩) hl).trans h8⟩,
    ⟨a9, c9, (b.cell (p := ⟨g, 9, none⟩) hl).trans h9⟩, ⟨a10, c10, (b.cell (p := ⟨g, 10, none⟩) hl).trans h10⟩⟩

/-- A world of the class S. -/
structure In (S : World → Prop) where
  x : World
  h : S x
/-- A region that draws its order, whose operations yield one value each in every world of a class and leave a world of it, walked once. -/
theorem wp_region_class {I : Type} (f : I → World) {P : Program} {id : Nat} {Q : Exit → Act → World → Prop} {a : Act} {w : World} {l : List Oper} (hm : P.follows .mixedOrders = true) (hB : Region.lexB .any l.toArray = true)
    (hC : ∃ i, w.drew = f i) (h : wpQuiet P l.toArray (fun w' => ∃ i, w' = f i) (fun a' => ∀ w', (∃ i, w' = f i) → Q .normal a' w') l a) : (Code.region id l.toArray true).wp P Q a w :=
  wp_region_quiet (C := fun w' => ∃ i, w' = f i) hm hB hC (by simpa using h)
/-- What fittingStmt loads, and that nothing below block m has turned. -/
theorem held_below {w x y : World} {m g b : Nat} {s : ByteArray} {n : Int} {a4 a8 a9 a10 : Option Addr} {k4 k8 k9 k10 : Nat}
    (h : Below m w x ∧ m ≤ x.heap.size ∧ x.cell? ⟨g, 2, none⟩ = some (.string s) ∧ x.cell? ⟨g, 3, none⟩ = some (.string ⟨#[]⟩) ∧ x.cell? ⟨g, 4, none⟩ = some (.slice a4 0 k4) ∧ x.cell? ⟨g, 5, none⟩ = some (.int .i64 1) ∧ x.cell? ⟨g, 6, none⟩ = some (.int .i64 n) ∧ x.cell? ⟨g, 7, none⟩ = some (.string ⟨#[]⟩) ∧ x.cell? ⟨g, 8, none⟩ = some (.slice a8 0 k8) ∧ x.cell? ⟨g, 9, none⟩ = some (.slice a9 0 k9) ∧ x.cell? ⟨g, 10, none⟩ = some (.slice a10 0 k10) ∧ x.cell? ⟨b, 0, none⟩ = some (.bool true) ∧ x.cell? ⟨b, 1, none⟩ = some (.bool false) ∧ x.cell? ⟨b, 2, none⟩ = some (.bool true) ∧ x.cell? ⟨b, 3, none⟩ = some (.bool true) ∧ x.cell? ⟨b, 4, none⟩ = some (.bool false) ∧ x.cell? ⟨b, 5, none⟩ = some (.bool false)) (hb : Below x.heap.size x y) :
    Below m w y ∧ m ≤ y.heap.size ∧ y.cell? ⟨g, 2, none⟩ = some (.string s) ∧ y.cell? ⟨g, 3, none⟩ = some (.string ⟨#[]⟩) ∧ y.cell? ⟨g, 4, none⟩ = some (.slice a4 0 k4) ∧ y.cell? ⟨g, 5, none⟩ = some (.int .i64 1) ∧ y.cell? ⟨g, 6, none⟩ = some (.int .i64 n) ∧ y.cell? ⟨g, 7, none⟩ = some (.string ⟨#[]⟩) ∧ y.cell? ⟨g, 8, none⟩ = some (.slice a8 0 k8) ∧ y.cell? ⟨g, 9, none⟩ = some (.slice a9 0 k9) ∧ y.cell? ⟨g, 10, none⟩ = some (.slice a10 0 k10) ∧ y.cell? ⟨b, 0, none⟩ = some (.bool true) ∧ y.cell? ⟨b, 1, none⟩ = some (.bool false) ∧ y.cell? ⟨b, 2, none⟩ = some (.bool true) ∧ y.cell? ⟨b, 3, none⟩ = some (.bool true) ∧ y.cell? ⟨b, 4, none⟩ = some (.bool false) ∧ y.cell? ⟨b, 5, none⟩ = some (.bool false) := by
  obtain ⟨h0, h1, q0, q1, q2, q3, q4, q5, q6, q7, q8, q9, q10, q11, q12, q13, q14⟩ := h
  exact ⟨h0.trans (hb.mono h1), Nat.le_trans h1 hb.size, (hb.cell (p := ⟨g, 2, none⟩) (block_lt_of_cell q0)).trans q0, (hb.cell (p := ⟨g, 3, none⟩) (block_lt_of_cell q1)).trans q1, (hb.cell (p := ⟨g, 4, none⟩) (block_lt_of_cell q2)).trans q2, (hb.cell (p := ⟨g, 5, none⟩) (block_lt_of_cell q3)).trans q3, (hb.cell (p := ⟨g, 6, none⟩) (block_lt_of_cell q4)).trans q4, (hb.cell (p := ⟨g, 7, none⟩) (block_lt_of_cell q5)).trans q5, (hb.cell (p := ⟨g, 8, none⟩) (block_lt_of_cell q6)).trans q6, (hb.cell (p := ⟨g, 9, none⟩) (block_lt_of_cell q7)).trans q7, (hb.cell (p := ⟨g, 10, none⟩) (block_lt_of_cell q8)).trans q8, (hb.cell (p := ⟨b, 0, none⟩) (block_lt_of_cell q9)).trans q9, (hb.cell (p := ⟨b, 1, none⟩) (block_lt_of_cell q10)).trans q10, (hb.cell (p := ⟨b, 2, none⟩) (block_lt_of_cell q11)).trans q11, (hb.cell (p := ⟨b, 3, none⟩) (block_lt_of_cell q12)).trans q12, (hb.cell (p := ⟨b, 4, none⟩) (block_lt_of_cell q13)).trans q13, (hb.cell (p := ⟨b, 5, none⟩) (block_lt_of_cell q14)).trans q14⟩

set_option maxHeartbeats 20000000 in
set_option maxRecDepth 100000 in
theorem fittingStmt_assign (w : World) (g : Nat) (s : ByteArray) (n : Int) (hs : s.size ≤ maxLen) (hnm : Tok.isName s.data.toList = true) (hn : 0 < n) (h : Assign1 w g s n) (hf : FieldsOf w) :
    Calls Tryz.prog 71 #[.pointer (some ⟨g, 0, none⟩)] w fun e w' => e = .returned (.bool true) ∧ Below w.heap.size w w' := by
  obtain ⟨b0, b2, b3, ⟨a4, k4, b4⟩, b5, b6, b7, ⟨a8, k8, b8⟩, ⟨a9, k9, b9⟩, ⟨a10, k10, b10⟩⟩ := h
  obtain ⟨f0, f1, f2, f3, f4, f5⟩ := hf
  have hl : g < w.heap.size := block_lt_of_cell b0
  have CY := Lib.hid (fun w => fittingName_yes s w hs hnm)
  have CN := Lib.hid fittingName_no
  have CE := Lib.hid (fun w => shapedExpr_num w n a8 k8 hn)
  clear hs hnm
  go_enter Tryz.func71, Tryz.ntmps71
  go_wp2_with fail
  simp only [List.append]
  obtain ⟨S, hS⟩ : ∃ S : World → Prop, S = fun x => Below w.heap.size w x ∧ w.heap.size ≤ x.heap.size ∧ x.cell? ⟨g, 2, none⟩ = some (.string s) ∧ x.cell? ⟨g, 3, none⟩ = some (.string ⟨#[]⟩) ∧ x.cell? ⟨g, 4, none⟩ = some (.slice a4 0 k4) ∧ x.cell? ⟨g, 5, none⟩ = some (.int .i64 1) ∧ x.cell? ⟨g, 6, none⟩ = some (.int .i64 n) ∧ x.cell? ⟨g, 7, none⟩ = some (.string ⟨#[]⟩) ∧ x.cell? ⟨g, 8, none⟩ = some (.slice a8 0 k8) ∧ x.cell? ⟨g, 9, none⟩ = some (.slice a9 0 k9) ∧ x.cell? ⟨g, 10, none⟩ = some (.slice a10 0 k10) ∧ x.cell? ⟨w.heap.size, 0, none⟩ = some (.bool true) ∧ x.cell? ⟨w.heap.size, 1, none⟩ = some (.bool false) ∧ x.cell? ⟨w.heap.size, 2, none⟩ = some (.bool true) ∧ x.cell? ⟨w.heap.size, 3, none⟩ = some (.bool true) ∧ x.cell? ⟨w.heap.size, 4, none⟩ = some (.bool false) ∧ x.cell? ⟨w.heap.size, 5, none⟩ = some (.bool false) := ⟨_, rfl⟩
  have S0 : S (w.alloc (Obj.cells #[Value.bool true, Value.bool false, Value.bool true, Value.bool true, Value.bool false, Value.bool false] 165)).drew := by
    rw [hS]
    exact ⟨((Below.refl _ _).alloc (Nat.le_refl _) _).drew, by simp, by simp [go_sem, *], by simp [go_sem, *], by simp [go_sem, *], by simp [go_sem, *], by simp [go_sem, *], by simp [go_sem, *], by simp [go_sem, *], by simp [go_sem, *], by simp [go_sem, *], by simp [go_sem], by simp [go_sem], by simp [go_sem], by simp [go_sem], by simp [go_sem], by simp [go_sem]⟩
  have HS : Hid (∀ x y, S x → Below x.heap.size x y → S y) := Lib.hid (fun x y h hb => by rw [hS] at h ⊢; exact held_below h hb)
  have hSx : ∀ x, S x → Below w.heap.size w x ∧ w.heap.size ≤ x.heap.size ∧ x.cell? ⟨g, 2, none⟩ = some (.string s) ∧ x.cell? ⟨g, 3, none⟩ = some (.string ⟨#[]⟩) ∧ x.cell? ⟨g, 4, none⟩ = some (.slice a4 0 k4) ∧ x.cell? ⟨g, 5, none⟩ = some (.int .i64 1) ∧ x.cell? ⟨g, 6, none⟩ = some (.int .i64 n) ∧ x.cell? ⟨g, 7, none⟩ = some (.string ⟨#[]⟩) ∧ x.cell? ⟨g, 8, none⟩ = some (.slice a8 0 k8) ∧ x.cell? ⟨g, 9, none⟩ = some (.slice a9 0 k9) ∧ x.cell? ⟨g, 10, none⟩ = some (.slice a10 0 k10) ∧ x.cell? ⟨w.heap.size, 0, none⟩ = some (.bool true) ∧ x.cell? ⟨w.heap.size, 1, none⟩ = some (.bool false) ∧ x.cell? ⟨w.heap.size, 2, none⟩ = some (.bool true) ∧ x.cell? ⟨w.heap.size, 3, none⟩ = some (.bool true) ∧ x.cell? ⟨w.heap.size, 4, none⟩ = some (.bool false) ∧ x.cell? ⟨w.heap.size, 5, none⟩ = some (.bool false) := fun x h => by rw [hS] at h; exact h
  have HB : Hid (∀ x, S x → Below w.heap.size w x) := Lib.hid (fun x h => by rw [hS] at h; exact h.1)
  have c0 : ∀ x : In S, x.x.cell? ⟨g, 2, none⟩ = some (.string s) := fun x => (hSx x.x x.h).2.2.1
  have c1 : ∀ x : In S, x.x.cell? ⟨g, 3, none⟩ = some (.string ⟨#[]⟩) := fun x => (hSx x.x x.h).2.2.2.1
  have c2 : ∀ x : In S, x.x.cell? ⟨g, 4, none⟩ = some (.slice a4 0 k4) := fun x => (hSx x.x x.h).2.2.2.2.1
  have c3 : ∀ x : In S, x.x.cell? ⟨g, 5, none⟩ = some (.int .i64 1) := fun x => (hSx x.x x.h).2.2.2.2.2.1
  have c4 : ∀ x : In S, x.x.cell? ⟨g, 6, none⟩ = some (.int .i64 n) := fun x => (hSx x.x x.h).2.2.2.2.2.2.1
  have c5 : ∀ x : In S, x.x.cell? ⟨g, 7, none⟩ = some (.string ⟨#[]⟩) := fun x => (hSx x.x x.h).2.2.2.2.2.2.2.1
  have c6 : ∀ x : In S, x.x.cell? ⟨g, 8, none⟩ = some (.slice a8 0 k8) := fun x => (hSx x.x x.h).2.2.2.2.2.2.2.2.1
  have c7 : ∀ x : In S, x.x.cell? ⟨g, 9, none⟩ = some (.slice a9 0 k9) := fun x => (hSx x.x x.h).2.2.2.2.2.2.2.2.2.1
  have c8 : ∀ x : In S, x.x.cell? ⟨g, 10, none⟩ = some (.slice a10 0 k10) := fun x => (hSx x.x x.h).2.2.2.2.2.2.2.2.2.2.1
  have c9 : ∀ x : In S, x.x.cell? ⟨w.heap.size, 0, none⟩ = some (.bool true) := fun x => (hSx x.x x.h).2.2.2.2.2.2.2.2.2.2.2.1
  have c10 : ∀ x : In S, x.x.cell? ⟨w.heap.size, 1, none⟩ = some (.bool false) := fun x => (hSx x.x x.h).2.2.2.2.2.2.2.2.2.2.2.2.1
  have c11 : ∀ x : In S, x.x.cell? ⟨w.heap.size, 2, none⟩ = some (.bool true) := fun x => (hSx x.x x.h).2.2.2.2.2.2.2.2.2.2.2.2.2.1
  have c12 : ∀ x : In S, x.x.cell? ⟨w.heap.size, 3, none⟩ = some (.bool true) := fun x => (hSx x.x x.h).2.2.2.2.2.2.2.2.2.2.2.2.2.2.1
  have c13 : ∀ x : In S, x.x.cell? ⟨w.heap.size, 4, none⟩ = some (.bool false) := fun x => (hSx x.x x.h).2.2.2.2.2.2.2.2.2.2.2.2.2.2.2.1
  have c14 : ∀ x : In S, x.x.cell? ⟨w.heap.size, 5, none⟩ = some (.bool false) := fun x => (hSx x.x x.h).2.2.2.2.2.2.2.2.2.2.2.2.2.2.2.2
  clear hSx hS b0 b2 b3 b4 b5 b6 b7 b8 b9 b10 f0 f1 f2 f3 f4 f5
  haveI : Nonempty (In S) := ⟨⟨_, S0⟩⟩
  refine wp_region_class (I := In S) (fun x => x.x) (by kernel_rfl) (by kernel_rfl) ⟨⟨_, S0⟩, rfl⟩ ?_
  repeat (go_big_quiet_step (first
    | (go_at_call 99; (with_reducible refine (CY.out _).mono ?_); rintro e w1 ⟨rfl, hb1⟩; exact ⟨rfl, ⟨_, HS.out _ _ (In.h _) hb1⟩, rfl⟩)
    | (go_at_call 99; (with_reducible refine (CN.out _).mono ?_); rintro e w2 ⟨rfl, rfl⟩; exact ⟨rfl, _, rfl⟩)
    | (go_at_call 101; refine (CE.out _).mono ?_; rintro e w3 ⟨rfl, hb3⟩; exact ⟨rfl, ⟨_, HS.out _ _ (In.h _) hb3⟩, rfl⟩)))
  refine wpQuiet_nil ?_
  rintro _ ⟨x, rfl⟩
  have hx := HB.out _ x.h
  go_wp2_with fail
  go_ret
  exact ⟨rfl, hx⟩
end Go.Proofs.YtncflfadgcaldaaGreatDoor

namespace Go.Proofs.YtncflfadgcaldaaGreatDoor
open Go.RowKit
open Par

theorem Tryz.infoPS : (Tryz.prog.info? 146).map (fun i => (i.zero, i.size, i.bytes)) = some (some (.pointer none), 1, 8) := by kernel_rfl
theorem Tryz.infoSt : (Tryz.prog.info? 83).map (fun i => (i.zero, i.size, i.bytes)) = some (some (.agg #[.int .i64 0, .int .i64 0, .string ⟨#[]⟩, .string ⟨#[]⟩, .slice none 0 0, .int .i64 0, .int .i64 0, .string ⟨#[]⟩, .slice none 0 0, .slice none 0 0, .slice none 0 0]), 11, 176) := by kernel_rfl
/-- A look-up of a pointer in the one map of pointers to statements. -/
theorem lookS {w : World} {b : Nat} {L : List (Addr × Int)} (h : MapP.At w b L) (a : Addr) (hs : ∀ p ∈ L, (sameAddr a p.1).run Tryz.prog w = .ok (decide (p.1 = a)) w) :
    (Instr.lookup 162 (.map (some b)) (.pointer (some a)) false).run Tryz.prog w = .ok (.int .i64 (MapP.get L a)) w := by
  obtain ⟨i0, hi, _, hz1, _⟩ := info_parts Tryz.infoSt
  obtain ⟨i1, hi1, hz, _, _⟩ := info_parts Tryz.infoIn
  exact MapP.run_look Tryz.underlying162 Tryz.underlying146 hi (by rw [hz1]; decide) hi1 hz h a hs
theorem storeS {w : World} {b : Nat} {L : List (Addr × Int)} (h : MapP.At w b L) (a : Addr) (c : Int) (hs : ∀ p ∈ L, (sameAddr a p.1).run Tryz.prog w = .ok (decide (p.1 = a)) w) :
    ∃ w', (Instr.mapUpdate 162 (.map (some b)) (.pointer (some a)) (.int .i64 c)).run Tryz.prog w = .ok () w' ∧ MapP.At w' b (MapP.put L a c) ∧ w.grownBy w' (some b) := by
  obtain ⟨i0, hi, _, hz1, _⟩ := info_parts Tryz.infoSt
  exact MapP.run_store Tryz.underlying162 Tryz.underlying146 hi (by rw [hz1]; decide) h a c hs

set_option maxHeartbeats 1000000 in
theorem stmtParts_any (w : World) (g : Nat) (a : Option Addr) (l c : Nat) (a' : Option Addr) (l' c' : Nat) (c9 : w.cell? ⟨g, 9, none⟩ = some (.slice a l c)) (c10 : w.cell? ⟨g, 10, none⟩ = some (.slice a' l' c')) :
    Calls Tryz.prog 72 #[.pointer (some ⟨g, 0, none⟩)] w fun e w' => ∃ b, e = .returned (.slice (some ⟨b, 0, none⟩) 2 2) ∧ Below w.heap.size w w' ∧ w'.cell? ⟨b, 0, none⟩ = some (.slice a l c) ∧ w'.cell? ⟨b, 1, none⟩ = some (.slice a' l' c') := by
  go_enter Tryz.func72, Tryz.ntmps72
  go_wp2_with fail
  go_region
  all_goals
    go_wp2_with fail
    go_ret
    exact ⟨_, rfl, by repeat (first | exact Below.refl _ _ | apply Below.drew | (refine Below.alloc ?_ (by simp) _)), by simp [go_sem], by simp [go_sem]⟩

set_option maxHeartbeats 4000000 in
set_option maxRecDepth 100000 in
theorem everyS_leaf (w : World) (g : Nat) (s : ByteArray) (n : Int) (rc : Nat) (hs : s.size ≤ maxLen) (hnm : Tok.isName s.data.toList = true) (hn : 0 < n) (h : Assign1 w g s n) (hf : FieldsOf w) :
    Calls Tryz.prog 70 #[.slice (some ⟨g, 0, none⟩) 1 rc, .func (.func 71) #[] #[], .func (.func 72) #[] #[]] w
      fun e w' => e = .returned (.bool true) ∧ Below w.heap.size w w' := by
  obtain ⟨i0, hi, hz0, hz1, hz2⟩ := info_parts Tryz.infoPS
  have hmm := @run_makeMap Tryz.prog
  have hg := block_lt_of_cell h.b0
  have H := Lib.hid h
  have HF := Lib.hid hf
  clear h hf
  go_enter Tryz.func70, Tryz.ntmps70
  go_wp2_with fail
  refine wp_loop_rounds 2 ?_
  rw [rounds_succ]
  go_wp2_with fail
  generalize (Question.appendCap 1 0 146).cut (w.tape w.drawn (Question.appendCap 1 0 146)) = rcp
  generalize hW : World.drew (((w.alloc (Obj.map #[] 0)).alloc (Obj.cells #[Value.pointer (some ⟨g, 0, none⟩)] 146)).alloc (Obj.cells (#[Value.pointer (some ⟨g, 0, none⟩)] ++ Builtin.zeroCells #[Value.pointer none] (rcp - 1)) 146)) = W1
  have hB1 : Below w.heap.size w W1 := by
    rw [← hW]
    exact ((((Below.refl _ _).alloc (Nat.le_refl _) _).alloc (by simp) _).alloc (by simp; omega) _).drew
  have hs1 : W1.heap.size = w.heap.size + 3 := by rw [← hW]; simp
  have hM1 : MapP.At W1 w.heap.size [] := by
    refine (MapP.At.made w).below ?_
    rw [← hW]
    exact (((Below.refl _ _).alloc (Nat.le_refl _) _).alloc (by simp) _).drew
  have hC1 : W1.cell? ⟨w.heap.size + 1 + 1, 0, none⟩ = some (.pointer (some ⟨g, 0, none⟩)) := by
    rw [← hW]
    simp [go_sem, Array.getElem?_append]
  clear hW
  have H1 := Lib.hid (H.out.below hB1)
  have HF1 := Lib.hid (HF.out.below hB1)
  have L1 := lookS hM1 ⟨g, 0, none⟩ (by simp)
  have e1 : MapP.get [] ⟨g, 0, none⟩ = 0 := rfl
  rw [e1] at L1
  rw [rounds_succ]
  go_wp2_with fail
  refine wp_loop_rounds 3 ?_
  rw [rounds_succ]
  go_wp2_with (first
    | (go_at_call 71; refine (fittingStmt_assign W1 g s n hs hnm hn H1.out HF1.out).mono ?_; rintro e W2 ⟨rfl, hB2⟩; have hM2 := hM1.below hB2; obtain ⟨W3, hst3, hM3, hg3⟩ := storeS hM2 ⟨g, 0, none⟩ 1 (by simp); obtain ⟨a9, k9, c9⟩ := (H1.out.below hB2).b9; obtain ⟨a10, k10, c10⟩ := (H1.out.below hB2).b10; have c93 := grown_cell hg3 c9 (by omega); have c103 := grown_cell hg3 c10 (by omega))
    | (go_at_call 72; refine (stmtParts_any W3 g _ _ _ _ _ _ c93 c103).mono ?_; rintro e W4 ⟨b4, rfl, hB4, c4, c5⟩))
  have hC4 : W4.cell? ⟨w.heap.size + 1 + 1, 0, none⟩ = some (.pointer (some ⟨g, 0, none⟩)) := by
    have h2 := (hB2.cell (p := ⟨w.heap.size + 1 + 1, 0, none⟩) (block_lt_of_cell hC1)).trans hC1
    have h3 := grown_cell hg3 h2 (by omega)
    exact (hB4.cell (p := ⟨w.heap.size + 1 + 1, 0, none⟩) (block_lt_of_cell h3)).trans h3
  have hM4 : MapP.At W4 w.heap.size [(⟨g, 0, none⟩, 1)] := MapP.At.below hM3 hB4
  have L4 := lookS hM4 ⟨g, 0, none⟩ (MapP.same_one _ _)
  have e4 : MapP.get [(⟨g, 0, none⟩, 1)] ⟨g, 0, none⟩ = 1 := by simp [MapP.get, MapP.seek]
  rw [e4] at L4
  obtain ⟨W5, hst5, hM5, hg5⟩ := storeS hM4 ⟨g, 0, none⟩ 2 (MapP.same_one _ _)
  have hsz := hB4.size
  refine wp_loop_rounds 3 ?_
  rw [rounds_succ]
  go_wp2_with fail
  refine wp_loop_rounds 1 ?_
  rw [rounds_succ]
  go_wp2_with fail
  rw [rounds_succ]
  go_wp2_with fail
  refine wp_loop_rounds 1 ?_
  rw [rounds_succ]
  go_wp2_with fail
  rw [rounds_succ]
  go_wp2_with fail
  rw [rounds_succ]
  go_wp2_with fail
  rw [rounds_succ]
  go_wp2_with fail
  go_ret
  have z2 := hB2.size
  have z3 := hg3.size
  have x2 := hB1.trans (hB2.mono (by omega))
  have x3 := below_grown x2 hg3 (Nat.le_refl _) (by omega)
  have x4 := x3.trans (hB4.mono (by omega))
  exact ⟨rfl, below_grown x4 hg5 (Nat.le_refl _) (by omega)⟩

end Go.Proofs.YtncflfadgcaldaaGreatDoor
