/-
  ShapedExpr at a number: the walk over the one node.
-/
import Derived.Test.YteekcepbogndlaaGreatDoorAwA
namespace Go.Proofs.YteekcepbogndlaaGreatDoor
open Go.RowKit
open Par

theorem Tryz.infoPE : (Tryz.prog.info? 156).map (fun i => (i.zero, i.size, i.bytes)) = some (some (.pointer none), 1, 8) := by kernel_rfl

set_option maxHeartbeats 1000000 in
theorem exprParts_any (w : World) (g o : Nat) (a : Option Addr) (l c : Nat) (c3 : w.cell? ⟨g, o + 3, none⟩ = some (.slice a l c)) :
    Calls Tryz.prog 96 #[.pointer (some ⟨g, o, none⟩)] w fun e w' => ∃ b, e = .returned (.slice (some ⟨b, 0, none⟩) 1 1) ∧ Below w.heap.size w w' ∧ w'.cell? ⟨b, 0, none⟩ = some (.slice a l c) := by
  go_enter Tryz.func96, Tryz.ntmps96
  go_wp2_with fail
  go_ret
  exact ⟨_, rfl, (Below.refl _ _).alloc (Nat.le_refl _) _, by simp⟩

theorem Tryz.infoEx : (Tryz.prog.info? 34).map (fun i => (i.zero, i.size, i.bytes)) = some (some (.agg #[.int .i64 0, .int .i64 0, .string ⟨#[]⟩, .slice none 0 0]), 4, 56) := by kernel_rfl
theorem Tryz.infoIn : (Tryz.prog.info? 3).map (fun i => (i.zero, i.size, i.bytes)) = some (some (.int .i64 0), 1, 8) := by kernel_rfl
/-- A look-up of a pointer in the one map of pointers to expressions. -/
theorem lookE {w : World} {b : Nat} {L : List (Addr × Int)} (h : MapP.At w b L) (a : Addr) (hs : ∀ p ∈ L, (sameAddr a p.1).run Tryz.prog w = .ok (decide (p.1 = a)) w) :
    (Instr.lookup 154 (.map (some b)) (.pointer (some a)) false).run Tryz.prog w = .ok (.int .i64 (MapP.get L a)) w := by
  obtain ⟨i0, hi, _, hz1, _⟩ := info_parts Tryz.infoEx
  obtain ⟨i1, hi1, hz, _, _⟩ := info_parts Tryz.infoIn
  exact MapP.run_look Tryz.underlying154 Tryz.underlying156 hi (by rw [hz1]; decide) hi1 hz h a hs
theorem storeE {w : World} {b : Nat} {L : List (Addr × Int)} (h : MapP.At w b L) (a : Addr) (c : Int) (hs : ∀ p ∈ L, (sameAddr a p.1).run Tryz.prog w = .ok (decide (p.1 = a)) w) :
    ∃ w', (Instr.mapUpdate 154 (.map (some b)) (.pointer (some a)) (.int .i64 c)).run Tryz.prog w = .ok () w' ∧ MapP.At w' b (MapP.put L a c) ∧ w.grownBy w' (some b) := by
  obtain ⟨i0, hi, _, hz1, _⟩ := info_parts Tryz.infoEx
  exact MapP.run_store Tryz.underlying154 Tryz.underlying156 hi (by rw [hz1]; decide) h a c hs
theorem MapP.At.below {w w' : World} {b : Nat} {L : List (Addr × Int)} (h : MapP.At w b L) (k : Below w.heap.size w w') : MapP.At w' b L := h.kept (k.block b h.lt)
theorem below_grown {B : Nat} {a w w' : World} {b : Nat} (h : Below B a w) (k : w.grownBy w' (some b)) (hb : B ≤ b) (hB : B ≤ w.heap.size) : Below B a w' :=
  ⟨k.os.trans h.os, k.tape.trans h.tape, k.output.trans h.output, Nat.le_trans h.size k.size, fun i hi => (k.block i (by omega) (by intro e; cases e; omega)).trans (h.block i hi)⟩
theorem grown_cell {w w' : World} {b : Nat} (k : w.grownBy w' (some b)) {g o : Nat} {v : Value} (hc : w.cell? ⟨g, o, none⟩ = some v) (hg : g ≠ b) : w'.cell? ⟨g, o, none⟩ = some v :=
  (World.cell?_of_block (k.block g (block_lt_of_cell hc) (by intro e; cases e; exact hg rfl))).trans hc

set_option maxHeartbeats 4000000 in
set_option maxRecDepth 100000 in
theorem everyE_leaf (w : World) (g : Nat) (n : Int) (a : Option Addr) (cap rc : Nat) (hn : 0 < n)
    (c0 : w.cell? ⟨g, 0, none⟩ = some (.int .i64 1)) (c1 : w.cell? ⟨g, 1, none⟩ = some (.int .i64 n)) (c2 : w.cell? ⟨g, 2, none⟩ = some (.string ⟨#[]⟩)) (c3 : w.cell? ⟨g, 3, none⟩ = some (.slice a 0 cap)) :
    Calls Tryz.prog 94 #[.slice (some ⟨g, 0, none⟩) 1 rc, .func (.func 95) #[] #[], .func (.func 96) #[] #[]] w
      fun e w' => e = .returned (.bool true) ∧ Below w.heap.size w w' := by
  obtain ⟨i0, hi, hz0, hz1, hz2⟩ := info_parts Tryz.infoPE
  have hmm := @run_makeMap Tryz.prog
  have hg := block_lt_of_cell c0
  go_enter Tryz.func94, Tryz.ntmps94
  go_wp2_with fail
  refine wp_loop_rounds 2 ?_
  rw [rounds_succ]
  go_wp2_with fail
  generalize (Question.appendCap 1 0 156).cut (w.tape w.drawn (Question.appendCap 1 0 156)) = rcp
  generalize hW : World.drew (((w.alloc (Obj.map #[] 0)).alloc (Obj.cells #[Value.pointer (some ⟨g, 0, none⟩)] 156)).alloc (Obj.cells (#[Value.pointer (some ⟨g, 0, none⟩)] ++ Builtin.zeroCells #[Value.pointer none] (rcp - 1)) 156)) = W1
  have hB1 : Below w.heap.size w W1 := by
    rw [← hW]
    exact ((((Below.refl _ _).alloc (Nat.le_refl _) _).alloc (by simp) _).alloc (by simp; omega) _).drew
  have hs1 : W1.heap.size = w.heap.size + 3 := by rw [← hW]; simp
  have hM1 : MapP.At W1 w.heap.size [] := by
    refine (MapP.At.made w).below ?_
    rw [← hW]
    exact (((Below.refl _ _).alloc (Nat.le_refl _) _).alloc (by simp) _).drew
  have hC1 : W1.cell? ⟨w.heap.size + 1 + 1, 0, none⟩ = some (.pointer (some ⟨g, 0, none⟩)) := by
    rw [← hW]
    simp [go_sem, Array.getElem?_append]
  clear hW
  have c01 := (hB1.cell (p := ⟨g, 0, none⟩) hg).trans c0
  have c11 := (hB1.cell (p := ⟨g, 1, none⟩) hg).trans c1
  have c21 := (hB1.cell (p := ⟨g, 2, none⟩) hg).trans c2
  have c31 := (hB1.cell (p := ⟨g, 3, none⟩) hg).trans c3
  have L1 := lookE hM1 ⟨g, 0, none⟩ (by simp)
  have e1 : MapP.get [] ⟨g, 0, none⟩ = 0 := rfl
  rw [e1] at L1
  rw [rounds_succ]
  go_wp2_with fail
  refine wp_loop_rounds 3 ?_
  rw [rounds_succ]
  go_wp2_with (first
    | (go_at_call 95; refine (fittingExpr_num W1 g 0 n a cap hn c01 c11 c21 c31).mono ?_; rintro e W2 ⟨rfl, hB2⟩; have hM2 := hM1.below hB2; obtain ⟨W3, hst3, hM3, hg3⟩ := storeE hM2 ⟨g, 0, none⟩ 1 (by simp); have c33 := grown_cell hg3 ((hB2.cell (p := ⟨g, 3, none⟩) (block_lt_of_cell c31)).trans c31) (by omega))
    | (go_at_call 96; refine (exprParts_any W3 g 0 a 0 cap c33).mono ?_; rintro e W4 ⟨b4, rfl, hB4, c4⟩))
  have hC4 : W4.cell? ⟨w.heap.size + 1 + 1, 0, none⟩ = some (.pointer (some ⟨g, 0, none⟩)) := by
    have h2 := (hB2.cell (p := ⟨w.heap.size + 1 + 1, 0, none⟩) (block_lt_of_cell hC1)).trans hC1
    have h3 := grown_cell hg3 h2 (by omega)
    exact (hB4.cell (p := ⟨w.heap.size + 1 + 1, 0, none⟩) (block_lt_of_cell h3)).trans h3
  have hM4 : MapP.At W4 w.heap.size [(⟨g, 0, none⟩, 1)] := MapP.At.below hM3 hB4
  have L4 := lookE hM4 ⟨g, 0, none⟩ (MapP.same_one _ _)
  have e4 : MapP.get [(⟨g, 0, none⟩, 1)] ⟨g, 0, none⟩ = 1 := by simp [MapP.get, MapP.seek]
  rw [e4] at L4
  obtain ⟨W5, hst5, hM5, hg5⟩ := storeE hM4 ⟨g, 0, none⟩ 2 (MapP.same_one _ _)
  have hsz := hB4.size
  refine wp_loop_rounds 2 ?_
  rw [rounds_succ]
  go_wp2_with fail
  refine wp_loop_rounds 1 ?_
  rw [rounds_succ]
  go_wp2_with fail
  rw [rounds_succ]
  go_wp2_with fail
  rw [rounds_succ]
  go_wp2_with fail
  rw [rounds_succ]
  go_wp2_with fail
  go_ret
  have z2 := hB2.size
  have z3 := hg3.size
  have x2 := hB1.trans (hB2.mono (by omega))
  have x3 := below_grown x2 hg3 (Nat.le_refl _) (by omega)
  have x4 := x3.trans (hB4.mono (by omega))
  exact ⟨rfl, below_grown x4 hg5 (Nat.le_refl _) (by omega)⟩

set_option maxHeartbeats 1000000 in
theorem shapedExprs_leaf (w : World) (g : Nat) (n : Int) (a : Option Addr) (cap rc : Nat) (hn : 0 < n)
    (c0 : w.cell? ⟨g, 0, none⟩ = some (.int .i64 1)) (c1 : w.cell? ⟨g, 1, none⟩ = some (.int .i64 n)) (c2 : w.cell? ⟨g, 2, none⟩ = some (.string ⟨#[]⟩)) (c3 : w.cell? ⟨g, 3, none⟩ = some (.slice a 0 cap)) :
    Calls Tryz.prog 58 #[.slice (some ⟨g, 0, none⟩) 1 rc] w fun e w' => e = .returned (.bool true) ∧ Below w.heap.size w w' := by
  have C := Lib.hid (everyE_leaf w g n a cap rc hn c0 c1 c2 c3)
  go_enter Tryz.func58, Tryz.ntmps58
  go_wp2_with (go_at_call 94; refine C.out.mono ?_; rintro e w1 ⟨rfl, hb⟩)
  go_ret
  exact ⟨rfl, hb⟩

set_option maxHeartbeats 1000000 in
/-- ShapedExpr is true at a positive number. -/
theorem shapedExpr_num (w : World) (n : Int) (a : Option Addr) (cap : Nat) (hn : 0 < n) :
    Calls Tryz.prog 29 #[.agg #[.int .i64 1, .int .i64 n, .string ⟨#[]⟩, .slice a 0 cap]] w fun e w' => e = .returned (.bool true) ∧ Below w.heap.size w w' := by
  go_enter Tryz.func29, Tryz.ntmps29
  go_wp2_with (go_at_call 58; refine (shapedExprs_leaf _ (w.heap.size + 1) n a cap 1 hn ?_ ?_ ?_ ?_).mono ?_; simp [go_sem]; simp [go_sem]; simp [go_sem]; simp [go_sem]; rintro e w1 ⟨rfl, hb⟩)
  go_ret
  exact ⟨rfl, (((Below.refl _ _).alloc (Nat.le_refl _) _).alloc (by simp) _).trans (hb.mono (by simp; omega))⟩
end Go.Proofs.YteekcepbogndlaaGreatDoor
