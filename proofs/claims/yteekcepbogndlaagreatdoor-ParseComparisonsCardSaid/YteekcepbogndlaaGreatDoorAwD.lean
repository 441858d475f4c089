/-
  The walk over one node, an assignment; shapedDecl, shapedThread, Shaped at the laws' fixed program.
-/
import Derived.Test.YteekcepbogndlaaGreatDoorAwC
namespace Go.Proofs.YteekcepbogndlaaGreatDoor
open Go.RowKit
open Par

theorem Tryz.infoPS : (Tryz.prog.info? 96).map (fun i => (i.zero, i.size, i.bytes)) = some (some (.pointer none), 1, 8) := by kernel_rfl
theorem Tryz.infoSt : (Tryz.prog.info? 98).map (fun i => (i.zero, i.size, i.bytes)) = some (some (.agg #[.int .i64 0, .int .i64 0, .string ⟨#[]⟩, .string ⟨#[]⟩, .slice none 0 0, .int .i64 0, .int .i64 0, .string ⟨#[]⟩, .slice none 0 0, .slice none 0 0, .slice none 0 0]), 11, 176) := by kernel_rfl
/-- A look-up of a pointer in the one map of pointers to statements. -/
theorem lookS {w : World} {b : Nat} {L : List (Addr × Int)} (h : MapP.At w b L) (a : Addr) (hs : ∀ p ∈ L, (sameAddr a p.1).run Tryz.prog w = .ok (decide (p.1 = a)) w) :
    (Instr.lookup 147 (.map (some b)) (.pointer (some a)) false).run Tryz.prog w = .ok (.int .i64 (MapP.get L a)) w := by
  obtain ⟨i0, hi, _, hz1, _⟩ := info_parts Tryz.infoSt
  obtain ⟨i1, hi1, hz, _, _⟩ := info_parts Tryz.infoIn
  exact MapP.run_look Tryz.underlying147 Tryz.underlying96 hi (by rw [hz1]; decide) hi1 hz h a hs
theorem storeS {w : World} {b : Nat} {L : List (Addr × Int)} (h : MapP.At w b L) (a : Addr) (c : Int) (hs : ∀ p ∈ L, (sameAddr a p.1).run Tryz.prog w = .ok (decide (p.1 = a)) w) :
    ∃ w', (Instr.mapUpdate 147 (.map (some b)) (.pointer (some a)) (.int .i64 c)).run Tryz.prog w = .ok () w' ∧ MapP.At w' b (MapP.put L a c) ∧ w.grownBy w' (some b) := by
  obtain ⟨i0, hi, _, hz1, _⟩ := info_parts Tryz.infoSt
  exact MapP.run_store Tryz.underlying147 Tryz.underlying96 hi (by rw [hz1]; decide) h a c hs

set_option maxHeartbeats 1000000 in
theorem stmtParts_any (w : World) (g : Nat) (a : Option Addr) (l c : Nat) (a' : Option Addr) (l' c' : Nat) (c9 : w.cell? ⟨g, 9, none⟩ = some (.slice a l c)) (c10 : w.cell? ⟨g, 10, none⟩ = some (.slice a' l' c')) :
    Calls Tryz.prog 92 #[.pointer (some ⟨g, 0, none⟩)] w fun e w' => ∃ b, e = .returned (.slice (some ⟨b, 0, none⟩) 2 2) ∧ Below w.heap.size w w' ∧ w'.cell? ⟨b, 0, none⟩ = some (.slice a l c) ∧ w'.cell? ⟨b, 1, none⟩ = some (.slice a' l' c') := by
  go_enter Tryz.func92, Tryz.ntmps92
  go_wp2_with fail
  go_region
  all_goals
    go_wp2_with fail
    go_ret
    exact ⟨_, rfl, by repeat (first | exact Below.refl _ _ | apply Below.drew | (refine Below.alloc ?_ (by simp) _)), by simp [go_sem], by simp [go_sem]⟩

set_option maxHeartbeats 4000000 in
set_option maxRecDepth 100000 in
theorem everyS_leaf (w : World) (g : Nat) (s : ByteArray) (n : Int) (rc : Nat) (hs : s.size ≤ maxLen) (hnm : Tok.isName s.data.toList = true) (hn : 0 < n) (h : Assign1 w g s n) (hf : FieldsOf w) :
    Calls Tryz.prog 90 #[.slice (some ⟨g, 0, none⟩) 1 rc, .func (.func 91) #[] #[], .func (.func 92) #[] #[]] w
      fun e w' => e = .returned (.bool true) ∧ Below w.heap.size w w' := by
  obtain ⟨i0, hi, hz0, hz1, hz2⟩ := info_parts Tryz.infoPS
  have hmm := @run_makeMap Tryz.prog
  have hg := block_lt_of_cell h.b0
  have H := Lib.hid h
  have HF := Lib.hid hf
  clear h hf
  go_enter Tryz.func90, Tryz.ntmps90
  go_wp2_with fail
  refine wp_loop_rounds 2 ?_
  rw [rounds_succ]
  go_wp2_with fail
  generalize (Question.appendCap 1 0 96).cut (w.tape w.drawn (Question.appendCap 1 0 96)) = rcp
  generalize hW : World.drew (((w.alloc (Obj.map #[] 0)).alloc (Obj.cells #[Value.pointer (some ⟨g, 0, none⟩)] 96)).alloc (Obj.cells (#[Value.pointer (some ⟨g, 0, none⟩)] ++ Builtin.zeroCells #[Value.pointer none] (rcp - 1)) 96)) = W1
  have hB1 : Below w.heap.size w W1 := by
    rw [← hW]
    exact ((((Below.refl _ _).alloc (Nat.le_refl _) _).alloc (by simp) _).alloc (by simp; omega) _).drew
  have hs1 : W1.heap.size = w.heap.size + 3 := by rw [← hW]; simp
  have hM1 : MapP.At W1 w.heap.size [] := by
    refine (MapP.At.made w).below ?_
    rw [← hW]
    exact (((Below.refl _ _).alloc (Nat.le_refl _) _).alloc (by simp) _).drew
  have hC1 : W1.cell? ⟨w.heap.size + 1 + 1, 0, none⟩ = some (.pointer (some ⟨g, 0, none⟩)) := by
    rw [← hW]
    simp [go_sem, Array.getElem?_append]
  clear hW
  have H1 := Lib.hid (H.out.below hB1)
  have HF1 := Lib.hid (HF.out.below hB1)
  have L1 := lookS hM1 ⟨g, 0, none⟩ (by simp)
  have e1 : MapP.get [] ⟨g, 0, none⟩ = 0 := rfl
  rw [e1] at L1
  rw [rounds_succ]
  go_wp2_with fail
  refine wp_loop_rounds 3 ?_
  rw [rounds_succ]
  go_wp2_with (first
    | (go_at_call 91; refine (fittingStmt_assign W1 g s n hs hnm hn H1.out HF1.out).mono ?_; rintro e W2 ⟨rfl, hB2⟩; have hM2 := hM1.below hB2; obtain ⟨W3, hst3, hM3, hg3⟩ := storeS hM2 ⟨g, 0, none⟩ 1 (by simp); obtain ⟨a9, k9, c9⟩ := (H1.out.below hB2).b9; obtain ⟨a10, k10, c10⟩ := (H1.out.below hB2).b10; have c93 := grown_cell hg3 c9 (by omega); have c103 := grown_cell hg3 c10 (by omega))
    | (go_at_call 92; refine (stmtParts_any W3 g _ _ _ _ _ _ c93 c103).mono ?_; rintro e W4 ⟨b4, rfl, hB4, c4, c5⟩))
  have hC4 : W4.cell? ⟨w.heap.size + 1 + 1, 0, none⟩ = some (.pointer (some ⟨g, 0, none⟩)) := by
    have h2 := (hB2.cell (p := ⟨w.heap.size + 1 + 1, 0, none⟩) (block_lt_of_cell hC1)).trans hC1
    have h3 := grown_cell hg3 h2 (by omega)
    exact (hB4.cell (p := ⟨w.heap.size + 1 + 1, 0, none⟩) (block_lt_of_cell h3)).trans h3
  have hM4 : MapP.At W4 w.heap.size [(⟨g, 0, none⟩, 1)] := MapP.At.below hM3 hB4
  have L4 := lookS hM4 ⟨g, 0, none⟩ (MapP.same_one _ _)
  have e4 : MapP.get [(⟨g, 0, none⟩, 1)] ⟨g, 0, none⟩ = 1 := by simp [MapP.get, MapP.seek]
  rw [e4] at L4
  obtain ⟨W5, hst5, hM5, hg5⟩ := storeS hM4 ⟨g, 0, none⟩ 2 (MapP.same_one _ _)
  have hsz := hB4.size
  refine wp_loop_rounds 3 ?_
  rw [rounds_succ]
  go_wp2_with fail
  refine wp_loop_rounds 1 ?_
  rw [rounds_succ]
  go_wp2_with fail
  rw [rounds_succ]
  go_wp2_with fail
  refine wp_loop_rounds 1 ?_
  rw [rounds_succ]
  go_wp2_with fail
  rw [rounds_succ]
  go_wp2_with fail
  rw [rounds_succ]
  go_wp2_with fail
  rw [rounds_succ]
  go_wp2_with fail
  go_ret
  have z2 := hB2.size
  have z3 := hg3.size
  have x2 := hB1.trans (hB2.mono (by omega))
  have x3 := below_grown x2 hg3 (Nat.le_refl _) (by omega)
  have x4 := x3.trans (hB4.mono (by omega))
  exact ⟨rfl, below_grown x4 hg5 (Nat.le_refl _) (by omega)⟩

end Go.Proofs.YteekcepbogndlaaGreatDoor
