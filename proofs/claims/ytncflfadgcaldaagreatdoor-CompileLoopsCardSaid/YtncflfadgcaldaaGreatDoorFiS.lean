/-
  Whether one statement is shaped apart from those inside it (parse.fittingStmt): true where it is; the walks, one for each choice of fields.
-/
import Derived.Test.YtncflfadgcaldaaGreatDoorShE
namespace Go.Proofs.YtncflfadgcaldaaGreatDoor
open Go.RowKit
open Par

set_option maxHeartbeats 1000000 in
theorem isZero_zero (a : Option Addr) (cap : Nat) (w : World) : Calls Tryz.prog 102 #[.agg #[.int .i64 0, .int .i64 0, .string ⟨#[]⟩, .slice a 0 cap]] w fun e w' => e = .returned (.bool true) ∧ Below w.heap.size w w' := by
  go_enter Tryz.func102, Tryz.ntmps102
  go_wp2_with fail
  try go_quiet (fail)
  try go_wp2_with fail
  go_ret
  first
    | exact ⟨rfl, ((Below.refl _ _).alloc (Nat.le_refl _) _)⟩
    | exact ⟨rfl, below_drewN ((Below.refl _ _).alloc (Nat.le_refl _) _) _⟩

set_option maxHeartbeats 20000000 in
set_option maxRecDepth 100000 in
theorem fitS_a0 (w : World) (g o k : Nat) (nm ar : ByteArray) (ai ae a9 a10 : Option Addr) (capI capE c9' c10' : Nat) (op n : Int) (en : ByteArray) (lenE : Nat) (nb ab ib : Bool)
    (hk1 : 1 ≤ k) (hk2 : k ≤ 15) (hn : nm.size ≤ maxLen) (ha : ar.size ≤ maxLen) (hfn : fname nm nb = true) (hfa : fname ar ab = true)
    (c0 : w.cell? ⟨g, o, none⟩ = some (.int .i64 (k : Int))) (c2 : w.cell? ⟨g, o + 2, none⟩ = some (.string nm)) (c3 : w.cell? ⟨g, o + 3, none⟩ = some (.string ar)) (c4 : w.cell? ⟨g, o + 4, none⟩ = some (.slice ai 0 capI))
    (c5 : w.cell? ⟨g, o + 5, none⟩ = some (.int .i64 op)) (c6 : w.cell? ⟨g, o + 5 + 1, none⟩ = some (.int .i64 n)) (c7 : w.cell? ⟨g, o + 5 + 2, none⟩ = some (.string en)) (c8 : w.cell? ⟨g, o + 5 + 3, none⟩ = some (.slice ae lenE capE))
    (c9 : w.cell? ⟨g, o + 9, none⟩ = some (.slice a9 0 c9')) (c10 : w.cell? ⟨g, o + 10, none⟩ = some (.slice a10 0 c10'))
    (t0 : w.cell? ⟨2, k * 6, none⟩ = some (.bool nb)) (t1 : w.cell? ⟨2, k * 6 + 1, none⟩ = some (.bool ab)) (t2 : w.cell? ⟨2, k * 6 + 2, none⟩ = some (.bool ib))
    (t3 : w.cell? ⟨2, k * 6 + 3, none⟩ = some (.bool true)) (t4 : w.cell? ⟨2, k * 6 + 4, none⟩ = some (.bool false)) (t5 : w.cell? ⟨2, k * 6 + 5, none⟩ = some (.bool false))
    (CE : ∀ W, Below w.heap.size w W → Calls Tryz.prog 101 #[.agg #[.int .i64 op, .int .i64 n, .string en, .slice ae lenE capE]] W fun e w' => e = .returned (.bool true) ∧ Below W.heap.size W w') :
    Calls Tryz.prog 71 #[.pointer (some ⟨g, o, none⟩)] w fun e w' => e = .returned (.bool true) ∧ Below w.heap.size w w' := by
  have CN := Lib.hid (fun W => fittingName_any nm nb W hn)
  have CA := Lib.hid (fun W => fittingName_any ar ab W ha)
  rw [hfn] at CN
  rw [hfa] at CA
  have HCE := Lib.hid CE
  clear CE
  have hl : g < w.heap.size := block_lt_of_cell c0
  have hl2 := block_lt_of_cell t0
  have hk1i : ¬ (k : Int) < 1 := by omega
  have hk2i : ¬ 15 < (k : Int) := by omega
  have hk2j : ¬ (15 : Int) < (k : Int) := by omega
  have hk3 : (k : Int) < 16 := by omega
  clear hfn hfa hn ha
  go_enter Tryz.func71, Tryz.ntmps71
  go_wp2_with fail
  try simp only [List.append]
  obtain ⟨w0, hw0⟩ : ∃ w0, w0 = w.alloc (Obj.cells #[Value.bool nb, Value.bool ab, Value.bool ib, Value.bool true, Value.bool false, Value.bool false] 165) := ⟨_, rfl⟩
  rw [← hw0]
  have hb0 : Below w.heap.size w w0 := hw0 ▸ (Below.refl _ _).alloc (Nat.le_refl _) _
  have hn0 : ∀ j u, (#[Value.bool nb, Value.bool ab, Value.bool ib, Value.bool true, Value.bool false, Value.bool false] : Array Value)[j]? = some u → w0.cell? ⟨w.heap.size, j, none⟩ = some u := fun j u hj => by
    rw [hw0, World.cell?_alloc_at _ _ _ _ rfl]
    exact hj
  have hz0 : w.heap.size < w0.heap.size := by rw [hw0]; simp
  have HX : Hid (∀ (x : In (Below w0.heap.size w0)) (y : World), Below x.x.heap.size x.x y → Below w0.heap.size w0 y) := Lib.hid (fun x y hb => x.h.trans (hb.mono x.h.size))
  have hall : ∀ x : In (Below w0.heap.size w0), Below w.heap.size w x.x := fun x => hb0.trans (x.h.mono hb0.size)
  have s0 : ∀ x : In (Below w0.heap.size w0), x.x.cell? ⟨w.heap.size, 0, none⟩ = some (.bool nb) := fun x => (x.h.cell (p := ⟨w.heap.size, 0, none⟩) hz0).trans (hn0 0 _ rfl)
  have s1 : ∀ x : In (Below w0.heap.size w0), x.x.cell? ⟨w.heap.size, 1, none⟩ = some (.bool ab) := fun x => (x.h.cell (p := ⟨w.heap.size, 1, none⟩) hz0).trans (hn0 1 _ rfl)
  have s2 : ∀ x : In (Below w0.heap.size w0), x.x.cell? ⟨w.heap.size, 2, none⟩ = some (.bool ib) := fun x => (x.h.cell (p := ⟨w.heap.size, 2, none⟩) hz0).trans (hn0 2 _ rfl)
  have s3 : ∀ x : In (Below w0.heap.size w0), x.x.cell? ⟨w.heap.size, 3, none⟩ = some (.bool true) := fun x => (x.h.cell (p := ⟨w.heap.size, 3, none⟩) hz0).trans (hn0 3 _ rfl)
  have s4 : ∀ x : In (Below w0.heap.size w0), x.x.cell? ⟨w.heap.size, 4, none⟩ = some (.bool false) := fun x => (x.h.cell (p := ⟨w.heap.size, 4, none⟩) hz0).trans (hn0 4 _ rfl)
  have s5 : ∀ x : In (Below w0.heap.size w0), x.x.cell? ⟨w.heap.size, 5, none⟩ = some (.bool false) := fun x => (x.h.cell (p := ⟨w.heap.size, 5, none⟩) hz0).trans (hn0 5 _ rfl)
  have d2 : ∀ x : In (Below w0.heap.size w0), x.x.cell? ⟨g, o + 2, none⟩ = some (.string nm) := fun x => ((hall x).cell (p := ⟨g, o + 2, none⟩) hl).trans c2
  have d3 : ∀ x : In (Below w0.heap.size w0), x.x.cell? ⟨g, o + 3, none⟩ = some (.string ar) := fun x => ((hall x).cell (p := ⟨g, o + 3, none⟩) hl).trans c3
  have d4 : ∀ x : In (Below w0.heap.size w0), x.x.cell? ⟨g, o + 4, none⟩ = some (.slice ai 0 capI) := fun x => ((hall x).cell (p := ⟨g, o + 4, none⟩) hl).trans c4
  have d5 : ∀ x : In (Below w0.heap.size w0), x.x.cell? ⟨g, o + 5, none⟩ = some (.int .i64 op) := fun x => ((hall x).cell (p := ⟨g, o + 5, none⟩) hl).trans c5
  have d6 : ∀ x : In (Below w0.heap.size w0), x.x.cell? ⟨g, o + 5 + 1, none⟩ = some (.int .i64 n) := fun x => ((hall x).cell (p := ⟨g, o + 5 + 1, none⟩) hl).trans c6
  have d7 : ∀ x : In (Below w0.heap.size w0), x.x.cell? ⟨g, o + 5 + 2, none⟩ = some (.string en) := fun x => ((hall x).cell (p := ⟨g, o + 5 + 2, none⟩) hl).trans c7
  have d8 : ∀ x : In (Below w0.heap.size w0), x.x.cell? ⟨g, o + 5 + 3, none⟩ = some (.slice ae lenE capE) := fun x => ((hall x).cell (p := ⟨g, o + 5 + 3, none⟩) hl).trans c8
  have d9 : ∀ x : In (Below w0.heap.size w0), x.x.cell? ⟨g, o + 9, none⟩ = some (.slice a9 0 c9') := fun x => ((hall x).cell (p := ⟨g, o + 9, none⟩) hl).trans c9
  have d10 : ∀ x : In (Below w0.heap.size w0), x.x.cell? ⟨g, o + 10, none⟩ = some (.slice a10 0 c10') := fun x => ((hall x).cell (p := ⟨g, o + 10, none⟩) hl).trans c10
  have HALL := Lib.hid hall
  have HB0 := Lib.hid hb0
  clear c0 c2 c3 c4 c5 c6 c7 c8 c9 c10 t0 t1 t2 t3 t4 t5 hall hb0 hn0 hw0
  haveI : Nonempty (In (Below w0.heap.size w0)) := ⟨⟨w0, Below.refl _ _⟩⟩
  refine wp_region_class (I := In (Below w0.heap.size w0)) (fun x => x.x) (by kernel_rfl) (by kernel_rfl) ⟨⟨_, (Below.refl _ _).drew⟩, rfl⟩ ?_
  repeat (go_big_quiet_step (first
    | (go_at_call 99; (with_reducible refine (CN.out _).mono ?_); rintro e w1 ⟨rfl, hb1⟩; exact ⟨rfl, ⟨_, HX.out _ _ hb1⟩, rfl⟩)
    | (go_at_call 99; (with_reducible refine (CA.out _).mono ?_); rintro e w1 ⟨rfl, hb1⟩; exact ⟨rfl, ⟨_, HX.out _ _ hb1⟩, rfl⟩)
    | (go_at_call 101; refine (HCE.out _ (HALL.out _)).mono ?_; rintro e w1 ⟨rfl, hb1⟩; exact ⟨rfl, ⟨_, HX.out _ _ hb1⟩, rfl⟩)))
  refine wpQuiet_nil ?_
  rintro _ ⟨x, rfl⟩
  have hx := HALL.out x
  go_wp2_with fail
  go_ret
  exact ⟨rfl, hx⟩

set_option maxHeartbeats 20000000 in
set_option maxRecDepth 100000 in
theorem fitS_a1 (w : World) (g o k : Nat) (nm ar : ByteArray) (ai ae a9 a10 : Option Addr) (capI capE c9' c10' : Nat) (op n : Int) (en : ByteArray) (lenE : Nat) (nb ab : Bool)
    (hk1 : 1 ≤ k) (hk2 : k ≤ 15) (hn : nm.size ≤ maxLen) (ha : ar.size ≤ maxLen) (hfn : fname nm nb = true) (hfa : fname ar ab = true)
    (c0 : w.cell? ⟨g, o, none⟩ = some (.int .i64 (k : Int))) (c2 : w.cell? ⟨g, o + 2, none⟩ = some (.string nm)) (c3 : w.cell? ⟨g, o + 3, none⟩ = some (.string ar)) (c4 : w.cell? ⟨g, o + 4, none⟩ = some (.slice ai 1 capI))
    (c5 : w.cell? ⟨g, o + 5, none⟩ = some (.int .i64 op)) (c6 : w.cell? ⟨g, o + 5 + 1, none⟩ = some (.int .i64 n)) (c7 : w.cell? ⟨g, o + 5 + 2, none⟩ = some (.string en)) (c8 : w.cell? ⟨g, o + 5 + 3, none⟩ = some (.slice ae lenE capE))
    (c9 : w.cell? ⟨g, o + 9, none⟩ = some (.slice a9 0 c9')) (c10 : w.cell? ⟨g, o + 10, none⟩ = some (.slice a10 0 c10'))
    (t0 : w.cell? ⟨2, k * 6, none⟩ = some (.bool nb)) (t1 : w.cell? ⟨2, k * 6 + 1, none⟩ = some (.bool ab)) (t2 : w.cell? ⟨2, k * 6 + 2, none⟩ = some (.bool true))
    (t3 : w.cell? ⟨2, k * 6 + 3, none⟩ = some (.bool true)) (t4 : w.cell? ⟨2, k * 6 + 4, none⟩ = some (.bool false)) (t5 : w.cell? ⟨2, k * 6 + 5, none⟩ = some (.bool false))
    (CI : ∀ W, Below w.heap.size w W → Calls Tryz.prog 100 #[.slice ai 1 capI] W fun e w' => e = .returned (.bool true) ∧ Below W.heap.size W w')
    (CE : ∀ W, Below w.heap.size w W → Calls Tryz.prog 101 #[.agg #[.int .i64 op, .int .i64 n, .string en, .slice ae lenE capE]] W fun e w' => e = .returned (.bool true) ∧ Below W.heap.size W w') :
    Calls Tryz.prog 71 #[.pointer (some ⟨g, o, none⟩)] w fun e w' => e = .returned (.bool true) ∧ Below w.heap.size w w' := by
  have CN := Lib.hid (fun W => fittingName_any nm nb W hn)
  have CA := Lib.hid (fun W => fittingName_any ar ab W ha)
  rw [hfn] at CN
  rw [hfa] at CA
  have HCI := Lib.hid CI
  clear CI
  have HCE := Lib.hid CE
  clear CE
  have hl : g < w.heap.size := block_lt_of_cell c0
  have hl2 := block_lt_of_cell t0
  have hk1i : ¬ (k : Int) < 1 := by omega
  have hk2i : ¬ 15 < (k : Int) := by omega
  have hk2j : ¬ (15 : Int) < (k : Int) := by omega
  have hk3 : (k : Int) < 16 := by omega
  clear hfn hfa hn ha
  go_enter Tryz.func71, Tryz.ntmps71
  go_wp2_with fail
  try simp only [List.append]
  obtain ⟨w0, hw0⟩ : ∃ w0, w0 = w.alloc (Obj.cells #[Value.bool nb, Value.bool ab, Value.bool true, Value.bool true, Value.bool false, Value.bool false] 165) := ⟨_, rfl⟩
  rw [← hw0]
  have hb0 : Below w.heap.size w w0 := hw0 ▸ (Below.refl _ _).alloc (Nat.le_refl _) _
  have hn0 : ∀ j u, (#[Value.bool nb, Value.bool ab, Value.bool true, Value.bool true, Value.bool false, Value.bool false] : Array Value)[j]? = some u → w0.cell? ⟨w.heap.size, j, none⟩ = some u := fun j u hj => by
    rw [hw0, World.cell?_alloc_at _ _ _ _ rfl]
    exact hj
  have hz0 : w.heap.size < w0.heap.size := by rw [hw0]; simp
  have HX : Hid (∀ (x : In (Below w0.heap.size w0)) (y : World), Below x.x.heap.size x.x y → Below w0.heap.size w0 y) := Lib.hid (fun x y hb => x.h.trans (hb.mono x.h.size))
  have hall : ∀ x : In (Below w0.heap.size w0), Below w.heap.size w x.x := fun x => hb0.trans (x.h.mono hb0.size)
  have s0 : ∀ x : In (Below w0.heap.size w0), x.x.cell? ⟨w.heap.size, 0, none⟩ = some (.bool nb) := fun x => (x.h.cell (p := ⟨w.heap.size, 0, none⟩) hz0).trans (hn0 0 _ rfl)
  have s1 : ∀ x : In (Below w0.heap.size w0), x.x.cell? ⟨w.heap.size, 1, none⟩ = some (.bool ab) := fun x => (x.h.cell (p := ⟨w.heap.size, 1, none⟩) hz0).trans (hn0 1 _ rfl)
  have s2 : ∀ x : In (Below w0.heap.size w0), x.x.cell? ⟨w.heap.size, 2, none⟩ = some (.bool true) := fun x => (x.h.cell (p := ⟨w.heap.size, 2, none⟩) hz0).trans (hn0 2 _ rfl)
  have s3 : ∀ x : In (Below w0.heap.size w0), x.x.cell? ⟨w.heap.size, 3, none⟩ = some (.bool true) := fun x => (x.h.cell (p := ⟨w.heap.size, 3, none⟩) hz0).trans (hn0 3 _ rfl)
  have s4 : ∀ x : In (Below w0.heap.size w0), x.x.cell? ⟨w.heap.size, 4, none⟩ = some (.bool false) := fun x => (x.h.cell (p := ⟨w.heap.size, 4, none⟩) hz0).trans (hn0 4 _ rfl)
  have s5 : ∀ x : In (Below w0.heap.size w0), x.x.cell? ⟨w.heap.size, 5, none⟩ = some (.bool false) := fun x => (x.h.cell (p := ⟨w.heap.size, 5, none⟩) hz0).trans (hn0 5 _ rfl)
  have d2 : ∀ x : In (Below w0.heap.size w0), x.x.cell? ⟨g, o + 2, none⟩ = some (.string nm) := fun x => ((hall x).cell (p := ⟨g, o + 2, none⟩) hl).trans c2
  have d3 : ∀ x : In (Below w0.heap.size w0), x.x.cell? ⟨g, o + 3, none⟩ = some (.string ar) := fun x => ((hall x).cell (p := ⟨g, o + 3, none⟩) hl).trans c3
  have d4 : ∀ x : In (Below w0.heap.size w0), x.x.cell? ⟨g, o + 4, none⟩ = some (.slice ai 1 capI) := fun x => ((hall x).cell (p := ⟨g, o + 4, none⟩) hl).trans c4
  have d5 : ∀ x : In (Below w0.heap.size w0), x.x.cell? ⟨g, o + 5, none⟩ = some (.int .i64 op) := fun x => ((hall x).cell (p := ⟨g, o + 5, none⟩) hl).trans c5
  have d6 : ∀ x : In (Below w0.heap.size w0), x.x.cell? ⟨g, o + 5 + 1, none⟩ = some (.int .i64 n) := fun x => ((hall x).cell (p := ⟨g, o + 5 + 1, none⟩) hl).trans c6
  have d7 : ∀ x : In (Below w0.heap.size w0), x.x.cell? ⟨g, o + 5 + 2, none⟩ = some (.string en) := fun x => ((hall x).cell (p := ⟨g, o + 5 + 2, none⟩) hl).trans c7
  have d8 : ∀ x : In (Below w0.heap.size w0), x.x.cell? ⟨g, o + 5 + 3, none⟩ = some (.slice ae lenE capE) := fun x => ((hall x).cell (p := ⟨g, o + 5 + 3, none⟩) hl).trans c8
  have d9 : ∀ x : In (Below w0.heap.size w0), x.x.cell? ⟨g, o + 9, none⟩ = some (.slice a9 0 c9') := fun x => ((hall x).cell (p := ⟨g, o + 9, none⟩) hl).trans c9
  have d10 : ∀ x : In (Below w0.heap.size w0), x.x.cell? ⟨g, o + 10, none⟩ = some (.slice a10 0 c10') := fun x => ((hall x).cell (p := ⟨g, o + 10, none⟩) hl).trans c10
  have HALL := Lib.hid hall
  have HB0 := Lib.hid hb0
  clear c0 c2 c3 c4 c5 c6 c7 c8 c9 c10 t0 t1 t2 t3 t4 t5 hall hb0 hn0 hw0
  haveI : Nonempty (In (Below w0.heap.size w0)) := ⟨⟨w0, Below.refl _ _⟩⟩
  refine wp_region_class (I := In (Below w0.heap.size w0)) (fun x => x.x) (by kernel_rfl) (by kernel_rfl) ⟨⟨_, (Below.refl _ _).drew⟩, rfl⟩ ?_
  repeat (go_big_quiet_step (first
    | (go_at_call 99; (with_reducible refine (CN.out _).mono ?_); rintro e w1 ⟨rfl, hb1⟩; exact ⟨rfl, ⟨_, HX.out _ _ hb1⟩, rfl⟩)
    | (go_at_call 99; (with_reducible refine (CA.out _).mono ?_); rintro e w1 ⟨rfl, hb1⟩; exact ⟨rfl, ⟨_, HX.out _ _ hb1⟩, rfl⟩)
    | (go_at_call 100; refine (HCI.out _ (HALL.out _)).mono ?_; rintro e w1 ⟨rfl, hb1⟩; exact ⟨rfl, ⟨_, HX.out _ _ hb1⟩, rfl⟩)
    | (go_at_call 101; refine (HCE.out _ (HALL.out _)).mono ?_; rintro e w1 ⟨rfl, hb1⟩; exact ⟨rfl, ⟨_, HX.out _ _ hb1⟩, rfl⟩)))
  refine wpQuiet_nil ?_
  rintro _ ⟨x, rfl⟩
  have hx := HALL.out x
  go_wp2_with fail
  go_ret
  exact ⟨rfl, hx⟩

set_option maxHeartbeats 20000000 in
set_option maxRecDepth 100000 in
theorem fitS_if (w : World) (g o k : Nat) (nm ar : ByteArray) (ai ae a9 a10 : Option Addr) (capI capE c9' c10' : Nat) (op n : Int) (en : ByteArray) (lenE : Nat) (lB : Nat) (lE : Nat) (nb ab ib : Bool)
    (hk1 : 1 ≤ k) (hk2 : k ≤ 15) (hn : nm.size ≤ maxLen) (ha : ar.size ≤ maxLen) (hfn : fname nm nb = true) (hfa : fname ar ab = true)
    (c0 : w.cell? ⟨g, o, none⟩ = some (.int .i64 (k : Int))) (c2 : w.cell? ⟨g, o + 2, none⟩ = some (.string nm)) (c3 : w.cell? ⟨g, o + 3, none⟩ = some (.string ar)) (c4 : w.cell? ⟨g, o + 4, none⟩ = some (.slice ai 0 capI))
    (c5 : w.cell? ⟨g, o + 5, none⟩ = some (.int .i64 op)) (c6 : w.cell? ⟨g, o + 5 + 1, none⟩ = some (.int .i64 n)) (c7 : w.cell? ⟨g, o + 5 + 2, none⟩ = some (.string en)) (c8 : w.cell? ⟨g, o + 5 + 3, none⟩ = some (.slice ae lenE capE))
    (c9 : w.cell? ⟨g, o + 9, none⟩ = some (.slice a9 lB c9')) (c10 : w.cell? ⟨g, o + 10, none⟩ = some (.slice a10 lE c10'))
    (t0 : w.cell? ⟨2, k * 6, none⟩ = some (.bool nb)) (t1 : w.cell? ⟨2, k * 6 + 1, none⟩ = some (.bool ab)) (t2 : w.cell? ⟨2, k * 6 + 2, none⟩ = some (.bool ib))
    (t3 : w.cell? ⟨2, k * 6 + 3, none⟩ = some (.bool true)) (t4 : w.cell? ⟨2, k * 6 + 4, none⟩ = some (.bool true)) (t5 : w.cell? ⟨2, k * 6 + 5, none⟩ = some (.bool true))
    (CE : ∀ W, Below w.heap.size w W → Calls Tryz.prog 101 #[.agg #[.int .i64 op, .int .i64 n, .string en, .slice ae lenE capE]] W fun e w' => e = .returned (.bool true) ∧ Below W.heap.size W w') :
    Calls Tryz.prog 71 #[.pointer (some ⟨g, o, none⟩)] w fun e w' => e = .returned (.bool true) ∧ Below w.heap.size w w' := by
  have CN := Lib.hid (fun W => fittingName_any nm nb W hn)
  have CA := Lib.hid (fun W => fittingName_any ar ab W ha)
  rw [hfn] at CN
  rw [hfa] at CA
  have HCE := Lib.hid CE
  clear CE
  have hl : g < w.heap.size := block_lt_of_cell c0
  have hl2 := block_lt_of_cell t0
  have hk1i : ¬ (k : Int) < 1 := by omega
  have hk2i : ¬ 15 < (k : Int) := by omega
  have hk2j : ¬ (15 : Int) < (k : Int) := by omega
  have hk3 : (k : Int) < 16 := by omega
  clear hfn hfa hn ha
  go_enter Tryz.func71, Tryz.ntmps71
  go_wp2_with fail
  try simp only [List.append]
  obtain ⟨w0, hw0⟩ : ∃ w0, w0 = w.alloc (Obj.cells #[Value.bool nb, Value.bool ab, Value.bool ib, Value.bool true, Value.bool true, Value.bool true] 165) := ⟨_, rfl⟩
  rw [← hw0]
  have hb0 : Below w.heap.size w w0 := hw0 ▸ (Below.refl _ _).alloc (Nat.le_refl _) _
  have hn0 : ∀ j u, (#[Value.bool nb, Value.bool ab, Value.bool ib, Value.bool true, Value.bool true, Value.bool true] : Array Value)[j]? = some u → w0.cell? ⟨w.heap.size, j, none⟩ = some u := fun j u hj => by
    rw [hw0, World.cell?_alloc_at _ _ _ _ rfl]
    exact hj
  have hz0 : w.heap.size < w0.heap.size := by rw [hw0]; simp
  have HX : Hid (∀ (x : In (Below w0.heap.size w0)) (y : World), Below x.x.heap.size x.x y → Below w0.heap.size w0 y) := Lib.hid (fun x y hb => x.h.trans (hb.mono x.h.size))
  have hall : ∀ x : In (Below w0.heap.size w0), Below w.heap.size w x.x := fun x => hb0.trans (x.h.mono hb0.size)
  have s0 : ∀ x : In (Below w0.heap.size w0), x.x.cell? ⟨w.heap.size, 0, none⟩ = some (.bool nb) := fun x => (x.h.cell (p := ⟨w.heap.size, 0, none⟩) hz0).trans (hn0 0 _ rfl)
  have s1 : ∀ x : In (Below w0.heap.size w0), x.x.cell? ⟨w.heap.size, 1, none⟩ = some (.bool ab) := fun x => (x.h.cell (p := ⟨w.heap.size, 1, none⟩) hz0).trans (hn0 1 _ rfl)
  have s2 : ∀ x : In (Below w0.heap.size w0), x.x.cell? ⟨w.heap.size, 2, none⟩ = some (.bool ib) := fun x => (x.h.cell (p := ⟨w.heap.size, 2, none⟩) hz0).trans (hn0 2 _ rfl)
  have s3 : ∀ x : In (Below w0.heap.size w0), x.x.cell? ⟨w.heap.size, 3, none⟩ = some (.bool true) := fun x => (x.h.cell (p := ⟨w.heap.size, 3, none⟩) hz0).trans (hn0 3 _ rfl)
  have s4 : ∀ x : In (Below w0.heap.size w0), x.x.cell? ⟨w.heap.size, 4, none⟩ = some (.bool true) := fun x => (x.h.cell (p := ⟨w.heap.size, 4, none⟩) hz0).trans (hn0 4 _ rfl)
  have s5 : ∀ x : In (Below w0.heap.size w0), x.x.cell? ⟨w.heap.size, 5, none⟩ = some (.bool true) := fun x => (x.h.cell (p := ⟨w.heap.size, 5, none⟩) hz0).trans (hn0 5 _ rfl)
  have d2 : ∀ x : In (Below w0.heap.size w0), x.x.cell? ⟨g, o + 2, none⟩ = some (.string nm) := fun x => ((hall x).cell (p := ⟨g, o + 2, none⟩) hl).trans c2
  have d3 : ∀ x : In (Below w0.heap.size w0), x.x.cell? ⟨g, o + 3, none⟩ = some (.string ar) := fun x => ((hall x).cell (p := ⟨g, o + 3, none⟩) hl).trans c3
  have d4 : ∀ x : In (Below w0.heap.size w0), x.x.cell? ⟨g, o + 4, none⟩ = some (.slice ai 0 capI) := fun x => ((hall x).cell (p := ⟨g, o + 4, none⟩) hl).trans c4
  have d5 : ∀ x : In (Below w0.heap.size w0), x.x.cell? ⟨g, o + 5, none⟩ = some (.int .i64 op) := fun x => ((hall x).cell (p := ⟨g, o + 5, none⟩) hl).trans c5
  have d6 : ∀ x : In (Below w0.heap.size w0), x.x.cell? ⟨g, o + 5 + 1, none⟩ = some (.int .i64 n) := fun x => ((hall x).cell (p := ⟨g, o + 5 + 1, none⟩) hl).trans c6
  have d7 : ∀ x : In (Below w0.heap.size w0), x.x.cell? ⟨g, o + 5 + 2, none⟩ = some (.string en) := fun x => ((hall x).cell (p := ⟨g, o + 5 + 2, none⟩) hl).trans c7
  have d8 : ∀ x : In (Below w0.heap.size w0), x.x.cell? ⟨g, o + 5 + 3, none⟩ = some (.slice ae lenE capE) := fun x => ((hall x).cell (p := ⟨g, o + 5 + 3, none⟩) hl).trans c8
  have d9 : ∀ x : In (Below w0.heap.size w0), x.x.cell? ⟨g, o + 9, none⟩ = some (.slice a9 lB c9') := fun x => ((hall x).cell (p := ⟨g, o + 9, none⟩) hl).trans c9
  have d10 : ∀ x : In (Below w0.heap.size w0), x.x.cell? ⟨g, o + 10, none⟩ = some (.slice a10 lE c10') := fun x => ((hall x).cell (p := ⟨g, o + 10, none⟩) hl).trans c10
  have HALL := Lib.hid hall
  have HB0 := Lib.hid hb0
  clear c0 c2 c3 c4 c5 c6 c7 c8 c9 c10 t0 t1 t2 t3 t4 t5 hall hb0 hn0 hw0
  haveI : Nonempty (In (Below w0.heap.size w0)) := ⟨⟨w0, Below.refl _ _⟩⟩
  refine wp_region_class (I := In (Below w0.heap.size w0)) (fun x => x.x) (by kernel_rfl) (by kernel_rfl) ⟨⟨_, (Below.refl _ _).drew⟩, rfl⟩ ?_
  repeat (go_big_quiet_step (first
    | (go_at_call 99; (with_reducible refine (CN.out _).mono ?_); rintro e w1 ⟨rfl, hb1⟩; exact ⟨rfl, ⟨_, HX.out _ _ hb1⟩, rfl⟩)
    | (go_at_call 99; (with_reducible refine (CA.out _).mono ?_); rintro e w1 ⟨rfl, hb1⟩; exact ⟨rfl, ⟨_, HX.out _ _ hb1⟩, rfl⟩)
    | (go_at_call 101; refine (HCE.out _ (HALL.out _)).mono ?_; rintro e w1 ⟨rfl, hb1⟩; exact ⟨rfl, ⟨_, HX.out _ _ hb1⟩, rfl⟩)))
  refine wpQuiet_nil ?_
  rintro _ ⟨x, rfl⟩
  have hx := HALL.out x
  go_wp2_with fail
  go_ret
  exact ⟨rfl, hx⟩

set_option maxHeartbeats 20000000 in
set_option maxRecDepth 100000 in
theorem fitS_wh (w : World) (g o k : Nat) (nm ar : ByteArray) (ai ae a9 a10 : Option Addr) (capI capE c9' c10' : Nat) (op n : Int) (en : ByteArray) (lenE : Nat) (lB : Nat) (nb ab ib : Bool)
    (hk1 : 1 ≤ k) (hk2 : k ≤ 15) (hn : nm.size ≤ maxLen) (ha : ar.size ≤ maxLen) (hfn : fname nm nb = true) (hfa : fname ar ab = true)
    (c0 : w.cell? ⟨g, o, none⟩ = some (.int .i64 (k : Int))) (c2 : w.cell? ⟨g, o + 2, none⟩ = some (.string nm)) (c3 : w.cell? ⟨g, o + 3, none⟩ = some (.string ar)) (c4 : w.cell? ⟨g, o + 4, none⟩ = some (.slice ai 0 capI))
    (c5 : w.cell? ⟨g, o + 5, none⟩ = some (.int .i64 op)) (c6 : w.cell? ⟨g, o + 5 + 1, none⟩ = some (.int .i64 n)) (c7 : w.cell? ⟨g, o + 5 + 2, none⟩ = some (.string en)) (c8 : w.cell? ⟨g, o + 5 + 3, none⟩ = some (.slice ae lenE capE))
    (c9 : w.cell? ⟨g, o + 9, none⟩ = some (.slice a9 lB c9')) (c10 : w.cell? ⟨g, o + 10, none⟩ = some (.slice a10 0 c10'))
    (t0 : w.cell? ⟨2, k * 6, none⟩ = some (.bool nb)) (t1 : w.cell? ⟨2, k * 6 + 1, none⟩ = some (.bool ab)) (t2 : w.cell? ⟨2, k * 6 + 2, none⟩ = some (.bool ib))
    (t3 : w.cell? ⟨2, k * 6 + 3, none⟩ = some (.bool true)) (t4 : w.cell? ⟨2, k * 6 + 4, none⟩ = some (.bool true)) (t5 : w.cell? ⟨2, k * 6 + 5, none⟩ = some (.bool false))
    (CE : ∀ W, Below w.heap.size w W → Calls Tryz.prog 101 #[.agg #[.int .i64 op, .int .i64 n, .string en, .slice ae lenE capE]] W fun e w' => e = .returned (.bool true) ∧ Below W.heap.size W w') :
    Calls Tryz.prog 71 #[.pointer (some ⟨g, o, none⟩)] w fun e w' => e = .returned (.bool true) ∧ Below w.heap.size w w' := by
  have CN := Lib.hid (fun W => fittingName_any nm nb W hn)
  have CA := Lib.hid (fun W => fittingName_any ar ab W ha)
  rw [hfn] at CN
  rw [hfa] at CA
  have HCE := Lib.hid CE
  clear CE
  have hl : g < w.heap.size := block_lt_of_cell c0
  have hl2 := block_lt_of_cell t0
  have hk1i : ¬ (k : Int) < 1 := by omega
  have hk2i : ¬ 15 < (k : Int) := by omega
  have hk2j : ¬ (15 : Int) < (k : Int) := by omega
  have hk3 : (k : Int) < 16 := by omega
  clear hfn hfa hn ha
  go_enter Tryz.func71, Tryz.ntmps71
  go_wp2_with fail
  try simp only [List.append]
  obtain ⟨w0, hw0⟩ : ∃ w0, w0 = w.alloc (Obj.cells #[Value.bool nb, Value.bool ab, Value.bool ib, Value.bool true, Value.bool true, Value.bool false] 165) := ⟨_, rfl⟩
  rw [← hw0]
  have hb0 : Below w.heap.size w w0 := hw0 ▸ (Below.refl _ _).alloc (Nat.le_refl _) _
  have hn0 : ∀ j u, (#[Value.bool nb, Value.bool ab, Value.bool ib, Value.bool true, Value.bool true, Value.bool false] : Array Value)[j]? = some u → w0.cell? ⟨w.heap.size, j, none⟩ = some u := fun j u hj => by
    rw [hw0, World.cell?_alloc_at _ _ _ _ rfl]
    exact hj
  have hz0 : w.heap.size < w0.heap.size := by rw [hw0]; simp
  have HX : Hid (∀ (x : In (Below w0.heap.size w0)) (y : World), Below x.x.heap.size x.x y → Below w0.heap.size w0 y) := Lib.hid (fun x y hb => x.h.trans (hb.mono x.h.size))
  have hall : ∀ x : In (Below w0.heap.size w0), Below w.heap.size w x.x := fun x => hb0.trans (x.h.mono hb0.size)
  have s0 : ∀ x : In (Below w0.heap.size w0), x.x.cell? ⟨w.heap.size, 0, none⟩ = some (.bool nb) := fun x => (x.h.cell (p := ⟨w.heap.size, 0, none⟩) hz0).trans (hn0 0 _ rfl)
  have s1 : ∀ x : In (Below w0.heap.size w0), x.x.cell? ⟨w.heap.size, 1, none⟩ = some (.bool ab) := fun x => (x.h.cell (p := ⟨w.heap.size, 1, none⟩) hz0).trans (hn0 1 _ rfl)
  have s2 : ∀ x : In (Below w0.heap.size w0), x.x.cell? ⟨w.heap.size, 2, none⟩ = some (.bool ib) := fun x => (x.h.cell (p := ⟨w.heap.size, 2, none⟩) hz0).trans (hn0 2 _ rfl)
  have s3 : ∀ x : In (Below w0.heap.size w0), x.x.cell? ⟨w.heap.size, 3, none⟩ = some (.bool true) := fun x => (x.h.cell (p := ⟨w.heap.size, 3, none⟩) hz0).trans (hn0 3 _ rfl)
  have s4 : ∀ x : In (Below w0.heap.size w0), x.x.cell? ⟨w.heap.size, 4, none⟩ = some (.bool true) := fun x => (x.h.cell (p := ⟨w.heap.size, 4, none⟩) hz0).trans (hn0 4 _ rfl)
  have s5 : ∀ x : In (Below w0.heap.size w0), x.x.cell? ⟨w.heap.size, 5, none⟩ = some (.bool false) := fun x => (x.h.cell (p := ⟨w.heap.size, 5, none⟩) hz0).trans (hn0 5 _ rfl)
  have d2 : ∀ x : In (Below w0.heap.size w0), x.x.cell? ⟨g, o + 2, none⟩ = some (.string nm) := fun x => ((hall x).cell (p := ⟨g, o + 2, none⟩) hl).trans c2
  have d3 : ∀ x : In (Below w0.heap.size w0), x.x.cell? ⟨g, o + 3, none⟩ = some (.string ar) := fun x => ((hall x).cell (p := ⟨g, o + 3, none⟩) hl).trans c3
  have d4 : ∀ x : In (Below w0.heap.size w0), x.x.cell? ⟨g, o + 4, none⟩ = some (.slice ai 0 capI) := fun x => ((hall x).cell (p := ⟨g, o + 4, none⟩) hl).trans c4
  have d5 : ∀ x : In (Below w0.heap.size w0), x.x.cell? ⟨g, o + 5, none⟩ = some (.int .i64 op) := fun x => ((hall x).cell (p := ⟨g, o + 5, none⟩) hl).trans c5
  have d6 : ∀ x : In (Below w0.heap.size w0), x.x.cell? ⟨g, o + 5 + 1, none⟩ = some (.int .i64 n) := fun x => ((hall x).cell (p := ⟨g, o + 5 + 1, none⟩) hl).trans c6
  have d7 : ∀ x : In (Below w0.heap.size w0), x.x.cell? ⟨g, o + 5 + 2, none⟩ = some (.string en) := fun x => ((hall x).cell (p := ⟨g, o + 5 + 2, none⟩) hl).trans c7
  have d8 : ∀ x : In (Below w0.heap.size w0), x.x.cell? ⟨g, o + 5 + 3, none⟩ = some (.slice ae lenE capE) := fun x => ((hall x).cell (p := ⟨g, o + 5 + 3, none⟩) hl).trans c8
  have d9 : ∀ x : In (Below w0.heap.size w0), x.x.cell? ⟨g, o + 9, none⟩ = some (.slice a9 lB c9') := fun x => ((hall x).cell (p := ⟨g, o + 9, none⟩) hl).trans c9
  have d10 : ∀ x : In (Below w0.heap.size w0), x.x.cell? ⟨g, o + 10, none⟩ = some (.slice a10 0 c10') := fun x => ((hall x).cell (p := ⟨g, o + 10, none⟩) hl).trans c10
  have HALL := Lib.hid hall
  have HB0 := Lib.hid hb0
  clear c0 c2 c3 c4 c5 c6 c7 c8 c9 c10 t0 t1 t2 t3 t4 t5 hall hb0 hn0 hw0
  haveI : Nonempty (In (Below w0.heap.size w0)) := ⟨⟨w0, Below.refl _ _⟩⟩
  refine wp_region_class (I := In (Below w0.heap.size w0)) (fun x => x.x) (by kernel_rfl) (by kernel_rfl) ⟨⟨_, (Below.refl _ _).drew⟩, rfl⟩ ?_
  repeat (go_big_quiet_step (first
    | (go_at_call 99; (with_reducible refine (CN.out _).mono ?_); rintro e w1 ⟨rfl, hb1⟩; exact ⟨rfl, ⟨_, HX.out _ _ hb1⟩, rfl⟩)
    | (go_at_call 99; (with_reducible refine (CA.out _).mono ?_); rintro e w1 ⟨rfl, hb1⟩; exact ⟨rfl, ⟨_, HX.out _ _ hb1⟩, rfl⟩)
    | (go_at_call 101; refine (HCE.out _ (HALL.out _)).mono ?_; rintro e w1 ⟨rfl, hb1⟩; exact ⟨rfl, ⟨_, HX.out _ _ hb1⟩, rfl⟩)))
  refine wpQuiet_nil ?_
  rintro _ ⟨x, rfl⟩
  have hx := HALL.out x
  go_wp2_with fail
  go_ret
  exact ⟨rfl, hx⟩

set_option maxHeartbeats 20000000 in
set_option maxRecDepth 100000 in
theorem fitS_bl (w : World) (g o k : Nat) (nm ar : ByteArray) (ai ae a9 a10 : Option Addr) (capI capE c9' c10' : Nat) (lB : Nat) (nb ab ib : Bool)
    (hk1 : 1 ≤ k) (hk2 : k ≤ 15) (hn : nm.size ≤ maxLen) (ha : ar.size ≤ maxLen) (hfn : fname nm nb = true) (hfa : fname ar ab = true)
    (c0 : w.cell? ⟨g, o, none⟩ = some (.int .i64 (k : Int))) (c2 : w.cell? ⟨g, o + 2, none⟩ = some (.string nm)) (c3 : w.cell? ⟨g, o + 3, none⟩ = some (.string ar)) (c4 : w.cell? ⟨g, o + 4, none⟩ = some (.slice ai 0 capI))
    (c5 : w.cell? ⟨g, o + 5, none⟩ = some (.int .i64 0)) (c6 : w.cell? ⟨g, o + 5 + 1, none⟩ = some (.int .i64 0)) (c7 : w.cell? ⟨g, o + 5 + 2, none⟩ = some (.string ⟨#[]⟩)) (c8 : w.cell? ⟨g, o + 5 + 3, none⟩ = some (.slice ae 0 capE))
    (c9 : w.cell? ⟨g, o + 9, none⟩ = some (.slice a9 lB c9')) (c10 : w.cell? ⟨g, o + 10, none⟩ = some (.slice a10 0 c10'))
    (t0 : w.cell? ⟨2, k * 6, none⟩ = some (.bool nb)) (t1 : w.cell? ⟨2, k * 6 + 1, none⟩ = some (.bool ab)) (t2 : w.cell? ⟨2, k * 6 + 2, none⟩ = some (.bool ib))
    (t3 : w.cell? ⟨2, k * 6 + 3, none⟩ = some (.bool false)) (t4 : w.cell? ⟨2, k * 6 + 4, none⟩ = some (.bool true)) (t5 : w.cell? ⟨2, k * 6 + 5, none⟩ = some (.bool false)) :
    Calls Tryz.prog 71 #[.pointer (some ⟨g, o, none⟩)] w fun e w' => e = .returned (.bool true) ∧ Below w.heap.size w w' := by
  have CN := Lib.hid (fun W => fittingName_any nm nb W hn)
  have CA := Lib.hid (fun W => fittingName_any ar ab W ha)
  rw [hfn] at CN
  rw [hfa] at CA
  have HCZ := Lib.hid (fun W => isZero_zero ae capE W)
  have hl : g < w.heap.size := block_lt_of_cell c0
  have hl2 := block_lt_of_cell t0
  have hk1i : ¬ (k : Int) < 1 := by omega
  have hk2i : ¬ 15 < (k : Int) := by omega
  have hk2j : ¬ (15 : Int) < (k : Int) := by omega
  have hk3 : (k : Int) < 16 := by omega
  clear hfn hfa hn ha
  go_enter Tryz.func71, Tryz.ntmps71
  go_wp2_with fail
  try simp only [List.append]
  obtain ⟨w0, hw0⟩ : ∃ w0, w0 = w.alloc (Obj.cells #[Value.bool nb, Value.bool ab, Value.bool ib, Value.bool false, Value.bool true, Value.bool false] 165) := ⟨_, rfl⟩
  rw [← hw0]
  have hb0 : Below w.heap.size w w0 := hw0 ▸ (Below.refl _ _).alloc (Nat.le_refl _) _
  have hn0 : ∀ j u, (#[Value.bool nb, Value.bool ab, Value.bool ib, Value.bool false, Value.bool true, Value.bool false] : Array Value)[j]? = some u → w0.cell? ⟨w.heap.size, j, none⟩ = some u := fun j u hj => by
    rw [hw0, World.cell?_alloc_at _ _ _ _ rfl]
    exact hj
  have hz0 : w.heap.size < w0.heap.size := by rw [hw0]; simp
  have HX : Hid (∀ (x : In (Below w0.heap.size w0)) (y : World), Below x.x.heap.size x.x y → Below w0.heap.size w0 y) := Lib.hid (fun x y hb => x.h.trans (hb.mono x.h.size))
  have hall : ∀ x : In (Below w0.heap.size w0), Below w.heap.size w x.x := fun x => hb0.trans (x.h.mono hb0.size)
  have s0 : ∀ x : In (Below w0.heap.size w0), x.x.cell? ⟨w.heap.size, 0, none⟩ = some (.bool nb) := fun x => (x.h.cell (p := ⟨w.heap.size, 0, none⟩) hz0).trans (hn0 0 _ rfl)
  have s1 : ∀ x : In (Below w0.heap.size w0), x.x.cell? ⟨w.heap.size, 1, none⟩ = some (.bool ab) := fun x => (x.h.cell (p := ⟨w.heap.size, 1, none⟩) hz0).trans (hn0 1 _ rfl)
  have s2 : ∀ x : In (Below w0.heap.size w0), x.x.cell? ⟨w.heap.size, 2, none⟩ = some (.bool ib) := fun x => (x.h.cell (p := ⟨w.heap.size, 2, none⟩) hz0).trans (hn0 2 _ rfl)
  have s3 : ∀ x : In (Below w0.heap.size w0), x.x.cell? ⟨w.heap.size, 3, none⟩ = some (.bool false) := fun x => (x.h.cell (p := ⟨w.heap.size, 3, none⟩) hz0).trans (hn0 3 _ rfl)
  have s4 : ∀ x : In (Below w0.heap.size w0), x.x.cell? ⟨w.heap.size, 4, none⟩ = some (.bool true) := fun x => (x.h.cell (p := ⟨w.heap.size, 4, none⟩) hz0).trans (hn0 4 _ rfl)
  have s5 : ∀ x : In (Below w0.heap.size w0), x.x.cell? ⟨w.heap.size, 5, none⟩ = some (.bool false) := fun x => (x.h.cell (p := ⟨w.heap.size, 5, none⟩) hz0).trans (hn0 5 _ rfl)
  have d2 : ∀ x : In (Below w0.heap.size w0), x.x.cell? ⟨g, o + 2, none⟩ = some (.string nm) := fun x => ((hall x).cell (p := ⟨g, o + 2, none⟩) hl).trans c2
  have d3 : ∀ x : In (Below w0.heap.size w0), x.x.cell? ⟨g, o + 3, none⟩ = some (.string ar) := fun x => ((hall x).cell (p := ⟨g, o + 3, none⟩) hl).trans c3
  have d4 : ∀ x : In (Below w0.heap.size w0), x.x.cell? ⟨g, o + 4, none⟩ = some (.slice ai 0 capI) := fun x => ((hall x).cell (p := ⟨g, o + 4, none⟩) hl).trans c4
  have d5 : ∀ x : In (Below w0.heap.size w0), x.x.cell? ⟨g, o + 5, none⟩ = some (.int .i64 0) := fun x => ((hall x).cell (p := ⟨g, o + 5, none⟩) hl).trans c5
  have d6 : ∀ x : In (Below w0.heap.size w0), x.x.cell? ⟨g, o + 5 + 1, none⟩ = some (.int .i64 0) := fun x => ((hall x).cell (p := ⟨g, o + 5 + 1, none⟩) hl).trans c6
  have d7 : ∀ x : In (Below w0.heap.size w0), x.x.cell? ⟨g, o + 5 + 2, none⟩ = some (.string ⟨#[]⟩) := fun x => ((hall x).cell (p := ⟨g, o + 5 + 2, none⟩) hl).trans c7
  have d8 : ∀ x : In (Below w0.heap.size w0), x.x.cell? ⟨g, o + 5 + 3, none⟩ = some (.slice ae 0 capE) := fun x => ((hall x).cell (p := ⟨g, o + 5 + 3, none⟩) hl).trans c8
  have d9 : ∀ x : In (Below w0.heap.size w0), x.x.cell? ⟨g, o + 9, none⟩ = some (.slice a9 lB c9') := fun x => ((hall x).cell (p := ⟨g, o + 9, none⟩) hl).trans c9
  have d10 : ∀ x : In (Below w0.heap.size w0), x.x.cell? ⟨g, o + 10, none⟩ = some (.slice a10 0 c10') := fun x => ((hall x).cell (p := ⟨g, o + 10, none⟩) hl).trans c10
  have HALL := Lib.hid hall
  have HB0 := Lib.hid hb0
  clear c0 c2 c3 c4 c5 c6 c7 c8 c9 c10 t0 t1 t2 t3 t4 t5 hall hb0 hn0 hw0
  haveI : Nonempty (In (Below w0.heap.size w0)) := ⟨⟨w0, Below.refl _ _⟩⟩
  refine wp_region_class (I := In (Below w0.heap.size w0)) (fun x => x.x) (by kernel_rfl) (by kernel_rfl) ⟨⟨_, (Below.refl _ _).drew⟩, rfl⟩ ?_
  repeat (go_big_quiet_step (first
    | (go_at_call 99; (with_reducible refine (CN.out _).mono ?_); rintro e w1 ⟨rfl, hb1⟩; exact ⟨rfl, ⟨_, HX.out _ _ hb1⟩, rfl⟩)
    | (go_at_call 99; (with_reducible refine (CA.out _).mono ?_); rintro e w1 ⟨rfl, hb1⟩; exact ⟨rfl, ⟨_, HX.out _ _ hb1⟩, rfl⟩)
    | (go_at_call 102; refine (HCZ.out _).mono ?_; rintro e w1 ⟨rfl, hb1⟩; exact ⟨rfl, ⟨_, HX.out _ _ hb1⟩, rfl⟩)))
  refine wpQuiet_nil ?_
  rintro _ ⟨x, rfl⟩
  have hx := HALL.out x
  go_wp2_with fail
  go_ret
  exact ⟨rfl, hx⟩

set_option maxHeartbeats 20000000 in
set_option maxRecDepth 100000 in
theorem fitS_pl (w : World) (g o k : Nat) (nm ar : ByteArray) (ai ae a9 a10 : Option Addr) (capI capE c9' c10' : Nat) (nb ab ib : Bool)
    (hk1 : 1 ≤ k) (hk2 : k ≤ 15) (hn : nm.size ≤ maxLen) (ha : ar.size ≤ maxLen) (hfn : fname nm nb = true) (hfa : fname ar ab = true)
    (c0 : w.cell? ⟨g, o, none⟩ = some (.int .i64 (k : Int))) (c2 : w.cell? ⟨g, o + 2, none⟩ = some (.string nm)) (c3 : w.cell? ⟨g, o + 3, none⟩ = some (.string ar)) (c4 : w.cell? ⟨g, o + 4, none⟩ = some (.slice ai 0 capI))
    (c5 : w.cell? ⟨g, o + 5, none⟩ = some (.int .i64 0)) (c6 : w.cell? ⟨g, o + 5 + 1, none⟩ = some (.int .i64 0)) (c7 : w.cell? ⟨g, o + 5 + 2, none⟩ = some (.string ⟨#[]⟩)) (c8 : w.cell? ⟨g, o + 5 + 3, none⟩ = some (.slice ae 0 capE))
    (c9 : w.cell? ⟨g, o + 9, none⟩ = some (.slice a9 0 c9')) (c10 : w.cell? ⟨g, o + 10, none⟩ = some (.slice a10 0 c10'))
    (t0 : w.cell? ⟨2, k * 6, none⟩ = some (.bool nb)) (t1 : w.cell? ⟨2, k * 6 + 1, none⟩ = some (.bool ab)) (t2 : w.cell? ⟨2, k * 6 + 2, none⟩ = some (.bool ib))
    (t3 : w.cell? ⟨2, k * 6 + 3, none⟩ = some (.bool false)) (t4 : w.cell? ⟨2, k * 6 + 4, none⟩ = some (.bool false)) (t5 : w.cell? ⟨2, k * 6 + 5, none⟩ = some (.bool false)) :
    Calls Tryz.prog 71 #[.pointer (some ⟨g, o, none⟩)] w fun e w' => e = .returned (.bool true) ∧ Below w.heap.size w w' := by
  have CN := Lib.hid (fun W => fittingName_any nm nb W hn)
  have CA := Lib.hid (fun W => fittingName_any ar ab W ha)
  rw [hfn] at CN
  rw [hfa] at CA
  have HCZ := Lib.hid (fun W => isZero_zero ae capE W)
  have hl : g < w.heap.size := block_lt_of_cell c0
  have hl2 := block_lt_of_cell t0
  have hk1i : ¬ (k : Int) < 1 := by omega
  have hk2i : ¬ 15 < (k : Int) := by omega
  have hk2j : ¬ (15 : Int) < (k : Int) := by omega
  have hk3 : (k : Int) < 16 := by omega
  clear hfn hfa hn ha
  go_enter Tryz.func71, Tryz.ntmps71
  go_wp2_with fail
  try simp only [List.append]
  obtain ⟨w0, hw0⟩ : ∃ w0, w0 = w.alloc (Obj.cells #[Value.bool nb, Value.bool ab, Value.bool ib, Value.bool false, Value.bool false, Value.bool false] 165) := ⟨_, rfl⟩
  rw [← hw0]
  have hb0 : Below w.heap.size w w0 := hw0 ▸ (Below.refl _ _).alloc (Nat.le_refl _) _
  have hn0 : ∀ j u, (#[Value.bool nb, Value.bool ab, Value.bool ib, Value.bool false, Value.bool false, Value.bool false] : Array Value)[j]? = some u → w0.cell? ⟨w.heap.size, j, none⟩ = some u := fun j u hj => by
    rw [hw0, World.cell?_alloc_at _ _ _ _ rfl]
    exact hj
  have hz0 : w.heap.size < w0.heap.size := by rw [hw0]; simp
  have HX : Hid (∀ (x : In (Below w0.heap.size w0)) (y : World), Below x.x.heap.size x.x y → Below w0.heap.size w0 y) := Lib.hid (fun x y hb => x.h.trans (hb.mono x.h.size))
  have hall : ∀ x : In (Below w0.heap.size w0), Below w.heap.size w x.x := fun x => hb0.trans (x.h.mono hb0.size)
  have s0 : ∀ x : In (Below w0.heap.size w0), x.x.cell? ⟨w.heap.size, 0, none⟩ = some (.bool nb) := fun x => (x.h.cell (p := ⟨w.heap.size, 0, none⟩) hz0).trans (hn0 0 _ rfl)
  have s1 : ∀ x : In (Below w0.heap.size w0), x.x.cell? ⟨w.heap.size, 1, none⟩ = some (.bool ab) := fun x => (x.h.cell (p := ⟨w.heap.size, 1, none⟩) hz0).trans (hn0 1 _ rfl)
  have s2 : ∀ x : In (Below w0.heap.size w0), x.x.cell? ⟨w.heap.size, 2, none⟩ = some (.bool ib) := fun x => (x.h.cell (p := ⟨w.heap.size, 2, none⟩) hz0).trans (hn0 2 _ rfl)
  have s3 : ∀ x : In (Below w0.heap.size w0), x.x.cell? ⟨w.heap.size, 3, none⟩ = some (.bool false) := fun x => (x.h.cell (p := ⟨w.heap.size, 3, none⟩) hz0).trans (hn0 3 _ rfl)
  have s4 : ∀ x : In (Below w0.heap.size w0), x.x.cell? ⟨w.heap.size, 4, none⟩ = some (.bool false) := fun x => (x.h.cell (p := ⟨w.heap.size, 4, none⟩) hz0).trans (hn0 4 _ rfl)
  have s5 : ∀ x : In (Below w0.heap.size w0), x.x.cell? ⟨w.heap.size, 5, none⟩ = some (.bool false) := fun x => (x.h.cell (p := ⟨w.heap.size, 5, none⟩) hz0).trans (hn0 5 _ rfl)
  have d2 : ∀ x : In (Below w0.heap.size w0), x.x.cell? ⟨g, o + 2, none⟩ = some (.string nm) := fun x => ((hall x).cell (p := ⟨g, o + 2, none⟩) hl).trans c2
  have d3 : ∀ x : In (Below w0.heap.size w0), x.x.cell? ⟨g, o + 3, none⟩ = some (.string ar) := fun x => ((hall x).cell (p := ⟨g, o + 3, none⟩) hl).trans c3
  have d4 : ∀ x : In (Below w0.heap.size w0), x.x.cell? ⟨g, o + 4, none⟩ = some (.slice ai 0 capI) := fun x => ((hall x).cell (p := ⟨g, o + 4, none⟩) hl).trans c4
  have d5 : ∀ x : In (Below w0.heap.size w0), x.x.cell? ⟨g, o + 5, none⟩ = some (.int .i64 0) := fun x => ((hall x).cell (p := ⟨g, o + 5, none⟩) hl).trans c5
  have d6 : ∀ x : In (Below w0.heap.size w0), x.x.cell? ⟨g, o + 5 + 1, none⟩ = some (.int .i64 0) := fun x => ((hall x).cell (p := ⟨g, o + 5 + 1, none⟩) hl).trans c6
  have d7 : ∀ x : In (Below w0.heap.size w0), x.x.cell? ⟨g, o + 5 + 2, none⟩ = some (.string ⟨#[]⟩) := fun x => ((hall x).cell (p := ⟨g, o + 5 + 2, none⟩) hl).trans c7
  have d8 : ∀ x : In (Below w0.heap.size w0), x.x.cell? ⟨g, o + 5 + 3, none⟩ = some (.slice ae 0 capE) := fun x => ((hall x).cell (p := ⟨g, o + 5 + 3, none⟩) hl).trans c8
  have d9 : ∀ x : In (Below w0.heap.size w0), x.x.cell? ⟨g, o + 9, none⟩ = some (.slice a9 0 c9') := fun x => ((hall x).cell (p := ⟨g, o + 9, none⟩) hl).trans c9
  have d10 : ∀ x : In (Below w0.heap.size w0), x.x.cell? ⟨g, o + 10, none⟩ = some (.slice a10 0 c10') := fun x => ((hall x).cell (p := ⟨g, o + 10, none⟩) hl).trans c10
  have HALL := Lib.hid hall
  have HB0 := Lib.hid hb0
  clear c0 c2 c3 c4 c5 c6 c7 c8 c9 c10 t0 t1 t2 t3 t4 t5 hall hb0 hn0 hw0
  haveI : Nonempty (In (Below w0.heap.size w0)) := ⟨⟨w0, Below.refl _ _⟩⟩
  refine wp_region_class (I := In (Below w0.heap.size w0)) (fun x => x.x) (by kernel_rfl) (by kernel_rfl) ⟨⟨_, (Below.refl _ _).drew⟩, rfl⟩ ?_
  repeat (go_big_quiet_step (first
    | (go_at_call 99; (with_reducible refine (CN.out _).mono ?_); rintro e w1 ⟨rfl, hb1⟩; exact ⟨rfl, ⟨_, HX.out _ _ hb1⟩, rfl⟩)
    | (go_at_call 99; (with_reducible refine (CA.out _).mono ?_); rintro e w1 ⟨rfl, hb1⟩; exact ⟨rfl, ⟨_, HX.out _ _ hb1⟩, rfl⟩)
    | (go_at_call 102; refine (HCZ.out _).mono ?_; rintro e w1 ⟨rfl, hb1⟩; exact ⟨rfl, ⟨_, HX.out _ _ hb1⟩, rfl⟩)))
  refine wpQuiet_nil ?_
  rintro _ ⟨x, rfl⟩
  have hx := HALL.out x
  go_wp2_with fail
  go_ret
  exact ⟨rfl, hx⟩
end Go.Proofs.YtncflfadgcaldaaGreatDoor
