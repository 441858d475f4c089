/-
  The walk of CompileLoops.
-/
import Derived.Test.YtncflfadgcaldaaGreatDoorCpL
namespace Go.Proofs.YtncflfadgcaldaaGreatDoor
open Go.RowKit
open Par Tok

namespace Cp
def loT : Bs := [116, 104, 114, 101, 97, 100, 32, 116, 40, 97, 41, 32, 123, 32, 119, 104, 105, 108, 101, 32, 97, 32, 60, 32, 50, 32, 123, 32, 97, 32, 61, 32, 97, 32, 43, 32, 49, 59, 32, 125, 32, 125]
def loTh : Th := ((parseOut loT).1.threads[0]?).getD ⟨[], 0, [], []⟩
def loFin : List Ins := [⟨2, 1, 0, 0, 0, 0⟩, ⟨1, 2, 0, 0, 2, 0⟩, ⟨4, 1, 1, 2, 13, 0⟩, ⟨10, 1, 9, 0, 0, 0⟩, ⟨2, 1, 0, 0, 0, 1⟩, ⟨1, 2, 0, 0, 1, 1⟩, ⟨4, 1, 1, 2, 6, 1⟩, ⟨2, 0, 1, 0, 0, 1⟩, ⟨5, 0, 0, 0, 0, 0⟩, ⟨28, 0, 0, 0, 0, -1⟩]
theorem lo_out : (parseOut loT).2.1 = 0 := by decide +kernel
theorem lo_p : (parseOut loT).1 = ⟨[], [loTh]⟩ := by kernel_rfl
theorem lo_e : Ck.progE (parseOut loT).1 = (0, 0) := by decide +kernel
theorem lo_easy : easyB [] loTh.body = true := by decide +kernel
theorem lo_fin : (blkC loTh.locals [] loTh.body 0 0).1 ++ [(⟨28, 0, 0, 0, 0, -1⟩ : Ins)] = loFin := by kernel_rfl
theorem lo_regs : regsN loTh.locals.length loFin = 3 := by decide +kernel
theorem lo_ok : ∀ i ∈ (blkC loTh.locals [] loTh.body 0 0).1, okI i = true := by decide +kernel
theorem lo_sz : szB loTh.body + loTh.locals.length ≤ 100000 := by decide +kernel
end Cp

set_option maxHeartbeats 8000000 in
set_option maxRecDepth 100000 in
theorem compileLoops_any (w : World) (hv : Two w) (hT : TabF w) (hL : Cp.LayF w) :
    Calls Tryz.prog 3 #[] w fun x w' => x = .returned (.bool true) ∧ Below w.heap.size w w' := by
  have CP := Lib.hid (parse_anyP ⟨Cp.loT.toArray⟩ w hv (by decide))
  have eT : (⟨Cp.loT.toArray⟩ : ByteArray).data.toList = Cp.loT := rfl
  rw [eT] at CP
  obtain ⟨hsh, hn⟩ := parseOut_shaped _ Cp.lo_out
  have hE := Cp.lo_e
  unfold PostWP at CP
  rw [Cp.lo_out] at CP
  rw [Cp.lo_p] at CP hsh hn hE
  obtain ⟨ln, hln⟩ : ∃ l, l = (parseOut Cp.loT).2.2 := ⟨_, rfl⟩
  rw [← hln] at CP
  have CC := Lib.hid (fun W n0 a0 a1 c0 c1 (hT : TabF W) (hL : Cp.LayF W) h => program_one W hT hL n0 Cp.loTh a0 a1 c0 c1 h hsh hn hE Cp.lo_easy Cp.lo_sz Cp.lo_ok)
  rw [Cp.lo_fin, Cp.lo_regs] at CC
  have HTT := Lib.hid hT
  have HLL := Lib.hid hL
  clear hsh hn hE hln eT hT hL hv
  go_enter Tryz.func3, Tryz.ntmps3
  go_wp2_with (first
    | (go_at_call 4; refine CP.out.mono ?_; rintro e w1 ⟨a0, l0, c0, a1, l1, c1, rfl, hb, hr⟩; obtain ⟨z0, q0, hz0, _⟩ := id hr.1; obtain ⟨z1, q1, hz1, _⟩ := id hr.2; (cases hz0); (cases hz1); simp only [List.length_nil, List.length_singleton] at hr; have HR := Lib.hid hr; have HB := Lib.hid hb; clear hr hb)
    | (go_at_call 5; (refine (CC.out _ w.heap.size _ _ _ _ ((HTT.out.below HB.out).below ((Below.refl _ _).alloc (Nat.le_refl _) _)) (fun j hj => (((HB.out.trans (((Below.refl w1.heap.size w1).alloc (Nat.le_refl _) _).mono HB.out.size)).cell (block_lt_of_cell (HLL.out j hj))).trans (HLL.out j hj))) (HR.out.move (fun g _ hg => Below.heap_alloc _ _ _ hg) (Nat.le_refl _))).mono ?_); rintro x w2 ⟨A4, l4, c4, A5, l5, c5, g, cg, q, cq, rfl, hb2, hg0, hg1, hqc⟩; have HQ := Lib.hid hqc; have HB2 := Lib.hid (HB.out.trans ((((Below.refl w1.heap.size w1).alloc (Nat.le_refl _) _).trans (hb2.mono (by simp))).mono HB.out.size)); have hgl := block_lt_of_cell hg0; clear hqc hb2))
  obtain ⟨wL, hwL⟩ : ∃ x, x = (w2.alloc (.cells #[.slice none 0 0, .slice none 0 0, .slice none 0 0, .slice none 0 0, .slice A4 l4 c4, .slice A5 l5 c5, .slice (some ⟨g, 0, none⟩) 1 cg] 38)).alloc (.cells #[.int .i64 2, .int .i64 1, .int .i64 0, .int .i64 0, .int .i64 0, .int .i64 0, .int .i64 1, .int .i64 2, .int .i64 0, .int .i64 0, .int .i64 2, .int .i64 0, .int .i64 4, .int .i64 1, .int .i64 1, .int .i64 2, .int .i64 13, .int .i64 0, .int .i64 10, .int .i64 1, .int .i64 9, .int .i64 0, .int .i64 0, .int .i64 0, .int .i64 2, .int .i64 1, .int .i64 0, .int .i64 0, .int .i64 0, .int .i64 1, .int .i64 1, .int .i64 2, .int .i64 0, .int .i64 0, .int .i64 1, .int .i64 1, .int .i64 4, .int .i64 1, .int .i64 1, .int .i64 2, .int .i64 6, .int .i64 1, .int .i64 2, .int .i64 0, .int .i64 1, .int .i64 0, .int .i64 0, .int .i64 1, .int .i64 5, .int .i64 0, .int .i64 0, .int .i64 0, .int .i64 0, .int .i64 0, .int .i64 28, .int .i64 0, .int .i64 0, .int .i64 0, .int .i64 0, .int .i64 (-1)] 42) := ⟨_, rfl⟩
  have hbL : Below w2.heap.size w2 wL := by rw [hwL]; exact ((Below.refl _ _).alloc (Nat.le_refl _) _).alloc (by simp) _
  have HBL := Lib.hid (HB2.out.trans (hbL.mono HB2.out.size))
  have HC6 : Hid (wL.cell? ⟨w2.heap.size, 6, none⟩ = some (.slice (some ⟨g, 0, none⟩) 1 cg)) := Lib.hid (by
    rw [hwL]
    exact ((Below.refl _ _).alloc (Nat.le_refl _) _).cell (p := ⟨w2.heap.size, 6, none⟩) (by simp) |>.trans (by simp))
  have HG1 : Hid (wL.cell? ⟨g, 1, none⟩ = some (.slice (some ⟨q, 0, none⟩) 10 cq)) := Lib.hid ((hbL.cell (p := ⟨g, 1, none⟩) hgl).trans hg1)
  have HW : Hid (∀ j u, (Cp.loFin.flatMap Cp.Ins.cells)[j]? = some u → wL.cell? ⟨w2.heap.size + 1, j, none⟩ = some u) := Lib.hid (fun j u hj => by
    rw [hwL]
    have hj2 : ([.int .i64 2, .int .i64 1, .int .i64 0, .int .i64 0, .int .i64 0, .int .i64 0, .int .i64 1, .int .i64 2, .int .i64 0, .int .i64 0, .int .i64 2, .int .i64 0, .int .i64 4, .int .i64 1, .int .i64 1, .int .i64 2, .int .i64 13, .int .i64 0, .int .i64 10, .int .i64 1, .int .i64 9, .int .i64 0, .int .i64 0, .int .i64 0, .int .i64 2, .int .i64 1, .int .i64 0, .int .i64 0, .int .i64 0, .int .i64 1, .int .i64 1, .int .i64 2, .int .i64 0, .int .i64 0, .int .i64 1, .int .i64 1, .int .i64 4, .int .i64 1, .int .i64 1, .int .i64 2, .int .i64 6, .int .i64 1, .int .i64 2, .int .i64 0, .int .i64 1, .int .i64 0, .int .i64 0, .int .i64 1, .int .i64 5, .int .i64 0, .int .i64 0, .int .i64 0, .int .i64 0, .int .i64 0, .int .i64 28, .int .i64 0, .int .i64 0, .int .i64 0, .int .i64 0, .int .i64 (-1)] : List Value)[j]? = some u := hj
    exact (World.cell?_alloc_at _ _ _ _ (by simp)).trans (by simpa using hj2))
  have HGW := Lib.hid (show w2.heap.size + 1 < wL.heap.size by rw [hwL]; simp)
  have HQ2 : Hid (∀ j u, (Cp.loFin.flatMap Cp.Ins.cells)[j]? = some u → wL.cell? ⟨q, j, none⟩ = some u) := Lib.hid (fun j u hj => (hbL.cell (p := ⟨q, j, none⟩) (block_lt_of_cell (HQ.out j u hj))).trans (HQ.out j u hj))
  rw [← hwL]
  clear hwL hbL hg0 hg1
  go_loopw [8] (fun i wr => ∃ k : Nat, k ≤ 10 ∧ i = .int .i64 k ∧ Below wL.heap.size wL wr) (fun i _ => 10 - (intOf i).toNat)
  case atStart => exact ⟨0, by omega, by first | rfl | trivial, Below.refl _ _⟩
  case round =>
    obtain ⟨k, hk, rfl, hbel⟩ := hrel
    have HBE := Lib.hid hbel
    by_cases hk10 : k < 10
    · have hki : (k : Int) < 10 := by omega
      have hkl : k < Cp.loFin.length := hk10
      have cw := fun j (hj : j < 6) u (hu : (Cp.Ins.cells Cp.loFin[k])[j]? = some u) => (hbel.cell (p := ⟨w2.heap.size + 1, k * 6 + j, none⟩) (block_lt_of_cell (HW.out _ u ((Cp.flat_at Cp.Ins.cells 6 (fun _ => rfl) Cp.loFin k hkl j hj).trans hu)))).trans (HW.out _ u ((Cp.flat_at Cp.Ins.cells 6 (fun _ => rfl) Cp.loFin k hkl j hj).trans hu))
      have cq2 := fun j (hj : j < 6) u (hu : (Cp.Ins.cells Cp.loFin[k])[j]? = some u) => (hbel.cell (p := ⟨q, k * 6 + j, none⟩) (block_lt_of_cell (HQ2.out _ u ((Cp.flat_at Cp.Ins.cells 6 (fun _ => rfl) Cp.loFin k hkl j hj).trans hu)))).trans (HQ2.out _ u ((Cp.flat_at Cp.Ins.cells 6 (fun _ => rfl) Cp.loFin k hkl j hj).trans hu))
      obtain ⟨ins, hins⟩ : ∃ z, z = Cp.loFin[k] := ⟨_, rfl⟩
      rw [← hins] at cw cq2
      clear hins
      obtain ⟨o, ia, ib, ic, inn, si⟩ := ins
      have wa0 := cw 0 (by omega) _ rfl
      have wa1 := cw 1 (by omega) _ rfl
      have wa2 := cw 2 (by omega) _ rfl
      have wa3 := cw 3 (by omega) _ rfl
      have wa4 := cw 4 (by omega) _ rfl
      have wa5 := cw 5 (by omega) _ rfl
      have qb0 := cq2 0 (by omega) _ rfl
      have qb1 := cq2 1 (by omega) _ rfl
      have qb2 := cq2 2 (by omega) _ rfl
      have qb3 := cq2 3 (by omega) _ rfl
      have qb4 := cq2 4 (by omega) _ rfl
      have qb5 := cq2 5 (by omega) _ rfl
      rw [Nat.add_zero (k * 6)] at wa0 qb0
      have c6 := (hbel.cell (p := ⟨w2.heap.size, 6, none⟩) (block_lt_of_cell HC6.out)).trans HC6.out
      have g1 := (hbel.cell (p := ⟨g, 1, none⟩) (block_lt_of_cell HG1.out)).trans HG1.out
      clear cw cq2 hbel hkl
      go_wp2_with fail
      go_quiet (fail)
      go_wp2_with fail
      go_roundw
      case rel => exact ⟨k + 1, by omega, by go_num, below_drewN HBE.out _⟩
      case measure => simp [intOf]; omega
    · have hke : k = 10 := by omega
      subst hke
      have HF := Lib.hid (HBL.out.trans (hbel.mono HBL.out.size))
      clear hbel
      go_wp2_with fail
      go_ret
      exact ⟨rfl, HF.out⟩
end Go.Proofs.YtncflfadgcaldaaGreatDoor
