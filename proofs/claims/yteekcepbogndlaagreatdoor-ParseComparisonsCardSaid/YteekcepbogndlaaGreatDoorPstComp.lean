/-
  The walk of ParseComparisons.
-/
import Derived.Test.YteekcepbogndlaaGreatDoorAwF
namespace Go.Proofs.YteekcepbogndlaaGreatDoor
open Go.RowKit
open Par

namespace Par
open Tok (T Bs)
def cmpText1 : ByteArray := ⟨#[97, 32, 60, 32, 98, 32, 60, 32, 99]⟩
def cmpText2 : ByteArray := ⟨#[97, 32, 43, 32, 49, 32, 60, 32, 98, 32, 38, 38, 32, 99]⟩
def nmE (c : UInt8) : E := .mk 2 0 ⟨#[c]⟩ []
def cmpE : E := binary 17 (binary 13 (binary 6 (nmE 97) (.mk 1 1 ⟨#[]⟩ [])) (nmE 98)) (nmE 99)
theorem cmp_out1 : exprOut cmpText1.data.toList = (E0, 3, 1) := by rfl
theorem cmp_out2 : exprOut cmpText2.data.toList = (cmpE, 0, 0) := by rfl
/-- The cells of a binary expression's first operand. -/
theorem rdE_left {w : World} {S : Nat → Prop} {o o1 : Int} {l1 : List E} {n1 : Int} {m1 : ByteArray} {b : E} {v : Value} (h : RdE w S (binary o (.mk o1 n1 m1 l1) b) v) :
    ∃ g cap a1 cap1, v = .agg #[.int .i64 o, .int .i64 0, .string ⟨#[]⟩, .slice (some ⟨g, 0, none⟩) 2 cap] ∧ w.cell? ⟨g, 0, none⟩ = some (.int .i64 o1) ∧ w.cell? ⟨g, 3, none⟩ = some (.slice a1 l1.length cap1) ∧
      RdE w S (.mk o1 n1 m1 l1) (.agg #[.int .i64 o1, .int .i64 n1, .string m1, .slice a1 l1.length cap1]) := by
  obtain ⟨a, cap, rfl, hl⟩ := h
  obtain ⟨g, rfl, _, ⟨⟨v0, v1, v2, v3, c0, c1, c2, c3, he⟩, _⟩⟩ := hl.resolve_left (by simp)
  have he2 := he
  obtain ⟨a1, cap1, h1, _⟩ := he
  injection h1 with h1
  simp at h1
  obtain ⟨rfl, rfl, rfl, rfl⟩ := h1
  exact ⟨g, cap, a1, cap1, rfl, c0, c3, he2⟩
end Par

set_option maxHeartbeats 4000000 in
set_option maxRecDepth 100000 in
theorem parseComparisons_any (w : World) (hv : Two w ∧ FieldsOf w) : Calls Tryz.prog 13 #[] w fun e w' => e = .returned (.bool true) ∧ Below w.heap.size w w' := by
  have HV := Lib.hid hv.1
  have HF := Lib.hid hv.2
  have C1 : Hid (∀ w, Two w → Calls Tryz.prog 18 #[.string cmpText1] w fun e w' => ∃ op n nm a len cap, e = .returned (.tuple #[.agg #[.int .i64 op, .int .i64 n, .string nm, .slice a len cap], .int .i64 3, .int .i64 1]) ∧ Below w.heap.size w w') := Lib.hid (fun w hv => by
    refine (expr_any cmpText1 w hv (by decide)).mono ?_
    rintro e w' ⟨op, n, nm, a, len, cap, he, hb, hr⟩
    rw [cmp_out1] at he
    exact ⟨op, n, nm, a, len, cap, he, hb⟩)
  have C2 : Hid (∀ w, Two w → Calls Tryz.prog 18 #[.string cmpText2] w fun e w' => ∃ g cap h cap1 k cap2, e = .returned (.tuple #[.agg #[.int .i64 17, .int .i64 0, .string ⟨#[]⟩, .slice (some ⟨g, 0, none⟩) 2 cap], .int .i64 0, .int .i64 0]) ∧ Below w.heap.size w w' ∧
      w'.cell? ⟨g, 0, none⟩ = some (.int .i64 13) ∧ w'.cell? ⟨g, 3, none⟩ = some (.slice (some ⟨h, 0, none⟩) 2 cap1) ∧ w'.cell? ⟨h, 0, none⟩ = some (.int .i64 6) ∧ k = cap2) := Lib.hid (fun w hv => by
    refine (expr_any cmpText2 w hv (by decide)).mono ?_
    rintro e w' ⟨op, n, nm, a, len, cap, he, hb, hr⟩
    rw [cmp_out2] at he hr
    obtain ⟨g, cap0, a1, cap1, h1, c0, c3, hr2⟩ := rdE_left hr
    obtain ⟨h, cap2, a2, cap3, h2, d0, d3, hr3⟩ := rdE_left hr2
    injection h2 with h2
    simp at h2
    rw [h1] at he
    obtain ⟨rfl, rfl⟩ := h2
    exact ⟨g, cap0, h, cap1, 0, 0, he, hb, c0, c3, d0, rfl⟩)
  clear hv
  unfold cmpText1 at C1
  unfold cmpText2 at C2
  go_enter Tryz.func13, Tryz.ntmps13
  go_wp2_with (first
    | (go_at_call 18; (with_reducible refine (C1.out _ HV.out).mono ?_); rintro e w1 ⟨op, n, nm, a, len, cap, rfl, hb1⟩; have z1 := hb1.size)
    | (go_at_call 18; (with_reducible refine (C2.out _ ((HV.out.below hb1).below ((Below.refl _ _).alloc (Nat.le_refl _) _))).mono ?_); rintro e w2 ⟨g, cap0, h, cap1, _, _, rfl, hb2, q0, q3, p0, _⟩; have z2 := hb2.size; simp at z2; have hal := (Below.refl w2.heap.size w2).alloc (Nat.le_refl _) (.cells #[.int .i64 17, .int .i64 0, .string ⟨#[]⟩, .slice (some ⟨g, 0, none⟩) 2 cap0] 34); have q0' := (hal.cell (p := ⟨g, 0, none⟩) (block_lt_of_cell q0)).trans q0; have q3' := (hal.cell (p := ⟨g, 3, none⟩) (block_lt_of_cell q3)).trans q3; have p0' := (hal.cell (p := ⟨h, 0, none⟩) (block_lt_of_cell p0)).trans p0; have hb12 := ((Below.refl w1.heap.size w1).alloc (Nat.le_refl _) (.cells #[.int .i64 op, .int .i64 n, .string nm, .slice a len cap] 34)).trans (hb2.mono (by simp)); have hb22 := hb12.trans (hal.mono hb12.size))
    | (go_at_call 17; refine (awake_any _ ((HV.out.below hb1).below hb22) ((HF.out.below hb1).below hb22)).mono ?_; rintro e w3 ⟨rfl, hb3⟩))
  go_ret
  have z3 := hb3.size
  simp at z3
  exact ⟨rfl, hb1.trans (Below.mono (B := w1.heap.size) (hb22.trans (hb3.mono (by simp; omega))) z1)⟩
end Go.Proofs.YteekcepbogndlaaGreatDoor
