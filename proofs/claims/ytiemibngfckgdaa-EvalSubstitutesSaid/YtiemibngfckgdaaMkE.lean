/-
  The maker of expressions out of bytes.
-/
import Derived.Test.YtiemibngfckgdaaMkD
namespace Go.Proofs.Ytiemibngfckgdaa
open Go.RowKit
open Par

namespace Par
open Tok (T Bs)
theorem lm_all : ∀ d, d ≤ 5 → LM d
  | 0, _ => by
    intro w L T A len cap xs k h hL hLT
    by_cases h4 : nx xs k 20 < 4
    · exact mkNum_any 0 w L T A len cap xs k h hL hLT (.inl h4)
    · by_cases h10 : nx xs k 20 < 10
      · exact mkNum_any 0 w L T A len cap xs k h hL hLT (.inr ⟨h4, rfl, h10⟩)
      · exact mkNam_any 0 w L T A len cap xs k h hL hLT ⟨h4, .inr ⟨rfl, h10⟩⟩
  | d + 1, hd => by
    intro w L T A len cap xs k h hL hLT
    have ih := lm_all d (by omega)
    have hlt := nx_lt xs k 20 (by omega)
    have e : (((d + 1 : Nat) : Int)) = (d : Int) + 1 := by omega
    by_cases h4 : nx xs k 20 < 4
    · exact mkNum_any (d + 1) w L T A len cap xs k h hL hLT (.inl h4)
    · by_cases h8 : nx xs k 20 < 8
      · exact mkNam_any (d + 1) w L T A len cap xs k h hL hLT ⟨h4, .inl ⟨by omega, h8⟩⟩
      · rw [e]
        by_cases h9 : nx xs k 20 = 8
        · exact mkIdx_any d hd ih w L T A len cap xs k h hL hLT h9
        · by_cases h11 : nx xs k 20 < 11
          · exact mkUna_any d hd ih w L T A len cap xs k h hL hLT ⟨by omega, h11⟩
          · exact mkBin_any d hd ih w L T A len cap xs k h hL hLT (by omega)
/-- What making an expression of bytes leaves. -/
def PostMX (w : World) (e : Ending) (w' : World) : Prop :=
  ∃ op n nm a ln cp, e = .returned (.agg #[.int .i64 op, .int .i64 n, .string nm, .slice a ln cp]) ∧ Below w.heap.size w w' ∧
    ∃ x, Fit x ∧ bnd x ≤ 2646 ∧ RdE w' (PF w.heap.size w') x (.agg #[.int .i64 op, .int .i64 n, .string nm, .slice a ln cp])
theorem mx_fin {w w3 : World} {n : Nat} {x : E} {v : Value} (u0 u1 u2 u3 : Value) (hb : Below w.heap.size w w3) (hm : w.heap.size < n) (hv : RdE w3 (PF n w3) x v) {W : World}
    (hW : W = (((w3.setCell ⟨w.heap.size, 0, none⟩ u0).setCell ⟨w.heap.size, 1, none⟩ u1).setCell ⟨w.heap.size, 2, none⟩ u2).setCell ⟨w.heap.size, 3, none⟩ u3) : Below w.heap.size w W ∧ RdE W (PF w.heap.size W) x v := by
  have h1 : Below w.heap.size w W := by
    subst hW
    exact (((hb.setCell (p := ⟨w.heap.size, 0, none⟩) (Nat.le_refl _) _).setCell (p := ⟨w.heap.size, 1, none⟩) (Nat.le_refl _) _).setCell (p := ⟨w.heap.size, 2, none⟩) (Nat.le_refl _) _).setCell (p := ⟨w.heap.size, 3, none⟩) (Nat.le_refl _) _
  have hB : ∀ g, n ≤ g → W.heap[g]? = w3.heap[g]? := by
    subst hW
    intro g hg
    have hne : g ≠ w.heap.size := by omega
    rw [Below.heap_setCell _ _ _ _ hne, Below.heap_setCell _ _ _ _ hne, Below.heap_setCell _ _ _ _ hne, Below.heap_setCell _ _ _ _ hne]
  clear hW
  exact ⟨h1, RdE.turn (fun g oo u hg hc => ⟨(World.cell?_of_block (hB g hg.1)).trans hc, Nat.le_of_lt (Nat.lt_of_lt_of_le hm hg.1), hg.2.of_block (hB g hg.1)⟩) _ _ hv⟩
/-- A slice of bytes: its numbers, the cells known. -/
def BytesOf (W : World) (A : Option Addr) (len : Nat) (xs : List Nat) : Prop :=
  xs.length = len ∧ len ≤ maxLen ∧ ∀ k, (h : k < xs.length) → xs[k] ≤ 255 ∧ ∃ b off, A = some ⟨b, off, none⟩ ∧ b < W.heap.size ∧ W.cell? ⟨b, off + k, none⟩ = some (.int .u8 (xs[k] : Nat))
/-- A new tape over the bytes of a slice. -/
theorem tp_new {w w2 : World} {A : Option Addr} {len cap : Nat} {xs : List Nat} {T : Nat} (h : BytesOf w A len xs) (hb : Below w.heap.size w w2) (hT : w.heap.size ≤ T) (c0 : w2.cell? ⟨T, 0, none⟩ = some (.slice A len cap)) (c1 : w2.cell? ⟨T, 1, none⟩ = some (.int .i64 0))
    (f1 : w2.frozen? ⟨T, 1, none⟩ = false) : Tp w2 T A len cap xs 0 :=
  ⟨c0, c1, f1, block_lt_of_cell c0, Nat.zero_le _, h.2.1, h.1, fun j hj => by
    obtain ⟨h1, b, off, ha, hlt, hc⟩ := h.2.2 j hj
    exact ⟨h1, b, off, ha, by omega, (hb.cell (p := ⟨b, off + j, none⟩) hlt).trans hc⟩⟩
end Par

set_option maxHeartbeats 2000000 in
set_option maxRecDepth 100000 in
theorem madeExpr_any (w : World) (A : Option Addr) (len cap : Nat) (xs : List Nat) (hx : BytesOf w A len xs) :
    Calls Try.prog 14 #[.slice A len cap] w (PostMX w) := by
  have HX := Lib.hid hx
  have C := Lib.hid (fun w2 h hL => lm_all 5 (by omega) w2 (w.heap.size + 1 + 1) (w.heap.size + 1) A len cap xs 0 h hL (by omega))
  clear hx
  go_enter Try.func14, Try.ntmps14
  go_wp2_with fail
  go_at_call 23
  refine (C.out _ ?_ ?_).mono ?_
  · refine tp_new HX.out ((((Below.refl _ _).alloc (Nat.le_refl _) _).alloc (by simp) _).alloc (by simp; omega) _) (by omega) ?_ ?_ ?_
    all_goals simp [go_sem]
  · simp [go_sem]
  · rintro e w3 ⟨op, n, nm, a, ln, cp, rfl, ⟨hk3, k3, ht3⟩, x, hxf, hxb, hxr⟩
    have hs3 := hk3.size
    simp at hs3
    have hz : w.heap.size < w3.heap.size := by omega
    have hne : w.heap.size ≠ w.heap.size + 1 := by omega
    have hne2 : ¬ w.heap.size = w.heap.size + 1 := by omega
    have r0 : w3.cell? ⟨w.heap.size, 0, none⟩ = some (.int .i64 0) := (hk3.cell (by simp; omega) hne).trans (by simp [go_sem])
    have r1 : w3.cell? ⟨w.heap.size, 1, none⟩ = some (.int .i64 0) := (hk3.cell (by simp; omega) hne).trans (by simp [go_sem])
    have r2 : w3.cell? ⟨w.heap.size, 2, none⟩ = some (.string ⟨#[]⟩) := (hk3.cell (by simp; omega) hne).trans (by simp [go_sem])
    have r3 : w3.cell? ⟨w.heap.size, 3, none⟩ = some (.slice none 0 0) := (hk3.cell (by simp; omega) hne).trans (by simp [go_sem])
    have g0 : w3.frozen? ⟨w.heap.size, 0, none⟩ = false := (hk3.frozen (by simp; omega) hne).trans (by simp [go_sem])
    have g1 : w3.frozen? ⟨w.heap.size, 1, none⟩ = false := (hk3.frozen (by simp; omega) hne).trans (by simp [go_sem])
    have g2 : w3.frozen? ⟨w.heap.size, 2, none⟩ = false := (hk3.frozen (by simp; omega) hne).trans (by simp [go_sem])
    have g3 : w3.frozen? ⟨w.heap.size, 3, none⟩ = false := (hk3.frozen (by simp; omega) hne).trans (by simp [go_sem])
    have hB : Below w.heap.size w w3 := Kept.below ((((Below.refl _ _).alloc (Nat.le_refl _) _).alloc (by simp) _).alloc (by simp; omega) _) hk3 (by omega) (by simp; omega)
    clear hk3 ht3 hs3
    go_wp2_with fail
    refine bodyPost_ret (v := .agg #[.int .i64 op, .int .i64 n, .string nm, .slice a ln cp]) (by simp [results, Try.results14, go_sem, *]) rfl ⟨_, _, _, _, _, _, rfl, ?_⟩
    obtain ⟨h1, h2⟩ := mx_fin (.int .i64 op) (.int .i64 n) (.string nm) (.slice a ln cp) hB (show w.heap.size < w.heap.size + 1 + 1 + 1 by omega) (hxr.pweak (by simp)) rfl
    exact ⟨h1, x, hxf, hxb, h2⟩
end Go.Proofs.Ytiemibngfckgdaa
