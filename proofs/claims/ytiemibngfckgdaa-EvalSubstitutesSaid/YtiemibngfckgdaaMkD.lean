/-
  The maker of expressions at an index.
-/
import Derived.Test.YtiemibngfckgdaaMkC
namespace Go.Proofs.Ytiemibngfckgdaa
open Go.RowKit
open Par

namespace Par
open Tok (T Bs)
theorem names5_at (j : Nat) (hj : j < 5) : ∃ s : ByteArray, (s.size ≤ 2 ∧ Tok.isName s.data.toList = true) ∧ (#[Value.string ⟨#[113]⟩, .string ⟨#[113]⟩, .string ⟨#[113]⟩, .string ⟨#[120]⟩, .string ⟨#[109]⟩] : Array Value)[j]? = some (.string s) := by
  rcases (show j = 0 ∨ j = 1 ∨ j = 2 ∨ j = 3 ∨ j = 4 by omega) with rfl | rfl | rfl | rfl | rfl
  all_goals exact ⟨_, ⟨by decide, by decide⟩, rfl⟩
theorem lit_kept {T n p : Nat} {W w2 : World} {v : Value} (hk : Kept T W w2) (hc : W.cell? ⟨n, p, none⟩ = some v) (hn : ¬ n = T) : w2.cell? ⟨n, p, none⟩ = some v := (hk.cell (block_lt_of_cell hc) hn).trans hc
theorem idx_build {T : Nat} {w W0 : World} {A : Option Addr} {len cap : Nat} {xs : List Nat} {x : E} {s : ByteArray} {v0 v1 v2 v3 : Value} {t : TypeId} {b : Nat} (h0 : Kept T w W0 ∧ ∃ k, Tp W0 T A len cap xs k) (hx : RdE W0 (PF w.heap.size W0) x (.agg #[v0, v1, v2, v3]))
    (hb : b = W0.heap.size) : (Kept T w (W0.alloc (.cells #[v0, v1, v2, v3] t)) ∧ ∃ k, Tp (W0.alloc (.cells #[v0, v1, v2, v3] t)) T A len cap xs k) ∧
      RdE (W0.alloc (.cells #[v0, v1, v2, v3] t)) (PF w.heap.size (W0.alloc (.cells #[v0, v1, v2, v3] t))) (.mk 3 0 s [x]) (.agg #[.int .i64 3, .int .i64 0, .string s, .slice (some ⟨b, 0, none⟩) 1 1]) := by
  obtain ⟨hk, k, ht⟩ := h0
  subst hb
  refine ⟨⟨hk.alloc _, k, ht.alloc _⟩, _, _, rfl, .inr ⟨W0.heap.size, rfl, ⟨hk.size, plain_new rfl⟩, ⟨v0, v1, v2, v3, ?_, ?_, ?_, ?_, hx.pbelow ((Below.refl _ _).alloc (Nat.le_refl _) _)⟩, trivial⟩⟩
  all_goals
    rw [World.cell?_alloc_at _ _ _ _ (by simp)]
    rfl
theorem alloc_more {T : Nat} {w W0 : World} {A : Option Addr} {len cap : Nat} {xs : List Nat} {x : E} {v : Value} (o : Obj) (h : (Kept T w W0 ∧ ∃ k, Tp W0 T A len cap xs k) ∧ RdE W0 (PF w.heap.size W0) x v) :
    (Kept T w (W0.alloc o) ∧ ∃ k, Tp (W0.alloc o) T A len cap xs k) ∧ RdE (W0.alloc o) (PF w.heap.size (W0.alloc o)) x v := by
  obtain ⟨⟨hk, k, ht⟩, hx⟩ := h
  exact ⟨⟨hk.alloc _, k, ht.alloc _⟩, hx.pbelow ((Below.refl _ _).alloc (Nat.le_refl _) _)⟩
end Par

set_option maxHeartbeats 8000000 in
set_option maxRecDepth 100000 in
theorem mkIdx_any (d : Nat) (hd : d + 1 ≤ 5) (hrec : LM d) (w : World) (L T : Nat) (A : Option Addr) (len cap : Nat) (xs : List Nat) (k : Nat) (h : Tp w T A len cap xs k) (hL : w.cell? ⟨L, 0, none⟩ = some (.pointer (some ⟨T, 0, none⟩))) (hLT : L ≠ T)
    (hr : nx xs k 20 = 8) :
    Calls Try.prog 23 #[.pointer (some ⟨L, 0, none⟩), .int .i64 ((d : Int) + 1)] w (PostM (d + 1) T A len cap xs w) := by
  have HT := Lib.hid h
  have hT := h.lt
  have hl : L < w.heap.size := block_lt_of_cell hL
  have C1 := Lib.hid (fun w h => next_at 20 20 rfl w T A len cap xs k h (by omega) (by omega))
  rw [hr] at C1
  have C2 := Lib.hid (fun w h => next_at 5 5 rfl w T A len cap xs (nk xs k) h (by omega) (by omega))
  have C3 := Lib.hid (fun w h hL => hrec w L T A len cap xs (nk xs (nk xs k)) h hL hLT)
  have hp := nx_lt xs (nk xs k) 5 (by omega)
  obtain ⟨p, hpe⟩ : ∃ p, p = nx xs (nk xs k) 5 := ⟨_, rfl⟩
  rw [← hpe] at C2 hp
  obtain ⟨s, ⟨hs, hsn⟩, hsc⟩ := names5_at p hp
  have HN := Lib.hid hsn
  have HS := Lib.hid hsc
  have hbd : ((d : Int) + 1 == 0) = false := by rw [beq_eq_false_iff_ne]; omega
  have hdi : ¬ (d : Int) + 1 = 0 := by omega
  have hwd : IntKind.i64.wrap ((d : Int) + 1 - 1) = (d : Int) := by rw [Int.add_sub_cancel]; exact IntWalk.i64_in _ (by omega)
  have hr0 := room_le d
  have hp5 : (p : Int) < 5 := by omega
  have hp0 : (0 : Int) ≤ (p : Int) := by omega
  have hwd2 : IntKind.i64.wrap (d : Int) = (d : Int) := IntWalk.i64_in _ (by omega)
  clear h hpe hrec hr hsn hsc
  show Calls _ _ _ _ _
  go_enter Try.func23, Try.ntmps23
  go_wp2_with (first
    | (go_at_call 34; refine (C1.out _ ((HT.out.alloc _).alloc _)).mono ?_; rintro e w1 ⟨rfl, hk1, ht1⟩; have hL1 : w1.cell? ⟨L, 0, none⟩ = some (.pointer (some ⟨T, 0, none⟩)) := (hk1.cell (g := L) (by simp; omega) hLT).trans (((Below.refl _ w).alloc (Nat.le_refl _) _ |>.alloc (by simp) _).cell (p := ⟨L, 0, none⟩) hl |>.trans hL); have hK1 := ((Kept.refl T _).alloc _).trans hk1))
  have hs1 := hK1.size
  simp at hs1
  have hn1T : ¬ w1.heap.size = T := by omega
  have hn1L : ¬ w1.heap.size = L := by omega
  have hLn1 : ¬ L = w1.heap.size := by omega
  have hA : ∀ W : World, (W.alloc (.cells #[.string ⟨#[113]⟩, .string ⟨#[113]⟩, .string ⟨#[113]⟩, .string ⟨#[120]⟩, .string ⟨#[109]⟩] 9)).cell? ⟨W.heap.size, p, none⟩ = some (.string s) := fun W => (World.cell?_alloc_at _ _ _ _ (by simp)).trans HS.out
  have hA2 : ∀ (W : World) (o : Obj), ((W.alloc (.cells #[.string ⟨#[113]⟩, .string ⟨#[113]⟩, .string ⟨#[113]⟩, .string ⟨#[120]⟩, .string ⟨#[109]⟩] 9)).alloc o).cell? ⟨W.heap.size, p, none⟩ = some (.string s) := fun W o => (((Below.refl _ (W.alloc (.cells #[.string ⟨#[113]⟩, .string ⟨#[113]⟩, .string ⟨#[113]⟩, .string ⟨#[120]⟩, .string ⟨#[109]⟩] 9))).alloc (Nat.le_refl _) o).cell (p := ⟨W.heap.size, p, none⟩) (by simp)).trans (hA W)
  have hA3 : ∀ (W : World) (o : Obj), ((W.alloc o).alloc (.cells #[.string ⟨#[113]⟩, .string ⟨#[113]⟩, .string ⟨#[113]⟩, .string ⟨#[120]⟩, .string ⟨#[109]⟩] 9)).cell? ⟨W.heap.size + 1, p, none⟩ = some (.string s) := fun W o => (World.cell?_alloc_at _ _ _ _ (by simp)).trans HS.out
  have hT1 := ht1.lt
  have hLlt : L < w1.heap.size := block_lt_of_cell hL1
  have hLa := (((Below.refl w1.heap.size w1).alloc (Nat.le_refl _) (.cells #[.string ⟨#[113]⟩, .string ⟨#[113]⟩, .string ⟨#[113]⟩, .string ⟨#[120]⟩, .string ⟨#[109]⟩] 9)).cell (p := ⟨L, 0, none⟩) hLlt).trans hL1
  clear hd hp5
  have hp5 : (p : Int) < 5 := by omega
  go_region_with (first
    | (go_at_call 23; have hx := ht2; (with_reducible refine (C3.out _ ?_ ?_).mono ?_); (first | exact ht2 | exact ht2.below ((Below.refl _ _).alloc (Nat.le_refl _) _)); (first | exact hL2 | exact (((Below.refl _ _).alloc (Nat.le_refl _) _).cell (p := ⟨L, 0, none⟩) (block_lt_of_cell hL2)).trans hL2); rintro e w3 ⟨op, n, nm, a, ln, cp, rfl, ⟨hk3, k3, ht3⟩, x, hxf, hxb, hxr⟩; (first | have hk23 : Kept T w2 w3 := hk3 | have hk23 : Kept T w2 w3 := (Kept.of_below (P := T) ((Below.refl _ w2).alloc (Nat.le_refl _) _)).trans hk3); (first | (have hN3 := lit_kept hk23 hN2 hn1T; have hN3l := block_lt_of_cell hN3) | (have hN3 := lit_kept (n := w2.heap.size) hk3 (hA w2) hn2T; have hN3l := block_lt_of_cell hN3) | skip); have hK3 := hK2.trans hk23; have hs3 := hk23.size; obtain ⟨r0, r1, r2, r3, g0, g1, g2, g3, hz, hy1, hy2⟩ := Kept.new4 (hK1.trans hK3) hT)
    | (go_at_call 34; have hx := ht1; (with_reducible refine (C2.out _ ?_).mono ?_); (first | exact ht1.below (Below.refl _ _).drew | exact ht1.below ((Below.refl _ _).alloc (Nat.le_refl _) _).drew); rintro e w2 ⟨rfl, hk2, ht2⟩; (first | have hK2 : Kept T w1 w2 := (Kept.of_below (P := T) (Below.refl _ w1).drew).trans hk2 | have hK2 : Kept T w1 w2 := (Kept.of_below (P := T) ((Below.refl _ w1).alloc (Nat.le_refl _) _).drew).trans hk2); have hs2 := hK2.size; have hn2T : ¬ w2.heap.size = T := (by omega); have hL2 : w2.cell? ⟨L, 0, none⟩ = some (.pointer (some ⟨T, 0, none⟩)) := (hK2.cell (block_lt_of_cell hL1) hLT).trans hL1; (first | have hN2 := lit_kept (n := w1.heap.size) hk2 (hA w1) hn1T | skip)))
  all_goals
    go_wp2_with fail
    have hbd2 : bnd (.mk 3 0 s [x]) ≤ room (d + 1) := by
      simp only [bnd, bndL, room]
      omega
    have hm := mfin (n := w2.heap.size) (.int .i64 3) (.int .i64 0) (.string s) (.slice (some ⟨w3.heap.size, 0, none⟩) 1 1) (((Kept.refl T w).alloc _).trans (hK1.trans hK3)) hT ht3 (by omega) (hxr.pweak (m := w2.heap.size) (by simp)) rfl
    have hm2 := mfin (n := w2.heap.size) (.int .i64 3) (.int .i64 0) (.string s) (.slice (some ⟨w3.heap.size + 1, 0, none⟩) 1 1) (((Kept.refl T w).alloc _).trans (hK1.trans hK3)) hT ht3 (by omega) (hxr.pweak (m := w2.heap.size) (by simp)) rfl
    first
      | (refine bodyPost_ret (v := .agg #[.int .i64 3, .int .i64 0, .string s, .slice (some ⟨w3.heap.size, 0, none⟩) 1 1]) (by simp [results, Try.results23, go_sem, *]) rfl ⟨_, _, _, _, _, _, rfl, ?_⟩
         first
           | (have hf := idx_build (s := s) (t := 29) (b := w3.heap.size) hm.1 hm.2 (by simp [World.setCell]); exact ⟨hf.1, _, fit_index HN.out (by omega) hxf, hbd2, hf.2⟩)
           | (have hf := alloc_more (.cells #[.string ⟨#[113]⟩, .string ⟨#[113]⟩, .string ⟨#[113]⟩, .string ⟨#[120]⟩, .string ⟨#[109]⟩] 9) (idx_build (s := s) (t := 29) (b := w3.heap.size) hm.1 hm.2 (by simp [World.setCell])); exact ⟨hf.1, _, fit_index HN.out (by omega) hxf, hbd2, hf.2⟩))
      | (refine bodyPost_ret (v := .agg #[.int .i64 3, .int .i64 0, .string s, .slice (some ⟨w3.heap.size + 1, 0, none⟩) 1 1]) (by simp [results, Try.results23, go_sem, *]) rfl ⟨_, _, _, _, _, _, rfl, ?_⟩
         have hf0 := alloc_more (.cells #[.string ⟨#[113]⟩, .string ⟨#[113]⟩, .string ⟨#[113]⟩, .string ⟨#[120]⟩, .string ⟨#[109]⟩] 9) hm2
         have hf := idx_build (s := s) (t := 29) (b := w3.heap.size + 1) hf0.1 hf0.2 (by simp [World.setCell])
         exact ⟨hf.1, _, fit_index HN.out (by omega) hxf, hbd2, hf.2⟩)
end Go.Proofs.Ytiemibngfckgdaa
