/-
  The maker of expressions at its ways that call itself: an index, a sign ahead, two operands; by induction, at every depth.
-/
import Derived.Test.YtiemibngfckgdaaMkB
namespace Go.Proofs.Ytiemibngfckgdaa
open Go.RowKit
open Par

namespace Par
open Tok (T Bs)
theorem mbuild {T : Nat} {w w3 : World} {A : Option Addr} {len cap : Nat} {xs : List Nat} {k n : Nat} (u0 u1 u2 u3 : Value) {cs : Array Value} {t : TypeId} (hk : Kept T w w3) (hT : T < w.heap.size) (ht : Tp w3 T A len cap xs k) (hn : w.heap.size < n)
    {W : World} (hW : W = ((((w3.setCell ⟨w.heap.size, 0, none⟩ u0).setCell ⟨w.heap.size, 1, none⟩ u1).setCell ⟨w.heap.size, 2, none⟩ u2).setCell ⟨w.heap.size, 3, none⟩ u3).alloc (.cells cs t)) :
    (Kept T w W ∧ ∃ k, Tp W T A len cap xs k) ∧ (∀ e v, RdE w3 (PF n w3) e v → RdE W (PF w.heap.size W) e v) ∧ PlainAt W w3.heap.size ∧ ∀ j u, cs[j]? = some u → W.cell? ⟨w3.heap.size, j, none⟩ = some u := by
  have hm := fun e v hr => mfin (x := e) (v := v) (n := n) u0 u1 u2 u3 hk hT ht hn hr rfl
  obtain ⟨⟨hk2, k2, ht2⟩, _⟩ := hm (.mk 0 0 ⟨#[]⟩ []) (.agg #[.int .i64 0, .int .i64 0, .string ⟨#[]⟩, .slice none 0 0]) ⟨none, 0, rfl, .inl rfl⟩
  subst hW
  refine ⟨⟨hk2.alloc _, k2, ht2.alloc _⟩, fun e v hr => (hm e v hr).2.pbelow ((Below.refl _ _).alloc (Nat.le_refl _) _), plain_new (by simp), fun j u hj => ?_⟩
  rw [World.cell?_alloc_at _ _ _ _ (by simp)]
  exact hj
end Par

set_option maxHeartbeats 6000000 in
set_option maxRecDepth 100000 in
theorem mkUna_any (d : Nat) (hd : d + 1 ≤ 5) (hrec : LM d) (w : World) (L T : Nat) (A : Option Addr) (len cap : Nat) (xs : List Nat) (k : Nat) (h : Tp w T A len cap xs k) (hL : w.cell? ⟨L, 0, none⟩ = some (.pointer (some ⟨T, 0, none⟩))) (hLT : L ≠ T)
    (hr : 9 ≤ nx xs k 20 ∧ nx xs k 20 < 11) :
    Calls Try.prog 23 #[.pointer (some ⟨L, 0, none⟩), .int .i64 ((d : Int) + 1)] w (PostM (d + 1) T A len cap xs w) := by
  have HT := Lib.hid h
  have hT := h.lt
  have hl : L < w.heap.size := block_lt_of_cell hL
  have C1 := Lib.hid (fun w h => next_at 20 20 rfl w T A len cap xs k h (by omega) (by omega))
  have C2 := Lib.hid (fun w h => next_at 2 2 rfl w T A len cap xs (nk xs k) h (by omega) (by omega))
  have C3 := Lib.hid (fun w h hL => hrec w L T A len cap xs (nk xs (nk xs k)) h hL hLT)
  have hp := nx_lt xs (nk xs k) 2 (by omega)
  obtain ⟨r, hre⟩ : ∃ r, r = nx xs k 20 := ⟨_, rfl⟩
  obtain ⟨p, hpe⟩ : ∃ p, p = nx xs (nk xs k) 2 := ⟨_, rfl⟩
  rw [← hre] at C1 hr
  rw [← hpe] at C2 hp
  obtain ⟨hr1, hr2⟩ := hr
  have hbd : ((d : Int) + 1 == 0) = false := by rw [beq_eq_false_iff_ne]; omega
  have hb8 : (decide ((r : Int) < 8) || ((d : Int) + 1 == 0)) = false := by rw [hbd, Bool.or_false]; exact decide_eq_false (by omega)
  have hn4 : ¬ r < 4 := by omega
  have hn8 : ¬ r < 8 := by omega
  have he8 : ¬ r = 8 := by omega
  have hri : ¬ (r : Int) < 4 := by omega
  have hri8 : ¬ (r : Int) < 8 := by omega
  have hre8 : ¬ (r : Int) = 8 := by omega
  have hri11 : (r : Int) < 11 := by omega
  have hdi : ¬ (d : Int) + 1 = 0 := by omega
  have hwd : IntKind.i64.wrap ((d : Int) + 1 - 1) = (d : Int) := by rw [Int.add_sub_cancel]; exact IntWalk.i64_in _ (by omega)
  have hwp : IntKind.i64.wrap (4 + (p : Int)) = 4 + (p : Int) := IntWalk.i64_in _ (by omega)
  have hr0 := room_le d
  clear h hre hpe hrec
  show Calls _ _ _ _ _
  go_enter Try.func23, Try.ntmps23
  go_wp2_with (first
    | (go_at_call 23; have hx := ht2; refine (C3.out _ ht2 hL2).mono ?_; rintro e w3 ⟨op, n, nm, a, ln, cp, rfl, ⟨hk3, k3, ht3⟩, x, hxf, hxb, hxr⟩; have hK3 := hK2.trans hk3; obtain ⟨r0, r1, r2, r3, g0, g1, g2, g3, hz, hn1, hn2⟩ := Kept.new4 hK3 hT)
    | (go_at_call 34; have hx := ht1; (with_reducible refine (C2.out _ ht1).mono ?_); rintro e w2 ⟨rfl, hk2, ht2⟩; have hL2 : w2.cell? ⟨L, 0, none⟩ = some (.pointer (some ⟨T, 0, none⟩)) := (hk2.cell (block_lt_of_cell hL1) hLT).trans hL1; have hK2 := hK1.trans hk2)
    | (go_at_call 34; refine (C1.out _ ((HT.out.alloc _).alloc _)).mono ?_; rintro e w1 ⟨rfl, hk1, ht1⟩; have hL1 : w1.cell? ⟨L, 0, none⟩ = some (.pointer (some ⟨T, 0, none⟩)) := (hk1.cell (g := L) (by simp; omega) hLT).trans (((Below.refl _ w).alloc (Nat.le_refl _) _ |>.alloc (by simp) _).cell (p := ⟨L, 0, none⟩) hl |>.trans hL); have hK1 := ((Kept.refl T _).alloc _).trans hk1))
  obtain ⟨hKW, hrd, hpl, hnew⟩ := mbuild (n := w.heap.size + 1) (.int .i64 (4 + (p : Int))) (.int .i64 0) (.string ⟨#[]⟩) (.slice (some ⟨w3.heap.size, 0, none⟩) 1 1) (cs := #[.int .i64 op, .int .i64 n, .string nm, .slice a ln cp]) (t := 29)
    (((Kept.refl T w).alloc _).trans hK3) hT ht3 (Nat.lt_succ_self _) rfl
  have hs2 := hK2.size
  simp at hs2
  refine bodyPost_ret (v := .agg #[.int .i64 (4 + (p : Int)), .int .i64 0, .string ⟨#[]⟩, .slice (some ⟨w3.heap.size, 0, none⟩) 1 1]) (by simp [results, Try.results23, go_sem, *]) rfl ⟨_, _, _, _, _, _, rfl, hKW, .mk (4 + (p : Int)) 0 ⟨#[]⟩ [x], fit_una (by omega) hxf, ?_, _, _, rfl, .inr ⟨w3.heap.size, rfl, ⟨Nat.le_of_lt hz, hpl⟩, ⟨_, _, _, _, hnew 0 _ rfl, hnew 1 _ rfl, hnew 2 _ rfl, hnew 3 _ rfl, hrd _ _ (hxr.pweak hs2)⟩, trivial⟩⟩
  simp only [bnd, bndL, room]
  show 40 + 0 + (bnd x + 0) ≤ 42 + 2 * room d
  omega
set_option maxHeartbeats 6000000 in
set_option maxRecDepth 100000 in
theorem mkBin_any (d : Nat) (hd : d + 1 ≤ 5) (hrec : LM d) (w : World) (L T : Nat) (A : Option Addr) (len cap : Nat) (xs : List Nat) (k : Nat) (h : Tp w T A len cap xs k) (hL : w.cell? ⟨L, 0, none⟩ = some (.pointer (some ⟨T, 0, none⟩))) (hLT : L ≠ T)
    (hr : 11 ≤ nx xs k 20) :
    Calls Try.prog 23 #[.pointer (some ⟨L, 0, none⟩), .int .i64 ((d : Int) + 1)] w (PostM (d + 1) T A len cap xs w) := by
  have HT := Lib.hid h
  have hT := h.lt
  have hl : L < w.heap.size := block_lt_of_cell hL
  have C1 := Lib.hid (fun w h => next_at 20 20 rfl w T A len cap xs k h (by omega) (by omega))
  have C2 := Lib.hid (fun w h => next_at 13 13 rfl w T A len cap xs (nk xs k) h (by omega) (by omega))
  have C3 := Lib.hid (fun w k h hL => hrec w L T A len cap xs k h hL hLT)
  have hp := nx_lt xs (nk xs k) 13 (by omega)
  obtain ⟨r, hre⟩ : ∃ r, r = nx xs k 20 := ⟨_, rfl⟩
  obtain ⟨p, hpe⟩ : ∃ p, p = nx xs (nk xs k) 13 := ⟨_, rfl⟩
  rw [← hre] at C1 hr
  rw [← hpe] at C2 hp
  have hbd : ((d : Int) + 1 == 0) = false := by rw [beq_eq_false_iff_ne]; omega
  have hb8 : (decide ((r : Int) < 8) || ((d : Int) + 1 == 0)) = false := by rw [hbd, Bool.or_false]; exact decide_eq_false (by omega)
  have hn4 : ¬ r < 4 := by omega
  have hn8 : ¬ r < 8 := by omega
  have he8 : ¬ r = 8 := by omega
  have hn11 : ¬ r < 11 := by omega
  have hri : ¬ (r : Int) < 4 := by omega
  have hri8 : ¬ (r : Int) < 8 := by omega
  have hre8 : ¬ (r : Int) = 8 := by omega
  have hri11 : ¬ (r : Int) < 11 := by omega
  have hdi : ¬ (d : Int) + 1 = 0 := by omega
  have hwd : IntKind.i64.wrap ((d : Int) + 1 - 1) = (d : Int) := by rw [Int.add_sub_cancel]; exact IntWalk.i64_in _ (by omega)
  have hwd2 : IntKind.i64.wrap (d : Int) = (d : Int) := IntWalk.i64_in _ (by omega)
  have hwp : IntKind.i64.wrap (6 + (p : Int)) = 6 + (p : Int) := IntWalk.i64_in _ (by omega)
  clear h hre hpe hrec
  show Calls _ _ _ _ _
  go_enter Try.func23, Try.ntmps23
  go_wp2_with (first
    | (go_at_call 23; have hx := ht2; refine (C3.out _ _ ht2 hL2).mono ?_; rintro e w3 ⟨op, n, nm, a, ln, cp, rfl, ⟨hk3, k3, ht3⟩, x, hxf, hxb, hxr⟩; have hL3 : w3.cell? ⟨L, 0, none⟩ = some (.pointer (some ⟨T, 0, none⟩)) := (hk3.cell (block_lt_of_cell hL2) hLT).trans hL2; have hK3 := hK2.trans hk3)
    | (go_at_call 34; have hx := ht1; (with_reducible refine (C2.out _ ht1).mono ?_); rintro e w2 ⟨rfl, hk2, ht2⟩; have hL2 : w2.cell? ⟨L, 0, none⟩ = some (.pointer (some ⟨T, 0, none⟩)) := (hk2.cell (block_lt_of_cell hL1) hLT).trans hL1; have hK2 := hK1.trans hk2)
    | (go_at_call 34; refine (C1.out _ ((HT.out.alloc _).alloc _)).mono ?_; rintro e w1 ⟨rfl, hk1, ht1⟩; have hL1 : w1.cell? ⟨L, 0, none⟩ = some (.pointer (some ⟨T, 0, none⟩)) := (hk1.cell (g := L) (by simp; omega) hLT).trans (((Below.refl _ w).alloc (Nat.le_refl _) _ |>.alloc (by simp) _).cell (p := ⟨L, 0, none⟩) hl |>.trans hL); have hK1 := ((Kept.refl T _).alloc _).trans hk1))
  have hs2 := hK2.size
  have hs3 := hK3.size
  simp at hs2 hs3
  have hal := (Below.refl w3.heap.size w3).alloc (Nat.le_refl _) (.cells #[.int .i64 op, .int .i64 n, .string nm, .slice a ln cp] 29)
  have htB := ht3.below hal
  have hLB := (hal.cell (p := ⟨L, 0, none⟩) (block_lt_of_cell hL3)).trans hL3
  have hKB := hK3.trans (Kept.of_below (P := T) hal)
  have hxB := (hxr.pweak (m := w.heap.size + 1) hs2).pbelow hal
  obtain ⟨b0, b1, b2, b3⟩ : (w3.alloc (.cells #[.int .i64 op, .int .i64 n, .string nm, .slice a ln cp] 29)).cell? ⟨w3.heap.size, 0, none⟩ = some (.int .i64 op) ∧ (w3.alloc (.cells #[.int .i64 op, .int .i64 n, .string nm, .slice a ln cp] 29)).cell? ⟨w3.heap.size, 1, none⟩ = some (.int .i64 n) ∧ (w3.alloc (.cells #[.int .i64 op, .int .i64 n, .string nm, .slice a ln cp] 29)).cell? ⟨w3.heap.size, 2, none⟩ = some (.string nm) ∧ (w3.alloc (.cells #[.int .i64 op, .int .i64 n, .string nm, .slice a ln cp] 29)).cell? ⟨w3.heap.size, 3, none⟩ = some (.slice a ln cp) := by simp
  have hsB : w3.heap.size < (w3.alloc (.cells #[.int .i64 op, .int .i64 n, .string nm, .slice a ln cp] 29)).heap.size := by simp
  generalize w3.alloc (.cells #[.int .i64 op, .int .i64 n, .string nm, .slice a ln cp] 29) = wB at *
  have hBT : w3.heap.size ≠ T := by omega
  have hBw : ¬ w3.heap.size = w.heap.size := by omega
  have hwB : ¬ w.heap.size = w3.heap.size := by omega
  have hLw : ¬ L = w.heap.size := by omega
  have hwL : ¬ w.heap.size = L := by omega
  clear hxr hal
  go_region_held3 (fun x => x.cell? ⟨L, 0, none⟩ = some (.pointer (some ⟨T, 0, none⟩)) ∧ x.cell? ⟨w3.heap.size, 0, none⟩ = some (.int .i64 op) ∧ x.cell? ⟨w3.heap.size, 1, none⟩ = some (.int .i64 n) ∧ x.cell? ⟨w3.heap.size, 2, none⟩ = some (.string nm) ∧ x.cell? ⟨w3.heap.size, 3, none⟩ = some (.slice a ln cp)) (first | exact S5 | exact S4 | exact ⟨hLB, b0, b1, b2, b3⟩ | (simp [go_sem, *]; done) | go_keep) (first
    | (go_at_call 36; have hx := ht4; (with_reducible refine (mkBinary_any _ (w.heap.size + 1) (6 + (p : Int)) op n op4 n4 nm nm4 a a4 ln cp ln4 cp4 x y ?_ hx4 hy4).mono ?_); (have := hk4'.size; omega); rintro e w5 ⟨g, cg, rfl, hb5, hr5⟩; obtain ⟨q0, q1, q2, q3, q4⟩ := S4; have S5 : w5.cell? ⟨L, 0, none⟩ = some (.pointer (some ⟨T, 0, none⟩)) ∧ w5.cell? ⟨w3.heap.size, 0, none⟩ = some (.int .i64 op) ∧ w5.cell? ⟨w3.heap.size, 1, none⟩ = some (.int .i64 n) ∧ w5.cell? ⟨w3.heap.size, 2, none⟩ = some (.string nm) ∧ w5.cell? ⟨w3.heap.size, 3, none⟩ = some (.slice a ln cp) := ⟨(hb5.cell (p := ⟨L, 0, none⟩) (block_lt_of_cell q0)).trans q0, (hb5.cell (p := ⟨w3.heap.size, 0, none⟩) (block_lt_of_cell q1)).trans q1, (hb5.cell (p := ⟨w3.heap.size, 1, none⟩) (block_lt_of_cell q2)).trans q2, (hb5.cell (p := ⟨w3.heap.size, 2, none⟩) (block_lt_of_cell q3)).trans q3, (hb5.cell (p := ⟨w3.heap.size, 3, none⟩) (block_lt_of_cell q4)).trans q4⟩; have hK5 := hK4.trans (Kept.of_below (P := T) hb5); obtain ⟨r0, r1, r2, r3, g0, g1, g2, g3, hz, hn1, hn2⟩ := Kept.new4 hK5 hT)
    | (go_at_call 23; have hx := hKB; (with_reducible refine (C3.out _ k3 ?_ ?_).mono ?_); (exact htB.below (Below.refl _ _).drew); (exact hLB); rintro e w4 ⟨op4, n4, nm4, a4, ln4, cp4, rfl, ⟨hk4, k4, ht4⟩, y, hyf, hyb, hyr⟩; have hk4' := (Kept.of_below (P := T) (Below.refl wB.heap.size wB).drew).trans hk4; have S4 : w4.cell? ⟨L, 0, none⟩ = some (.pointer (some ⟨T, 0, none⟩)) ∧ w4.cell? ⟨w3.heap.size, 0, none⟩ = some (.int .i64 op) ∧ w4.cell? ⟨w3.heap.size, 1, none⟩ = some (.int .i64 n) ∧ w4.cell? ⟨w3.heap.size, 2, none⟩ = some (.string nm) ∧ w4.cell? ⟨w3.heap.size, 3, none⟩ = some (.slice a ln cp) := ⟨(hk4'.cell (block_lt_of_cell hLB) hLT).trans hLB, (hk4'.cell hsB hBT).trans b0, (hk4'.cell hsB hBT).trans b1, (hk4'.cell hsB hBT).trans b2, (hk4'.cell hsB hBT).trans b3⟩; have hK4 := hKB.trans hk4'; have hx4 := hxB.pkept hk4' (fun g hg => by omega); have hy4 := hyr.pweak (m := w.heap.size + 1) (show w.heap.size + 1 ≤ wB.heap.size by omega)))
  go_wp2_with fail
  refine bodyPost_ret (v := .agg #[.int .i64 (6 + (p : Int)), .int .i64 0, .string ⟨#[]⟩, .slice (some ⟨g, 0, none⟩) 2 cg]) (by simp [results, Try.results23, go_sem, *]) rfl ⟨_, _, _, _, _, _, rfl, ?_⟩
  obtain ⟨h1, h2⟩ := mfin (x := Par.binary (6 + (p : Int)) x y) (n := w.heap.size + 1) (.int .i64 (6 + (p : Int))) (.int .i64 0) (.string ⟨#[]⟩) (.slice (some ⟨g, 0, none⟩) 2 cg) (((Kept.refl T w).alloc _).trans hK5) hT (ht4.below hb5) (Nat.lt_succ_self _) hr5 rfl
  refine ⟨h1, Par.binary (6 + (p : Int)) x y, fit_bin (by omega) (by omega) hxf hyf, ?_, h2⟩
  unfold Par.binary
  simp only [bnd, bndL, room]
  show 40 + 0 + (bnd x + (bnd y + 0)) ≤ 42 + 2 * room d
  omega
end Go.Proofs.Ytiemibngfckgdaa
