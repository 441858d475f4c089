/-
  The makers of expressions: a tape of numbers, and its next number.
-/
import Derived.Test.YtiemibngfckgdaaParE
import Derived.Test.YtiemibngfckgdaaPlain
import Derived.Deep.RegionHeld3
namespace Go.Proofs.Ytiemibngfckgdaa
open Go.RowKit
open Par

namespace Par
open Tok (T Bs)
/-- The tape in block T: its numbers, and where it stands. -/
structure Tp (w : World) (T : Nat) (A : Option Addr) (len cap : Nat) (xs : List Nat) (k : Nat) : Prop where
  c0 : w.cell? ⟨T, 0, none⟩ = some (.slice A len cap)
  c1 : w.cell? ⟨T, 1, none⟩ = some (.int .i64 k)
  f1 : w.frozen? ⟨T, 1, none⟩ = false
  lt : T < w.heap.size
  le : k ≤ len
  small : len ≤ maxLen
  num : xs.length = len
  byt : ∀ j (h : j < xs.length), xs[j] ≤ 255 ∧ ∃ b off, A = some ⟨b, off, none⟩ ∧ b < T ∧ w.cell? ⟨b, off + j, none⟩ = some (.int .u8 (xs[j] : Nat))
theorem Tp.below {w w' : World} {T : Nat} {A : Option Addr} {len cap : Nat} {xs : List Nat} {k : Nat} (h : Tp w T A len cap xs k) (b : Below w.heap.size w w') : Tp w' T A len cap xs k :=
  ⟨(b.cell (p := ⟨T, 0, none⟩) h.lt).trans h.c0, (b.cell (p := ⟨T, 1, none⟩) h.lt).trans h.c1, (b.frozen (p := ⟨T, 1, none⟩) h.lt).trans h.f1, Nat.lt_of_lt_of_le h.lt b.size, h.le, h.small, h.num, fun j hj => by
    obtain ⟨h1, g, off, ha, hg, hc⟩ := h.byt j hj
    exact ⟨h1, g, off, ha, hg, (b.cell (p := ⟨g, off + j, none⟩) (Nat.lt_trans hg h.lt)).trans hc⟩⟩
theorem Tp.past {w w' : World} {T : Nat} {A : Option Addr} {len cap : Nat} {xs : List Nat} {k : Nat} (h : Tp w T A len cap xs k) (b : Below (T + 1) w w') : Tp w' T A len cap xs k :=
  have hT : T < T + 1 := Nat.lt_succ_self T
  ⟨(b.cell (p := ⟨T, 0, none⟩) hT).trans h.c0, (b.cell (p := ⟨T, 1, none⟩) hT).trans h.c1, (b.frozen (p := ⟨T, 1, none⟩) hT).trans h.f1, Nat.lt_of_lt_of_le h.lt b.size, h.le, h.small, h.num, fun j hj => by
    obtain ⟨h1, g, off, ha, hg, hc⟩ := h.byt j hj
    exact ⟨h1, g, off, ha, hg, (b.cell (p := ⟨g, off + j, none⟩) (Nat.lt_succ_of_lt hg)).trans hc⟩⟩
theorem Tp.alloc {w : World} {T : Nat} {A : Option Addr} {len cap : Nat} {xs : List Nat} {k : Nat} (h : Tp w T A len cap xs k) (o : Obj) : Tp (w.alloc o) T A len cap xs k := h.below ((Below.refl _ _).alloc (Nat.le_refl _) o)
theorem Tp.step {w w' : World} {T : Nat} {A : Option Addr} {len cap : Nat} {xs : List Nat} {k : Nat} (h : Tp w T A len cap xs k) (hk : k < len) (b : Kept T w w')
    (c0 : w'.cell? ⟨T, 0, none⟩ = some (.slice A len cap)) (c1 : w'.cell? ⟨T, 1, none⟩ = some (.int .i64 ((k : Int) + 1))) (f1 : w'.frozen? ⟨T, 1, none⟩ = false) : Tp w' T A len cap xs (k + 1) :=
  ⟨c0, by rw [c1]; norm_cast, f1, Nat.lt_of_lt_of_le h.lt b.size, hk, h.small, h.num, fun j hj => by
    obtain ⟨h1, g, off, ha, hg, hc⟩ := h.byt j hj
    exact ⟨h1, g, off, ha, hg, (b.cell (Nat.lt_trans hg h.lt) (by omega)).trans hc⟩⟩
/-- The tape's next number. -/
def nx (xs : List Nat) (k n : Nat) : Nat := if h : k < xs.length then xs[k] % n else 0
def nk (xs : List Nat) (k : Nat) : Nat := if k < xs.length then k + 1 else k
theorem nx_lt (xs : List Nat) (k n : Nat) (hn : 0 < n) : nx xs k n < n := by
  unfold nx
  split
  · exact Nat.mod_lt _ hn
  · exact hn
end Par

set_option maxHeartbeats 1000000 in
set_option maxRecDepth 100000 in
theorem next_any (w : World) (T : Nat) (A : Option Addr) (len cap : Nat) (xs : List Nat) (k n : Nat) (h : Tp w T A len cap xs k) (hn : 1 ≤ n) (hn2 : n ≤ 1000) :
    Calls Try.prog 34 #[.pointer (some ⟨T, 0, none⟩), .int .i64 n] w fun e w' => e = .returned (.int .i64 (nx xs k n)) ∧ Kept T w w' ∧ Tp w' T A len cap xs (nk xs k) := by
  have c0 := h.c0
  have c1 := h.c1
  have f1 := h.f1
  have hT := h.lt
  have hle := h.le
  have hsm := h.small
  unfold maxLen at hsm
  have H := Lib.hid h
  by_cases hk : k < len
  · have hkx : k < xs.length := by have := h.num; omega
    obtain ⟨hx, b, off, rfl, hbT, hc⟩ := h.byt k hkx
    have hnx : nx xs k n = xs[k] % n := by
      unfold nx
      rw [dif_pos hkx]
    have hnk : nk xs k = k + 1 := by
      unfold nk
      rw [if_pos hkx]
    obtain ⟨x, hxe⟩ : ∃ x, x = xs[k] := ⟨_, rfl⟩
    rw [← hxe] at hnx hx hc
    rw [hnx, hnk]
    have HK := Lib.hid hkx
    clear hxe hkx
    have g1 : decide ((len : Int) ≤ (k : Int)) = false := decide_eq_false (by omega)
    have g2 : decide ((n : Int) < 1) = false := decide_eq_false (by omega)
    have hki : (k : Int) < len := by omega
    have hbt : b ≠ T := by omega
    have hw0 : IntKind.i64.wrap ((k : Int) + 1) = (k : Int) + 1 := IntWalk.i64_in _ (by omega)
    have HW1 := Lib.hid (show IntKind.i64.wrap ((k : Int) + 1 - 1) = (k : Int) by rw [Int.add_sub_cancel]; exact IntWalk.i64_in _ (by omega))
    have HW2 := Lib.hid (show IntKind.i64.wrap (k : Int) = (k : Int) from IntWalk.i64_in _ (by omega))
    clear h hnx hnk hsm
    go_enter Try.func34, Try.ntmps34
    go_wp2_with fail
    go_quiet (fail)
    go_wp2_with fail
    have hn0 : ¬ (n : Int) = 0 := by omega
    have hk0 : (0 : Int) ≤ k := by omega
    have hw1 := HW1.out
    have hw2 := HW2.out
    go_quiet (fail)
    go_wp2_with fail
    go_ret
    exact ⟨by norm_cast, and_use ((((Kept.refl T w).drewN _).setOwn 1 (.int .i64 ((k : Int) + 1))).drewN _) fun HK2 => H.out.step hk HK2 (by simp [go_sem, c0]) (by simp [go_sem, c1]) (by simp [go_sem, f1])⟩
  · have g1 : decide ((len : Int) ≤ (k : Int)) = true := decide_eq_true (by omega)
    have hkx : ¬ k < xs.length := by have := h.num; omega
    have hnx : nx xs k n = 0 := by
      unfold nx
      rw [dif_neg hkx]
    have hnk : nk xs k = k := by
      unfold nk
      rw [if_neg hkx]
    rw [hnx, hnk]
    have hki : (len : Int) ≤ k := by omega
    clear h hnx hnk hkx hsm
    go_enter Try.func34, Try.ntmps34
    go_wp2_with fail
    go_quiet (fail)
    go_wp2_with fail
    go_ret
    exact ⟨rfl, (Kept.refl _ _).drewN _, H.out.below (below_drewN (Below.refl _ _) _)⟩

set_option maxHeartbeats 1000000 in
set_option maxRecDepth 100000 in
theorem mkName_any (w : World) (s : ByteArray) :
    Calls Try.prog 35 #[.string s] w fun e w' => e = .returned (.agg #[.int .i64 2, .int .i64 0, .string s, .slice none 0 0]) ∧ Below w.heap.size w w' := by
  go_enter Try.func35, Try.ntmps35
  go_wp2_with fail
  refine bodyPost_ret (v := .agg #[.int .i64 2, .int .i64 0, .string s, .slice none 0 0]) (by simp [results, Try.results35, go_sem]) rfl ⟨rfl, ?_⟩
  exact (Below.refl _ _).alloc (Nat.le_refl _) _
set_option maxHeartbeats 1000000 in
set_option maxRecDepth 100000 in
theorem mkBinary_any (w : World) (m : Nat) (o op1 n1 op2 n2 : Int) (nm1 nm2 : ByteArray) (a1 a2 : Option Addr) (len1 cap1 len2 cap2 : Nat) (x y : E) (hm : m ≤ w.heap.size)
    (hx : RdE w (PF m w) x (.agg #[.int .i64 op1, .int .i64 n1, .string nm1, .slice a1 len1 cap1])) (hy : RdE w (PF m w) y (.agg #[.int .i64 op2, .int .i64 n2, .string nm2, .slice a2 len2 cap2])) :
    Calls Try.prog 36 #[.int .i64 o, .agg #[.int .i64 op1, .int .i64 n1, .string nm1, .slice a1 len1 cap1], .agg #[.int .i64 op2, .int .i64 n2, .string nm2, .slice a2 len2 cap2]] w fun e w' =>
      ∃ g cap, e = .returned (.agg #[.int .i64 o, .int .i64 0, .string ⟨#[]⟩, .slice (some ⟨g, 0, none⟩) 2 cap]) ∧ Below w.heap.size w w' ∧ RdE w' (PF m w') (Par.binary o x y) (.agg #[.int .i64 o, .int .i64 0, .string ⟨#[]⟩, .slice (some ⟨g, 0, none⟩) 2 cap]) := by
  have HX := Lib.hid hx
  have HY := Lib.hid hy
  clear hx hy
  go_enter Try.func36, Try.ntmps36
  go_wp2_with fail
  have hb := ((((Below.refl w.heap.size w).alloc (Nat.le_refl _) (.cells #[.int .i64 op1, .int .i64 n1, .string nm1, .slice a1 len1 cap1] 29)).alloc (by simp) (.cells #[.int .i64 op2, .int .i64 n2, .string nm2, .slice a2 len2 cap2] 29)).alloc (by simp; omega)
    (.cells #[.int .i64 o, .int .i64 0, .string ⟨#[]⟩, .slice (some ⟨w.heap.size + 1 + 1 + 1, 0, none⟩) 2 2] 29)).alloc (by simp; omega) (.cells #[.int .i64 op1, .int .i64 n1, .string nm1, .slice a1 len1 cap1, .int .i64 op2, .int .i64 n2, .string nm2, .slice a2 len2 cap2] 29)
  refine bodyPost_ret (v := .agg #[.int .i64 o, .int .i64 0, .string ⟨#[]⟩, .slice (some ⟨w.heap.size + 1 + 1 + 1, 0, none⟩) 2 2]) (by simp [results, Try.results36, go_sem]) rfl ⟨_, _, rfl, hb, ?_⟩
  refine rdE_two (g := w.heap.size + 1 + 1 + 1) (v0 := .int .i64 op1) (v1 := .int .i64 n1) (v2 := .string nm1) (v3 := .slice a1 len1 cap1) (u0 := .int .i64 op2) (u1 := .int .i64 n2) (u2 := .string nm2) (u3 := .slice a2 len2 cap2) ⟨by omega, plain_new (by simp)⟩ ?_ ?_ ?_ ?_ ?_ ?_ ?_ ?_ (HX.out.pbelow hb) (HY.out.pbelow hb)
  all_goals
    rw [World.cell?_alloc_at _ _ _ _ (by simp)]
    rfl
end Go.Proofs.Ytiemibngfckgdaa
