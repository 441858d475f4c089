/-
  Package silent: a thread's state while it settles: its box, its registers, its taints.
-/
import Derived.Test.YtdibfpjhmfkbkaaSlR
import Derived.Deep.AppendLies
namespace Go.Proofs.Ytdibfpjhmfkbkaa
open Go.RowKit
open Vl

namespace Sl
theorem own_set {w : World} {base : Nat} {e : TypeId} {size g n cap : Nat} {xs : List Value} (h : w.ownsRow base e size (.slice (some ⟨g, 0, none⟩) n cap) n xs) (j : Nat) (hj : j < n * size) (u : Value) :
    (w.setCell ⟨g, j, none⟩ u).ownsRow base e size (.slice (some ⟨g, 0, none⟩) n cap) n (xs.set j u) := by
  obtain ⟨hl, h2⟩ := h
  rcases h2 with ⟨h0, _⟩ | ⟨g', cap', cur, hv, hg, hh, hn, hcap, hsz, htake⟩
  · cases h0
  · cases hv
    have hlt : j < cur.size := by
      have := Nat.mul_le_mul_right size hn
      omega
    refine ⟨by rw [List.length_set]; exact hl, .inr ⟨g, cap, cur.set! j u, rfl, hg, ?_, hn, hcap, by simpa using hsz, ?_⟩⟩
    · simp only [World.setCell, Array.getElem?_modify, hh]
      simp
    · rw [Array.set!_eq_setIfInBounds, Array.toList_setIfInBounds, List.take_set, htake]
theorem own_block {w w' : World} {base : Nat} {e : TypeId} {size n : Nat} {v : Value} {xs : List Value} (h : w.ownsRow base e size v n xs) (hb : ∀ g, v.ownBlock = some g → w'.heap[g]? = w.heap[g]?) : w'.ownsRow base e size v n xs := by
  refine ⟨h.1, ?_⟩
  rcases h.2 with hn | ⟨g, cap, cur, rfl, hg, hgg, rest⟩
  · exact .inl hn
  · exact .inr ⟨g, cap, cur, rfl, hg, by rw [hb g rfl]; exact hgg, rest⟩
theorem own_frozen {w : World} {base : Nat} {e : TypeId} {size g n cap : Nat} {xs : List Value} (h : w.ownsRow base e size (.slice (some ⟨g, 0, none⟩) n cap) n xs) (j : Nat) : w.frozen? ⟨g, j, none⟩ = false := by
  rcases h.2 with ⟨h0, _⟩ | ⟨g', cap', cur, hv, _, hg, _⟩
  · cases h0
  · cases hv
    simp [World.frozen?, hg]
theorem frozen_set (w : World) (p : Addr) (u : Value) (q : Addr) : (w.setCell p u).frozen? q = w.frozen? q := by simp
structure StAt (b0 B Rb : Nat) (vr vt : Value) (tvs : List Value) (N : List Nat) (s : S) (w : World) : Prop where
  c0 : w.cell? ⟨B, 0, none⟩ = some (.int .i64 s.pc)
  c1 : w.cell? ⟨B, 1, none⟩ = some vr
  c2 : w.cell? ⟨B, 2, none⟩ = some vt
  c3 : w.cell? ⟨B, 3, none⟩ = some (.int .i64 s.ev)
  fz : ∀ j, w.frozen? ⟨B, j, none⟩ = false
  r1 : w.ownsRow b0 2 1 vr s.regs.length (s.regs.map IV)
  r2 : w.ownsRow b0 22 1 vt s.taint.length tvs
  tv : ∀ (k : Nat) (u : Value) (zs : List Int), tvs[k]? = some u → s.taint[k]? = some zs → IntsAt (Rb :: N) w u zs
  len : s.taint.length = s.regs.length
  dB1 : vr.ownBlock ≠ some B
  dB2 : vt.ownBlock ≠ some B
  d12 : ∀ g, vr.ownBlock = some g → vt.ownBlock ≠ some g
  inB : B ∈ N
  inR : ∀ g, vr.ownBlock = some g → g ∈ N
  inT : ∀ g, vt.ownBlock = some g → g ∈ N
  low : ∀ b ∈ N, b0 ≤ b
  ltR : Rb < w.heap.size
  lt : ∀ b ∈ N, b < w.heap.size
section
variable {b0 B Rb : Nat} {vr vt : Value} {tvs : List Value} {N : List Nat} {s : S} {w w' : World}
theorem StAt.below (h : StAt b0 B Rb vr vt tvs N s w) (b : Below w.heap.size w w') : StAt b0 B Rb vr vt tvs N s w' := by
  have hB := h.lt B h.inB
  exact ⟨(b.cell (p := ⟨B, 0, none⟩) hB).trans h.c0, (b.cell (p := ⟨B, 1, none⟩) hB).trans h.c1, (b.cell (p := ⟨B, 2, none⟩) hB).trans h.c2, (b.cell (p := ⟨B, 3, none⟩) hB).trans h.c3,
    fun j => (b.frozen (p := ⟨B, j, none⟩) hB).trans (h.fz j), own_block h.r1 (fun g hg => b.block g (h.r1.lt g hg).2), own_block h.r2 (fun g hg => b.block g (h.r2.lt g hg).2),
    fun k u zs h1 h2 => (h.tv k u zs h1 h2).below b, h.len, h.dB1, h.dB2, h.d12, h.inB, h.inR, h.inT, h.low, Nat.lt_of_lt_of_le h.ltR b.size, fun x hx => Nat.lt_of_lt_of_le (h.lt x hx) b.size⟩
theorem StAt.tlen (h : StAt b0 B Rb vr vt tvs N s w) : tvs.length = s.taint.length := by have := h.r2.1; omega
theorem StAt.setPc (h : StAt b0 B Rb vr vt tvs N s w) (v : Int) : StAt b0 B Rb vr vt tvs N ⟨v, s.ev, s.regs, s.taint⟩ (w.setCell ⟨B, 0, none⟩ (.int .i64 v)) := by
  have hB := h.lt B h.inB
  have f : Far N w (w.setCell ⟨B, 0, none⟩ (.int .i64 v)) := (Far.refl N w).setCell (p := ⟨B, 0, none⟩) h.inB _
  refine ⟨?_, ?_, ?_, ?_, fun j => by rw [frozen_set]; exact h.fz j, own_block h.r1 (fun g hg => Below.heap_setCell _ _ _ _ (fun e => h.dB1 (by rw [hg, e]))), own_block h.r2 (fun g hg => Below.heap_setCell _ _ _ _ (fun e => h.dB2 (by rw [hg, e]))),
    fun k u zs h1 h2 => (h.tv k u zs h1 h2).far (f.mono fun _ hb => List.mem_cons_of_mem _ hb), h.len, h.dB1, h.dB2, h.d12, h.inB, h.inR, h.inT, h.low, Nat.lt_of_lt_of_le h.ltR f.size, fun x hx => Nat.lt_of_lt_of_le (h.lt x hx) f.size⟩
  · apply World.cell?_setCell_same (u := .int .i64 s.pc)
    exact h.c0
  · refine Eq.trans ?_ h.c1
    apply World.cell?_setCell_other
    simp
  · refine Eq.trans ?_ h.c2
    apply World.cell?_setCell_other
    simp
  · refine Eq.trans ?_ h.c3
    apply World.cell?_setCell_other
    simp
theorem StAt.setReg {g1 g2 q1 q2 n1 n2 : Nat} (h : StAt b0 B Rb (.slice (some ⟨g1, 0, none⟩) n1 q1) (.slice (some ⟨g2, 0, none⟩) n2 q2) tvs N s w) (hn1 : n1 = s.regs.length) (hn2 : n2 = s.taint.length) {k : Nat} (hk : k < s.regs.length) (v : Int) (tv : Value) (t : List Int) (ht : IntsAt (Rb :: N) w tv t) :
    StAt b0 B Rb (.slice (some ⟨g1, 0, none⟩) n1 q1) (.slice (some ⟨g2, 0, none⟩) n2 q2) (tvs.set k tv) N ⟨s.pc, s.ev, s.regs.set k v, s.taint.set k t⟩ ((w.setCell ⟨g1, k, none⟩ (.int .i64 v)).setCell ⟨g2, k, none⟩ tv) := by
  subst hn1 hn2
  have hB := h.lt B h.inB
  have e1 : g1 ≠ B := fun e => h.dB1 (by simp [Value.ownBlock, e])
  have e2 : g2 ≠ B := fun e => h.dB2 (by simp [Value.ownBlock, e])
  have e3 : g1 ≠ g2 := fun e => h.d12 g1 rfl (by simp [Value.ownBlock, e])
  have f : Far N w ((w.setCell ⟨g1, k, none⟩ (.int .i64 v)).setCell ⟨g2, k, none⟩ tv) := ((Far.refl N w).setCell (p := ⟨g1, k, none⟩) (h.inR g1 rfl) _).setCell (p := ⟨g2, k, none⟩) (h.inT g2 rfl) _
  have hbk : ((w.setCell ⟨g1, k, none⟩ (.int .i64 v)).setCell ⟨g2, k, none⟩ tv).heap[B]? = w.heap[B]? := (Below.heap_setCell _ _ _ _ (fun e => e2 e.symm)).trans (Below.heap_setCell _ _ _ _ (fun e => e1 e.symm))
  have cl : ∀ j, ((w.setCell ⟨g1, k, none⟩ (.int .i64 v)).setCell ⟨g2, k, none⟩ tv).cell? ⟨B, j, none⟩ = w.cell? ⟨B, j, none⟩ := fun j => World.cell?_of_block (a := ⟨B, j, none⟩) hbk
  have hl2 := h.len
  refine ⟨(cl 0).trans h.c0, (cl 1).trans h.c1, (cl 2).trans h.c2, (cl 3).trans h.c3, fun j => by rw [frozen_set, frozen_set]; exact h.fz j, ?_, ?_, ?_, by simp [hl2], h.dB1, h.dB2, h.d12, h.inB, h.inR, h.inT, h.low, Nat.lt_of_lt_of_le h.ltR f.size, fun x hx => Nat.lt_of_lt_of_le (h.lt x hx) f.size⟩
  · have q := own_set h.r1 k (by omega) (.int .i64 v)
    have q2 := own_block (w' := (w.setCell ⟨g1, k, none⟩ (.int .i64 v)).setCell ⟨g2, k, none⟩ tv) q (fun g hg => by
      cases hg
      exact Below.heap_setCell _ _ _ _ e3)
    simpa [List.map_set] using q2
  · have q := own_block (w' := w.setCell ⟨g1, k, none⟩ (.int .i64 v)) h.r2 (fun g hg => by
      cases hg
      exact Below.heap_setCell _ _ _ _ (fun e => e3 e.symm))
    have q2 := own_set q k (by omega) tv
    simpa using q2
  · intro j u zs h1 h2
    by_cases hj : j = k
    · subst hj
      have l1 : j < tvs.length := by rw [h.tlen]; omega
      have l2 : j < s.taint.length := by omega
      simp [l1] at h1
      simp [l2] at h2
      subst h1 h2
      exact ht.far (f.mono fun _ hb => List.mem_cons_of_mem _ hb)
    · rw [List.getElem?_set_ne (fun e => hj e.symm)] at h1 h2
      exact (h.tv j u zs h1 h2).far (f.mono fun _ hb => List.mem_cons_of_mem _ hb)
end
end Sl
set_option maxRecDepth 100000 in
theorem copyI64_any (w : World) (N : List Nat) (v : Value) (zs : List Int) (h : Sl.IntsAt N w v zs) (hl : zs.length * 8 ≤ 140737488355328) :
    Calls Try.prog 15 #[v] w fun x w' => ∃ v', x = .returned v' ∧ w'.ownsRow w.heap.size 2 1 v' zs.length (zs.map Sl.IV) ∧ Below w.heap.size w w' := by
  obtain ⟨i0, hi, hz0, hz1, hz2⟩ := info_parts Try.infoI64
  have hm : zs.length ≤ maxLen := by unfold maxLen; omega
  have H := Lib.hid h
  clear h
  go_enter Try.func15, Try.ntmps15
  go_wp2_with (at_builtin; refine wpList_append_vals _ rfl _ _ 29 rfl w.heap.size 2 i0 _ 8 Try.underlying29 hi hz0 hz1 hz2 rfl (.slice none 0 0) 0 [] rfl (World.ownsRow_nil _ _ _ _) N v _ rfl H.out (ints_one _) (by simp; omega) (by simp; omega) (Nat.le_refl _) ?_; intro v' w' hown hg _ _)
  go_ret
  exact ⟨v', rfl, by simpa using hown, (Below.refl _ w).grown hg (Nat.le_refl _) (fun k hk => by cases hk)⟩
set_option maxRecDepth 100000 in
theorem copyRows_any (w : World) (N : List Nat) (v : Value) (ys : List Value) (h : Sl.Vals N w v ys) (h1 : ∀ u ∈ ys, u.oneCell' = true) (hl : ys.length * 24 ≤ 140737488355328) :
    Calls Try.prog 16 #[v] w fun x w' => ∃ v', x = .returned v' ∧ w'.ownsRow w.heap.size 22 1 v' ys.length ys ∧ Below w.heap.size w w' := by
  obtain ⟨i0, hi, hz0, hz1, hz2⟩ := info_parts Try.infoRow
  have hm : ys.length ≤ maxLen := by unfold maxLen; omega
  have H := Lib.hid h
  clear h
  go_enter Try.func16, Try.ntmps16
  go_wp2_with (at_builtin; refine wpList_append_vals _ rfl _ _ 30 rfl w.heap.size 22 i0 _ 24 Try.underlying30 hi hz0 hz1 hz2 rfl (.slice none 0 0) 0 [] rfl (World.ownsRow_nil _ _ _ _) N v _ rfl H.out h1 (by simp; omega) (by simp; omega) (Nat.le_refl _) ?_; intro v' w' hown hg _ _)
  go_ret
  exact ⟨v', rfl, by simpa using hown, (Below.refl _ w).grown hg (Nat.le_refl _) (fun k hk => by cases hk)⟩
end Go.Proofs.Ytdibfpjhmfkbkaa
