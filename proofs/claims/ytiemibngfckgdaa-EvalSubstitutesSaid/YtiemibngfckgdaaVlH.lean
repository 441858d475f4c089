/-
  The law's put: an expression whose variables are replaced by their values, in new blocks.
-/
import Derived.Test.YtiemibngfckgdaaVlG
import Derived.Deep.RegionLaw
import Derived.Deep.AppendLies
import Derived.Deep.DrawnRows
import Derived.OwnWalk
namespace Go.Proofs.Ytiemibngfckgdaa
open Go.RowKit
open Par
open Vl

namespace Vl
abbrev Q := Value × Value × Value × Value
def qc (q : Q) : List Value := [q.1, q.2.1, q.2.2.1, q.2.2.2]
theorem qcs_len : ∀ qs : List Q, (qs.flatMap qc).length = qs.length * 4
  | [] => rfl
  | q :: r => by
    simp only [List.flatMap_cons, List.length_append, qcs_len r, List.length_cons]
    show 4 + _ = _
    omega
/-- Four cells each that are these expressions. -/
def RdQ (w : World) (S : Nat → Prop) : List E → List Q → Prop
  | [], [] => True
  | e :: r, q :: qs => RdE w S e (.agg #[q.1, q.2.1, q.2.2.1, q.2.2.2]) ∧ RdQ w S r qs
  | _, _ => False
theorem RdQ.turn {w w' : World} {S S' : Nat → Prop} (h : ∀ k o u, S k → w.cell? ⟨k, o, none⟩ = some u → w'.cell? ⟨k, o, none⟩ = some u ∧ S' k) : ∀ {l : List E} {qs : List Q}, RdQ w S l qs → RdQ w' S' l qs
  | [], [], _ => trivial
  | _ :: _, _ :: _, hr => ⟨RdE.turn h _ _ hr.1, RdQ.turn h hr.2⟩
  | [], _ :: _, hr => hr.elim
  | _ :: _, [], hr => hr.elim
theorem RdQ.snoc {w : World} {S : Nat → Prop} {e : E} {q : Q} : ∀ {l : List E} {qs : List Q}, RdQ w S l qs → RdE w S e (.agg #[q.1, q.2.1, q.2.2.1, q.2.2.2]) → RdQ w S (l ++ [e]) (qs ++ [q])
  | [], [], _, he => ⟨he, trivial⟩
  | _ :: _, _ :: _, hr, he => ⟨hr.1, RdQ.snoc hr.2 he⟩
  | [], _ :: _, hr, _ => hr.elim
  | _ :: _, [], hr, _ => hr.elim
theorem RdQ.len {w : World} {S : Nat → Prop} : ∀ {l : List E} {qs : List Q}, RdQ w S l qs → qs.length = l.length
  | [], [], _ => rfl
  | _ :: _, _ :: _, hr => by simp [RdQ.len hr.2]
  | [], _ :: _, hr => hr.elim
  | _ :: _, [], hr => hr.elim
/-- The quads lie in a row. -/
theorem RdQ.row {w : World} {S : Nat → Prop} {g : Nat} : ∀ (l : List E) (qs : List Q) (o : Nat), RdQ w S l qs → (∀ j u, (qs.flatMap qc)[j]? = some u → w.cell? ⟨g, o + j, none⟩ = some u) → RdL w S g o l
  | [], [], _, _, _ => trivial
  | e :: r, q :: qs, o, hr, hc => by
    have hx : ∀ j u, (qc q ++ qs.flatMap qc)[j]? = some u → w.cell? ⟨g, o + j, none⟩ = some u := by simpa using hc
    refine ⟨⟨q.1, q.2.1, q.2.2.1, q.2.2.2, hx 0 _ rfl, hx 1 _ rfl, hx 2 _ rfl, hx 3 _ rfl, hr.1⟩, RdQ.row r qs (o + 4) hr.2 (fun j u hj => ?_)⟩
    have := hx (4 + j) u (by rw [List.getElem?_append_right (by show 4 ≤ 4 + j; omega)]; show (qs.flatMap qc)[4 + j - 4]? = _; rw [Nat.add_sub_cancel_left]; exact hj)
    rw [← this]
    congr 2
    omega
  | [], _ :: _, _, hr, _ => hr.elim
  | _ :: _, [], _, hr, _ => hr.elim
/-- New plain blocks from n on, but for the one that the value begins in. -/
def Off (n : Nat) (v : Value) (w : World) : Nat → Prop := fun g => n ≤ g ∧ v.ownBlock ≠ some g ∧ PlainAt w g
theorem Box4.of_block {w w' : World} {b : Nat} {v0 v1 v2 v3 : Value} (h : Box4 w b v0 v1 v2 v3) (k : w'.heap[b]? = w.heap[b]?) : Box4 w' b v0 v1 v2 v3 :=
  ⟨(World.cell?_of_block (a := ⟨b, 0, none⟩) k).trans h.c0, (World.cell?_of_block (a := ⟨b, 1, none⟩) k).trans h.c1, (World.cell?_of_block (a := ⟨b, 2, none⟩) k).trans h.c2, (World.cell?_of_block (a := ⟨b, 3, none⟩) k).trans h.c3,
    (World.frozen?_of_block (a := ⟨b, 0, none⟩) k).trans h.f0, (World.frozen?_of_block (a := ⟨b, 1, none⟩) k).trans h.f1, (World.frozen?_of_block (a := ⟨b, 2, none⟩) k).trans h.f2, (World.frozen?_of_block (a := ⟨b, 3, none⟩) k).trans h.f3⟩
/-- What holds at the head of put's loop. -/
structure PutAt (w : World) (f : ByteArray → Option Int) (op n : Int) (nm : ByteArray) (sl : Value) (l : List E) (k : Nat) (sv : Value) (qs : List Q) (wr : World) : Prop where
  own : wr.ownsRow (w.heap.size + 3) 29 4 sv k (qs.flatMap qc)
  rd : RdQ wr (Off (w.heap.size + 3) sv wr) (putL f (l.take k)) qs
  b0 : Box4 wr w.heap.size (.int .i64 op) (.int .i64 n) (.string nm) sl
  b1 : Box4 wr (w.heap.size + 1) (.int .i64 0) (.int .i64 0) (.string ⟨#[]⟩) (.slice none 0 0)
  b2 : Box4 wr (w.heap.size + 2) (.int .i64 op) (.int .i64 n) (.string nm) sv
  bel : Below w.heap.size w wr
theorem putL_snoc (f : ByteArray → Option Int) (e : E) : ∀ l : List E, putL f (l ++ [e]) = putL f l ++ [putE f e]
  | [] => rfl
  | x :: r => by simp only [List.cons_append, putL, putL_snoc f e r]
/-- One operand more. -/
theorem PutAt.next {w : World} {f : ByteArray → Option Int} {op n : Int} {nm : ByteArray} {sl : Value} {l : List E} {k : Nat} {sv : Value} {qs : List Q} {wr w5 w6 : World} (h : PutAt w f op n nm sl l k sv qs wr) (hk : k < l.length) {q : Q} (hb : Below wr.heap.size wr w5)
    (hq : RdE w5 (PF wr.heap.size w5) (putE f l[k]) (.agg #[q.1, q.2.1, q.2.2.1, q.2.2.2])) {o : Obj} {gg cap : Nat} (hown : w6.ownsRow (w.heap.size + 3) 29 4 (.slice (some ⟨gg, 0, none⟩) (k + 1) cap) (k + 1) (qs.flatMap qc ++ qc q))
    (hg : (w5.alloc o).grownBy w6 sv.ownBlock) (hat : sv.ownBlock = some gg ∨ gg = w5.heap.size + 1) :
    PutAt w f op n nm sl l (k + 1) (.slice (some ⟨gg, 0, none⟩) (k + 1) cap) (qs ++ [q]) (w6.setCell ⟨w.heap.size + 2, 3, none⟩ (.slice (some ⟨gg, 0, none⟩) (k + 1) cap)) := by
  have hl2 := h.b2.lt
  have hsz := hb.size
  have hrow : ∀ j, sv.ownBlock = some j → w.heap.size + 3 ≤ j ∧ j < wr.heap.size := fun j hj => h.own.lt j hj
  have hgg : w.heap.size + 3 ≤ gg := by
    rcases hat with h1 | h1
    · exact (hrow gg h1).1
    · omega
  have hblk : ∀ j, j < w5.heap.size → sv.ownBlock ≠ some j → w6.heap[j]? = w5.heap[j]? := fun j hj hne => (hg.block j (by simp; omega) (fun e => hne e.symm)).trans (Below.heap_alloc _ _ _ hj)
  have hbox : ∀ j, j < w.heap.size + 3 → sv.ownBlock ≠ some j := fun j hj e => by have := (hrow j e).1; omega
  have hset : ∀ j, j ≠ w.heap.size + 2 → (w6.setCell ⟨w.heap.size + 2, 3, none⟩ (.slice (some ⟨gg, 0, none⟩) (k + 1) cap)).heap[j]? = w6.heap[j]? := fun j hj => Below.heap_setCell _ _ _ _ hj
  have hall : ∀ j, j < wr.heap.size → sv.ownBlock ≠ some j → j ≠ w.heap.size + 2 → (w6.setCell ⟨w.heap.size + 2, 3, none⟩ (.slice (some ⟨gg, 0, none⟩) (k + 1) cap)).heap[j]? = wr.heap[j]? := fun j hj hne h2 => ((hset j h2).trans (hblk j (by omega) hne)).trans (hb.block j hj)
  have hs6 : w5.heap.size + 1 ≤ w6.heap.size := by have := hg.size; simp at this; exact this
  refine ⟨?_, ?_, ?_, ?_, ?_, ?_⟩
  · rw [List.flatMap_append, List.flatMap_singleton]
    refine ⟨hown.1, ?_⟩
    rcases hown.2 with ⟨h0, _⟩ | ⟨g', cap', cur, hv, hg', hh, rest⟩
    · cases h0
    · cases hv
      exact .inr ⟨gg, cap, cur, rfl, hg', (hset gg (by omega)).trans hh, rest⟩
  · have e1 : l.take (k + 1) = l.take k ++ [l[k]] := List.take_succ_eq_append_getElem hk
    rw [e1, putL_snoc]
    refine RdQ.snoc (RdQ.turn (fun j o u hj hc => ?_) h.rd) (RdE.turn (fun j o u hj hc => ?_) _ _ hq)
    · have hjl : j < wr.heap.size := block_lt_of_cell (a := ⟨j, o, none⟩) hc
      have e2 := hall j hjl hj.2.1 (by have := hj.1; omega)
      refine ⟨(World.cell?_of_block e2).trans hc, hj.1, ?_, hj.2.2.of_block e2⟩
      intro e3
      have e3 : gg = j := by simpa [Value.ownBlock] using e3
      rcases hat with h1 | h1
      · exact hj.2.1 (by rw [h1, e3])
      · omega
    · have hjl : j < w5.heap.size := block_lt_of_cell (a := ⟨j, o, none⟩) hc
      have hne : sv.ownBlock ≠ some j := fun e => by
        have h2 := (hrow j e).2
        have h3 := hj.1
        omega
      have h3 := hj.1
      have e2 := (hset j (by omega)).trans (hblk j hjl hne)
      refine ⟨(World.cell?_of_block e2).trans hc, by omega, ?_, hj.2.of_block e2⟩
      intro e3
      have e3 : gg = j := by simpa [Value.ownBlock] using e3
      rcases hat with h1 | h1
      · exact hne (by rw [h1, e3])
      · omega
  · exact Box4.of_block h.b0 (hall _ h.b0.lt (hbox _ (by omega)) (by omega))
  · exact Box4.of_block h.b1 (hall _ h.b1.lt (hbox _ (by omega)) (by omega))
  · have e2 : w6.heap[w.heap.size + 2]? = wr.heap[w.heap.size + 2]? := (hblk _ (by omega) (hbox _ (by omega))).trans (hb.block _ hl2)
    have b6 := Box4.of_block h.b2 e2
    exact ⟨(World.cell?_setCell_other _ _ _ _ (by intro e; cases e)).trans b6.c0, (World.cell?_setCell_other _ _ _ _ (by intro e; cases e)).trans b6.c1, (World.cell?_setCell_other _ _ _ _ (by intro e; cases e)).trans b6.c2, World.cell?_setCell_same _ _ _ b6.c3,
      (World.frozen?_setCell _ _ _ _).trans b6.f0, (World.frozen?_setCell _ _ _ _).trans b6.f1, (World.frozen?_setCell _ _ _ _).trans b6.f2, (World.frozen?_setCell _ _ _ _).trans b6.f3⟩
  · refine Below.setCell ?_ (by show w.heap.size ≤ w.heap.size + 2; omega) _
    refine ⟨hg.os.trans (hb.os.trans h.bel.os), hg.tape.trans (hb.tape.trans h.bel.tape), hg.output.trans (hb.output.trans h.bel.output), by have := h.bel.size; omega, fun j hj => ?_⟩
    have hjr : j < wr.heap.size := Nat.lt_of_lt_of_le hj h.bel.size
    exact ((hblk j (by omega) (hbox j (by omega))).trans (hb.block j hjr)).trans (h.bel.block j hj)
theorem putAt_start (w : World) (f : ByteArray → Option Int) (op n : Int) (nm : ByteArray) (sl : Value) (l : List E) :
    PutAt w f op n nm sl l 0 (.slice none 0 0) [] (((w.alloc (.cells #[.int .i64 op, .int .i64 n, .string nm, sl] 29)).alloc (.cells #[.int .i64 0, .int .i64 0, .string ⟨#[]⟩, .slice none 0 0] 29)).alloc (.cells #[.int .i64 op, .int .i64 n, .string nm, .slice none 0 0] 29)) := by
  have hb1 := (Below.refl (w.alloc (.cells #[.int .i64 op, .int .i64 n, .string nm, sl] 29)).heap.size (w.alloc (.cells #[.int .i64 op, .int .i64 n, .string nm, sl] 29))).alloc (Nat.le_refl _) (.cells #[.int .i64 0, .int .i64 0, .string ⟨#[]⟩, .slice none 0 0] 29)
  have hb2 := (Below.refl ((w.alloc (.cells #[.int .i64 op, .int .i64 n, .string nm, sl] 29)).alloc (.cells #[.int .i64 0, .int .i64 0, .string ⟨#[]⟩, .slice none 0 0] 29)).heap.size ((w.alloc (.cells #[.int .i64 op, .int .i64 n, .string nm, sl] 29)).alloc (.cells #[.int .i64 0, .int .i64 0, .string ⟨#[]⟩, .slice none 0 0] 29))).alloc (Nat.le_refl _) (.cells #[.int .i64 op, .int .i64 n, .string nm, .slice none 0 0] 29)
  refine ⟨⟨rfl, .inl ⟨rfl, rfl⟩⟩, trivial, ((Box4.new w _ _ _ _ _).below hb1).below hb2, (Box4.at (by simp)).below hb2, Box4.at (by simp), (((Below.refl _ _).alloc (Nat.le_refl _) _).alloc (by simp) _).alloc (by simp; omega) _⟩
theorem Try.infoEx2 : (Try.prog.info? 29).map (fun i => (i.zero, i.size, i.bytes)) = some (some (.agg #[.int .i64 0, .int .i64 0, .string ⟨#[]⟩, .slice none 0 0]), 4, 56) := by kernel_rfl
theorem own_below {w w' : World} {base : Nat} {e : TypeId} {size : Nat} {v : Value} {n : Nat} {xs : List Value} (h : w.ownsRow base e size v n xs) (b : Below w.heap.size w w') : w'.ownsRow base e size v n xs := by
  refine ⟨h.1, ?_⟩
  rcases h.2 with hn | ⟨g, cap, cur, rfl, hg, hgg, rest⟩
  · exact .inl hn
  · exact .inr ⟨g, cap, cur, rfl, hg, by rw [b.block g (Array.getElem?_eq_some_iff.1 hgg).1]; exact hgg, rest⟩
theorem cell_four_fresh (w : World) (a b c d : Value) (t : TypeId) : ∀ j u, [a, b, c, d][j]? = some u → (w.alloc (.cells #[a, b, c, d] t)).cell? ((⟨w.heap.size, 0, none⟩ : Addr).add j) = some u := by
  intro j u hj
  match j, hj with
  | 0, hj => simp at hj; subst hj; simp [Addr.add]
  | 1, hj => simp at hj; subst hj; simp [Addr.add]
  | 2, hj => simp at hj; subst hj; simp [Addr.add]
  | 3, hj => simp at hj; subst hj; simp [Addr.add]
  | j + 4, hj => simp at hj
theorem KL_len : ∀ l : List E, l.length ≤ KL l
  | [] => Nat.le_refl _
  | e :: r => by
    have h1 := KL_len r
    have h2 := K_kids e
    simp only [List.length_cons, KL]
    omega
theorem KL_get : ∀ (l : List E) (k : Nat) (h : k < l.length), K l[k] ≤ KL l
  | [], k, h => absurd h (by simp)
  | e :: r, 0, _ => by simp only [KL, List.getElem_cons_zero]; omega
  | e :: r, k + 1, h => by
    have := KL_get r k (by simpa using h)
    simp only [KL, List.getElem_cons_succ]
    omega
/-- The list is whole. -/
theorem PutAt.done_ {w : World} {f : ByteArray → Option Int} {op n : Int} {nm : ByteArray} {sl : Value} {l : List E} {sv : Value} {qs : List Q} {wr : World} (h : PutAt w f op n nm sl l l.length sv qs wr) :
    ∃ A cap, sv = .slice A l.length cap ∧ ∀ W : World, (∀ j, w.heap.size + 3 ≤ j → W.heap[j]? = wr.heap[j]?) → RdE W (PF w.heap.size W) (.mk op n nm (putL f l)) (.agg #[.int .i64 op, .int .i64 n, .string nm, .slice A l.length cap]) := by
  have hlen := h.rd.len
  rw [List.take_length, putL_len] at hlen
  rcases h.own.2 with ⟨rfl, hn⟩ | ⟨g, cap, cur, rfl, hg, hh, _⟩
  · refine ⟨none, 0, by rw [hn], fun W _ => ⟨none, 0, by rw [putL_len], .inl ?_⟩⟩
    exact List.eq_nil_of_length_eq_zero (by rw [putL_len]; exact hn)
  · refine ⟨some ⟨g, 0, none⟩, cap, rfl, fun W hW => ⟨some ⟨g, 0, none⟩, cap, by rw [putL_len], .inr ⟨g, rfl, ⟨by omega, cur, _, (hW g hg).trans hh⟩, ?_⟩⟩⟩
    have hrd := h.rd
    rw [List.take_length] at hrd
    refine RdQ.row _ _ 0 (RdQ.turn (fun j o u hj hc => ?_) hrd) (fun j u hj => ?_)
    · have hl := hj.1
      exact ⟨(World.cell?_of_block (a := ⟨j, o, none⟩) (hW j hl)).trans hc, by omega, hj.2.2.of_block (hW j hl)⟩
    · have hjl : j < l.length * 4 := by
        have h1 := (List.getElem?_eq_some_iff.1 hj).1
        rw [qcs_len, hlen] at h1
        exact h1
      have h2 := h.own.cellAt j hjl
      rw [Nat.zero_add]
      exact ((World.cell?_of_block (a := ⟨g, j, none⟩) (hW g hg)).trans h2).trans hj
/-- What put leaves. -/
def PostPut (f : ByteArray → Option Int) (e : E) (w : World) (x : Ending) (w' : World) : Prop :=
  ∃ op n nm a len cap, x = .returned (.agg #[.int .i64 op, .int .i64 n, .string nm, .slice a len cap]) ∧ Below w.heap.size w w' ∧ RdE w' (PF w.heap.size w') (putE f e) (.agg #[.int .i64 op, .int .i64 n, .string nm, .slice a len cap])
end Vl

set_option maxHeartbeats 8000000 in
set_option maxRecDepth 100000 in
theorem putName_any (w : World) (n : Int) (nm : ByteArray) (a : Option Addr) (cap : Nat) (v u : Value) (ns : List ByteArray) (zs : List Int) (hv : StrsAt w v ns) (hu : IntsAt w u zs) (hl : ns.length ≤ 1000) (hz : zs.length ≤ maxLen) :
    Calls Try.prog 20 #[.agg #[.int .i64 2, .int .i64 n, .string nm, .slice a 0 cap], v, u] w (PostPut (env ns zs) (.mk 2 n nm []) w) := by
  have CR := Lib.hid (fun w hv hu => refName_any w n nm a cap v u ns zs hv hu hl hz)
  have HV := Lib.hid hv
  have HU := Lib.hid hu
  have HPE := Lib.hid (show putE (env ns zs) (.mk 2 n nm []) = leafP (env ns zs) nm (.mk 2 n nm []) by simp [putE])
  unfold PostPut
  rw [HPE.out]
  obtain ⟨r, hr⟩ : ∃ r, env ns zs nm = r := ⟨_, rfl⟩
  unfold leafP
  rw [hr] at CR ⊢
  clear hv hu hl hz hr
  have HA := Lib.hid (((Below.refl w.heap.size w).alloc (Nat.le_refl _) (.cells #[.int .i64 2, .int .i64 n, .string nm, .slice a 0 cap] 29)).alloc (by simp) (.cells #[.int .i64 0, .int .i64 0, .string ⟨#[]⟩, .slice none 0 0] 29))
  cases r with
  | none =>
    simp only [Option.getD_none, Option.isSome_none] at CR
    go_enter Try.func20, Try.ntmps20
    go_wp2_with (go_at_call 16; refine (CR.out _ (HV.out.below HA.out) (HU.out.below HA.out)).mono ?_; rintro x w1 ⟨rfl, hb1⟩; have B0 := (Box4.new w (.int .i64 2) (.int .i64 n) (.string nm) (.slice a 0 cap) 29).below ((Below.refl _ _).alloc (Nat.le_refl _) (.cells #[.int .i64 0, .int .i64 0, .string ⟨#[]⟩, .slice none 0 0] 29)) |>.below hb1; have B1 := (Box4.at (w := w.alloc (.cells #[.int .i64 2, .int .i64 n, .string nm, .slice a 0 cap] 29)) (v0 := .int .i64 0) (v1 := .int .i64 0) (v2 := .string ⟨#[]⟩) (v3 := .slice none 0 0) (t := 29) (n := w.heap.size + 1) (by simp)).below hb1; obtain ⟨x0, x1, x2, x3, _, _, _, _⟩ := B0; obtain ⟨y0, y1, y2, y3, z0, z1, z2, z3⟩ := B1)
    have hb : Below w.heap.size w w1 := HA.out.trans (hb1.mono (by simp; omega))
    refine bodyPost_ret (v := .agg #[.int .i64 2, .int .i64 n, .string nm, .slice a 0 cap]) (by simp [results, Try.results20, go_sem, *]) rfl ⟨_, _, _, _, _, _, rfl, ?_, ⟨_, _, rfl, .inl rfl⟩⟩
    exact (((hb.setCell (p := ⟨w.heap.size + 1, 0, none⟩) (Nat.le_succ _) _).setCell (p := ⟨w.heap.size + 1, 1, none⟩) (Nat.le_succ _) _).setCell (p := ⟨w.heap.size + 1, 2, none⟩) (Nat.le_succ _) _).setCell (p := ⟨w.heap.size + 1, 3, none⟩) (Nat.le_succ _) _
  | some z =>
    simp only [Option.getD_some, Option.isSome_some] at CR
    go_enter Try.func20, Try.ntmps20
    go_wp2_with (go_at_call 16; refine (CR.out _ (HV.out.below HA.out) (HU.out.below HA.out)).mono ?_; rintro x w1 ⟨rfl, hb1⟩; have B0 := (Box4.new w (.int .i64 2) (.int .i64 n) (.string nm) (.slice a 0 cap) 29).below ((Below.refl _ _).alloc (Nat.le_refl _) (.cells #[.int .i64 0, .int .i64 0, .string ⟨#[]⟩, .slice none 0 0] 29)) |>.below hb1; have B1 := (Box4.at (w := w.alloc (.cells #[.int .i64 2, .int .i64 n, .string nm, .slice a 0 cap] 29)) (v0 := .int .i64 0) (v1 := .int .i64 0) (v2 := .string ⟨#[]⟩) (v3 := .slice none 0 0) (t := 29) (n := w.heap.size + 1) (by simp)).below hb1; obtain ⟨x0, x1, x2, x3, _, _, _, _⟩ := B0; obtain ⟨y0, y1, y2, y3, z0, z1, z2, z3⟩ := B1)
    have hb : Below w.heap.size w w1 := HA.out.trans (hb1.mono (by simp; omega))
    refine bodyPost_ret (v := .agg #[.int .i64 1, .int .i64 z, .string ⟨#[]⟩, .slice none 0 0]) (by simp [results, Try.results20, go_sem, *]) rfl ⟨_, _, _, _, _, _, rfl, ?_, ⟨_, _, rfl, .inl rfl⟩⟩
    exact (((hb.setCell (p := ⟨w.heap.size + 1, 0, none⟩) (Nat.le_succ _) _).setCell (p := ⟨w.heap.size + 1, 1, none⟩) (Nat.le_succ _) _).setCell (p := ⟨w.heap.size + 1, 2, none⟩) (Nat.le_succ _) _).setCell (p := ⟨w.heap.size + 1, 3, none⟩) (Nat.le_succ _) _

attribute [local go_sem ↓] Go.wp_at_zero Go.wp_at_succ

set_option maxHeartbeats 8000000 in
set_option maxRecDepth 100000 in
theorem putList_any (w : World) (n0 : Nat) (op n : Int) (nm : ByteArray) (a : Option Addr) (cap : Nat) (l : List E) (v u : Value) (f : ByteArray → Option Int) (ns : List ByteArray) (zs : List Int) (h : RdE w (PF n0 w) (.mk op n nm l) (.agg #[.int .i64 op, .int .i64 n, .string nm, .slice a l.length cap]))
    (hv : StrsAt w v ns) (hu : IntsAt w u zs) (hop : ¬ (op = 2 ∧ l.length = 0)) (hlen : l.length ≤ 100000)
    (ih : ∀ k (hk : k < l.length) W m0 op' n' nm' a' len' cap', RdE W (PF m0 W) l[k] (.agg #[.int .i64 op', .int .i64 n', .string nm', .slice a' len' cap']) → StrsAt W v ns → IntsAt W u zs → Calls Try.prog 20 #[.agg #[.int .i64 op', .int .i64 n', .string nm', .slice a' len' cap'], v, u] W (PostPut f l[k] W)) :
    Calls Try.prog 20 #[.agg #[.int .i64 op, .int .i64 n, .string nm, .slice a l.length cap], v, u] w (PostPut f (.mk op n nm l) w) := by
  obtain ⟨i0, hi, hz0, hz1, hz2⟩ := info_parts Try.infoEx2
  have HE := Lib.hid h
  have HV := Lib.hid hv
  have HU := Lib.hid hu
  have HI := Lib.hid ih
  have HPE := Lib.hid (show putE f (.mk op n nm l) = .mk op n nm (putL f l) by
    simp only [putE]
    rw [if_neg (fun e => hop ⟨e.1, by rw [e.2]; rfl⟩)])
  obtain ⟨len, hle⟩ : ∃ len, len = l.length := ⟨_, rfl⟩
  have HL := Lib.hid hle
  rw [← hle] at hlen hop ⊢
  have hcase : ¬ op = 2 ∨ (op = 2 ∧ ((len : Int) == 0) = false) := by
    by_cases h2 : op = 2
    · exact .inr ⟨h2, beq_eq_false_iff_ne.2 (by omega)⟩
    · exact .inl h2
  clear h hv hu ih hle hop
  rcases hcase with h2 | ⟨rfl, h2⟩
  all_goals
    go_enter Try.func20, Try.ntmps20
    go_wp2_with fail
    go_loopw [10] (fun i wr => ∃ (k : Nat) (sv : Value) (qs : List Q), k ≤ len ∧ i = .int .i64 k ∧ PutAt w f _ n nm (.slice a len cap) l k sv qs wr) (fun i _ => len - (intOf i).toNat)
    case atStart => exact ⟨0, .slice none 0 0, [], by omega, by first | rfl | trivial, putAt_start _ _ _ _ _ _ _⟩
    case round =>
      obtain ⟨k, sv, qs, hk, rfl, hP⟩ := hrel
      have HP := Lib.hid hP
      by_cases hkl : k < len
      · have hkl2 : k < l.length := by rw [← HL.out]; exact hkl
        have hkli : (k : Int) < (len : Int) := by omega
        obtain ⟨aa, cc, hag, hll⟩ := HE.out
        injection hag with hag
        simp at hag
        obtain ⟨rfl, rfl⟩ := hag
        obtain ⟨g', rfl, _, hrl⟩ := hll.resolve_left (fun e => by rw [e] at hkl2; simp at hkl2)
        obtain ⟨v0, v1, v2, v3, q0, q1, q2, q3, hre⟩ := rdL_at l 0 hrl k hkl2
        rw [Nat.zero_add] at q0 q1 q2 q3
        obtain ⟨op4, n4, nm4, a4, len4, cap4, rfl, rfl, rfl, rfl⟩ := hre.shape
        have hgl : g' < w.heap.size := block_lt_of_cell (a := ⟨g', k * 4, none⟩) q0
        have e0 := (hP.bel.cell (p := ⟨g', k * 4, none⟩) hgl).trans q0
        have e1 := (hP.bel.cell (p := ⟨g', k * 4 + 1, none⟩) hgl).trans q1
        have e2 := (hP.bel.cell (p := ⟨g', k * 4 + 2, none⟩) hgl).trans q2
        have e3 := (hP.bel.cell (p := ⟨g', k * 4 + 3, none⟩) hgl).trans q3
        have CP := Lib.hid (fun W (hb : Below w.heap.size w W) => HI.out k hkl2 W n0 op4 n4 nm4 a4 len4 cap4 (hre.pbelow hb) (HV.out.below hb) (HU.out.below hb))
        have hbw := hP.bel
        have hsz := hP.b2.lt
        have hszw := hP.bel.size
        have p3 := hP.b0.c3
        have x3 : wr.cell? ⟨w.heap.size + 1 + 1, 3, none⟩ = some sv := hP.b2.c3
        have y3 : wr.frozen? ⟨w.heap.size + 1 + 1, 3, none⟩ = false := hP.b2.f3
        have hne2 : sv.ownBlock ≠ some (w.heap.size + 2) := fun e => by have := (hP.own.lt _ e).1; omega
        clear hrl hre q0 q1 q2 q3 hP hk
        go_wp2_with fail
        go_region_law
          (first
            | ((refine step_append_lies _ (by rfl) _ _ _ (by rfl) (w.heap.size + 3) 29 i0 _ 4 56 Try.underlying27 hi hz0 hz1 hz2 rfl (by omega) sv k (qs.flatMap qc) (by rfl) (OWN5.out.alloc _) ⟨w5.heap.size, 0, none⟩ 1 1 [.int .i64 op5, .int .i64 n5, .string nm5, .slice a5 len5 cap5] (by rfl) (by rfl) (cell_four_fresh _ _ _ _ _ _) (by simp [Value.oneCell']) (by omega) (by unfold maxLen; omega) (by omega) (by simp; omega) (w5.heap.size + 1) (by simp) ?_; intro gg cap6 w6 hown6 hgrow6 hat6 hlt6; have b6 := Box4.of_block (B25.out.below ((Below.refl _ w5).alloc (Nat.le_refl _) (.cells #[.int .i64 op5, .int .i64 n5, .string nm5, .slice a5 len5 cap5] 29))) (hgrow6.block (w.heap.size + 2) (by simp; omega) (fun e => hne2 e.symm)); have z3 : w6.cell? ⟨w.heap.size + 1 + 1, 3, none⟩ = some sv := b6.c3; have zf3 : w6.frozen? ⟨w.heap.size + 1 + 1, 3, none⟩ = false := b6.f3; clear b6))
            | (go_simp; go_at_call 20; refine (CP.out _ ?_).mono ?_; first | exact hbw | exact hbw.drew; rintro x w5 ⟨op5, n5, nm5, a5, len5, cap5, rfl, hb5, hr5⟩; have hb5' : Below wr.heap.size wr w5 := Below.trans (Below.drew (Below.refl _ wr)) hb5; have s5 := hb5'.size; have OWN5 := Lib.hid (own_below HP.out.own hb5'); have B25 := Lib.hid (HP.out.b2.below hb5'); have w3 : w5.cell? ⟨w.heap.size + 1 + 1, 3, none⟩ = some sv := B25.out.c3; have w4 : (w5.alloc (.cells #[.int .i64 op5, .int .i64 n5, .string nm5, .slice a5 len5 cap5] 29)).cell? ⟨w.heap.size + 1 + 1, 3, none⟩ = some sv := (B25.out.below ((Below.refl _ w5).alloc (Nat.le_refl _) (.cells #[.int .i64 op5, .int .i64 n5, .string nm5, .slice a5 len5 cap5] 29))).c3; have HR5 := Lib.hid hr5; clear hr5 hb5; have HB5 := Lib.hid hb5'; clear hb5'))
        all_goals
          have hN : PutAt w f _ n nm (.slice (some ⟨g', 0, none⟩) len cap) l (k + 1) (.slice (some ⟨gg, 0, none⟩) (k + 1) cap6) (qs ++ [(.int .i64 op5, .int .i64 n5, .string nm5, .slice a5 len5 cap5)]) (w6.setCell ⟨w.heap.size + 2, 3, none⟩ (.slice (some ⟨gg, 0, none⟩) (k + 1) cap6)) :=
            HP.out.next hkl2 (q := (.int .i64 op5, .int .i64 n5, .string nm5, .slice a5 len5 cap5)) HB5.out HR5.out hown6 hgrow6 hat6
          have HN := Lib.hid hN
          clear hN hown6 hgrow6 hat6
          go_wp2_with fail
          go_roundw
          case rel =>
            first
              | exact ⟨k + 1, _, _, by omega, by go_num, HN.out⟩
              | exact ⟨.int .i64 ((k : Int) + 1), _, _, _, _, _, _, _, _, _, _, _, _, _, _, _, _, _, _, _, _, ⟨k + 1, _, _, by omega, by go_num, HN.out⟩, rfl⟩
          case measure => simp [intOf]; omega
      · have hke : k = len := by omega
        have hk2 : k = l.length := by rw [hke, HL.out]
        rw [hk2] at hP
        obtain ⟨A, ca, hsv, hend⟩ := hP.done_
        have hP2 := hP
        rw [hsv] at hP2
        have HEND := Lib.hid hend
        obtain ⟨p0, p1, p2, p3, _, _, _, _⟩ := hP2.b0
        obtain ⟨y0, y1, y2, y3, z0, z1, z2, z3⟩ := hP2.b1
        obtain ⟨x0, x1, x2, x3, _, _, _, _⟩ := hP2.b2
        have hsz := hP.bel.size
        have HBL := Lib.hid hP.bel
        subst hsv
        rw [← HL.out] at x3 HEND
        clear hP hP2 hend hk hk2
        subst hke
        go_wp2_with fail
        unfold PostPut
        rw [HPE.out]
        refine bodyPost_ret (v := .agg #[.int .i64 _, .int .i64 n, .string nm, .slice A k ca]) (by simp [results, Try.results20, go_sem, *]) rfl ⟨_, _, _, _, _, _, rfl, ?_, HEND.out _ ?_⟩
        · exact (((HBL.out.setCell (p := ⟨w.heap.size + 1, 0, none⟩) (Nat.le_succ _) _).setCell (p := ⟨w.heap.size + 1, 1, none⟩) (Nat.le_succ _) _).setCell (p := ⟨w.heap.size + 1, 2, none⟩) (Nat.le_succ _) _).setCell (p := ⟨w.heap.size + 1, 3, none⟩) (Nat.le_succ _) _
        · intro j hj
          have hne : j ≠ w.heap.size + 1 := by omega
          rw [Below.heap_setCell _ _ _ _ hne, Below.heap_setCell _ _ _ _ hne, Below.heap_setCell _ _ _ _ hne, Below.heap_setCell _ _ _ _ hne]
theorem put_any (v u : Value) (ns : List ByteArray) (zs : List Int) (hl : ns.length ≤ 1000) (hz : zs.length ≤ maxLen) : ∀ (N : Nat) (e : E), e.ht ≤ N → K e ≤ 100000 → ∀ (w : World) (n0 : Nat) (op n : Int) (nm : ByteArray) (a : Option Addr) (len cap : Nat),
    RdE w (PF n0 w) e (.agg #[.int .i64 op, .int .i64 n, .string nm, .slice a len cap]) → StrsAt w v ns → IntsAt w u zs →
      Calls Try.prog 20 #[.agg #[.int .i64 op, .int .i64 n, .string nm, .slice a len cap], v, u] w (PostPut (env ns zs) e w)
  | 0, .mk _ _ _ _, h, _ => by simp [E.ht] at h
  | N + 1, .mk eo en em l, h, hK => by
    intro w n0 op n nm a len cap hr hv hu
    have hr2 := hr
    obtain ⟨a', cap', heq, _⟩ := hr
    injection heq with heq
    simp at heq
    obtain ⟨rfl, rfl, rfl, rfl, rfl, rfl⟩ := heq
    by_cases hop : op = 2 ∧ l.length = 0
    · obtain ⟨rfl, h0⟩ := hop
      have hl0 : l = [] := List.eq_nil_of_length_eq_zero h0
      subst hl0
      exact putName_any w n nm a cap v u ns zs hv hu hl hz
    · have hKL : KL l ≤ 100000 := by simp only [K] at hK; omega
      refine putList_any w n0 op n nm a cap l v u _ ns zs hr2 hv hu hop (Nat.le_trans (KL_len l) hKL) (fun k hk W m0 op' n' nm' a' len' cap' hr' hv' hu' => ?_)
      exact put_any v u ns zs hl hz N l[k] (by have := ht_get l k hk; simp only [E.ht] at h; omega) (Nat.le_trans (KL_get l k hk) hKL) W m0 op' n' nm' a' len' cap' hr' hv' hu'
end Go.Proofs.Ytiemibngfckgdaa
