/-
  Package compile: the builder in memory; add, next, free.
  Package compile: names of locals and variables, expressions.
  Package compile: expressions.
  Package compile: assignments.
  Package compile: the test of a statement; blocks, loops.
  Package compile: a jump's target; the site; loops.
-/
import Derived.Test.YtncflfadgcaldaaGreatDoorCkQ
import Derived.WalkSmall
import Derived.Deep.AppendLies
import Derived.Laws.OwnMore
import Derived.Test.YtncflfadgcaldaaGreatDoorPstR
import Derived.Test.YtncflfadgcaldaaGreatDoorFoS
import Derived.Deep.RegionHeld3
namespace Go.Proofs.YtncflfadgcaldaaGreatDoor
open Go.RowKit
open Par Tok

namespace Cp
/-- An instruction. -/
structure Ins where
  op : Int
  a : Int
  b : Int
  c : Int
  n : Int
  site : Int
def Ins.cells (i : Ins) : List Value := [.int .i64 i.op, .int .i64 i.a, .int .i64 i.b, .int .i64 i.c, .int .i64 i.n, .int .i64 i.site]
theorem cells_len : ∀ l : List Ins, (l.flatMap Ins.cells).length = l.length * 6
  | [] => rfl
  | x :: r => by
    rw [List.flatMap_cons, List.length_append, cells_len r]
    simp only [Ins.cells, List.length_cons, List.length_nil]
    omega
/-- A builder: its world, its locals, its site, how many sites there are, its code. -/
structure BdAt (W0 : World) (G : Nat) (vw : Nat → Value) (vl : Value) (site sites : Int) (code : List Ins) (vi : Value) (w : World) : Prop where
  cw : ∀ j, j < 6 → w.cell? ⟨G, j, none⟩ = some (vw j)
  c6 : w.cell? ⟨G, 6, none⟩ = some vl
  c7 : w.cell? ⟨G, 7, none⟩ = some (.int .i64 site)
  c8 : w.cell? ⟨G, 8, none⟩ = some (.int .i64 sites)
  c9 : w.cell? ⟨G, 9, none⟩ = some vi
  fz : ∀ j, w.frozen? ⟨G, j, none⟩ = false
  hG : W0.heap.size ≤ G
  up : ∀ g, vi.ownBlock = some g → G < g
  row : w.ownsRow W0.heap.size 42 6 vi code.length (code.flatMap Ins.cells)
  bel : Below W0.heap.size W0 w
section
variable {W0 w w' : World} {G : Nat} {vw : Nat → Value} {vl vi : Value} {site sites : Int} {code : List Ins}
theorem BdAt.lt (h : BdAt W0 G vw vl site sites code vi w) : G < w.heap.size := block_lt_of_cell h.c6
theorem BdAt.below (h : BdAt W0 G vw vl site sites code vi w) (b : Below w.heap.size w w') : BdAt W0 G vw vl site sites code vi w' := by
  have cl : ∀ j, w'.cell? ⟨G, j, none⟩ = w.cell? ⟨G, j, none⟩ := fun j => b.cell (p := ⟨G, j, none⟩) h.lt
  exact ⟨fun j hj => (cl j).trans (h.cw j hj), (cl 6).trans h.c6, (cl 7).trans h.c7, (cl 8).trans h.c8, (cl 9).trans h.c9, fun j => (b.frozen (p := ⟨G, j, none⟩) h.lt).trans (h.fz j), h.hG, h.up,
    Ck.ownsRow_of_blocks h.row (fun g _ hg => b.block g hg), h.bel.trans (b.mono h.bel.size)⟩
/-- The code is one instruction longer. -/
theorem BdAt.push (h : BdAt W0 G vw vl site sites code vi w) {i : Ins} {g cap : Nat} {w2 w3 : World} (b : Below w.heap.size w w2) (hown : w3.ownsRow (G + 1) 42 6 (.slice (some ⟨g, 0, none⟩) (code.length + 1) cap) (code.length + 1) (code.flatMap Ins.cells ++ i.cells)) (hgrow : w2.grownBy w3 vi.ownBlock) :
    BdAt W0 G vw vl site sites (code ++ [i]) (.slice (some ⟨g, 0, none⟩) (code.length + 1) cap) (w3.setCell ⟨G, 9, none⟩ (.slice (some ⟨g, 0, none⟩) (code.length + 1) cap)) := by
  have h2 := h.below b
  have hG2 := h2.lt
  have gG : vi.ownBlock ≠ some G := fun e => by have := h.up G e; omega
  have blkG : w3.heap[G]? = w2.heap[G]? := hgrow.block G hG2 (fun e => gG e.symm)
  have cl : ∀ j, w3.cell? ⟨G, j, none⟩ = w2.cell? ⟨G, j, none⟩ := fun j => World.cell?_of_block (a := ⟨G, j, none⟩) blkG
  have fl : ∀ j, w3.frozen? ⟨G, j, none⟩ = w2.frozen? ⟨G, j, none⟩ := fun j => World.frozen?_of_block (a := ⟨G, j, none⟩) blkG
  have hg : G < g := by have := (hown.lt g rfl).1; omega
  have keep : ∀ (u : Value) j, j ≠ 9 → (w3.setCell ⟨G, 9, none⟩ u).cell? ⟨G, j, none⟩ = w2.cell? ⟨G, j, none⟩ := fun u j hj => (World.cell?_setCell_other _ _ _ _ (fun e => hj (by injection e with _ e _; exact e.symm))).trans (cl j)
  refine ⟨fun j hj => (keep _ j (by omega)).trans (h2.cw j hj), (keep _ 6 (by decide)).trans h2.c6, (keep _ 7 (by decide)).trans h2.c7, (keep _ 8 (by decide)).trans h2.c8, World.cell?_setCell_same _ _ _ ((cl 9).trans h2.c9), fun j => ?_, h.hG, fun k hk => by have : k = g := (Option.some.inj hk).symm; omega, ?_, ?_⟩
  · rw [World.frozen?_setCell, fl j]
    exact h2.fz j
  · refine Ck.ownsRow_of_blocks (w := w3) ?_ (fun k hk _ => Below.heap_setCell _ _ _ _ (by have : k = g := (Option.some.inj hk).symm; intro e; simp at e; omega))
    have e1 : (code ++ [i]).length = code.length + 1 := by simp
    rw [e1, List.flatMap_append]
    have hr : List.flatMap Ins.cells [i] = i.cells := by simp
    rw [hr]
    refine ⟨hown.1, ?_⟩
    rcases hown.2 with hn | ⟨g', cap', cur, hv, hg', rest⟩
    · exact .inl hn
    · exact .inr ⟨g', cap', cur, hv, by have := h.hG; omega, rest⟩
  · refine Below.setCell ?_ h.hG _
    exact h2.bel.grown hgrow h2.bel.size (fun k hk => by have := h.up k hk; have := h.hG; omega)
theorem BdAt.far (h : BdAt W0 G vw vl site sites code vi w) {w2 w3 : World} (b : Below w.heap.size w w2) (hgrow : w2.grownBy w3 vi.ownBlock) : w3.cell? ⟨G, 9, none⟩ = some vi ∧ w3.frozen? ⟨G, 9, none⟩ = false := by
  have h2 := h.below b
  have gG : vi.ownBlock ≠ some G := fun e => by have := h.up G e; omega
  have blkG : w3.heap[G]? = w2.heap[G]? := hgrow.block G h2.lt (fun e => gG e.symm)
  exact ⟨(World.cell?_of_block (a := ⟨G, 9, none⟩) blkG).trans h2.c9, (World.frozen?_of_block (a := ⟨G, 9, none⟩) blkG).trans (h2.fz 9)⟩
end
/-- What a builder's method leaves as it was: all but the builder's block and the block of its code. -/
structure Far (G : Nat) (vi vi' : Value) (w w' : World) : Prop where
  size : w.heap.size ≤ w'.heap.size
  block : ∀ g, g < w.heap.size → g ≠ G → vi.ownBlock ≠ some g → w'.heap[g]? = w.heap[g]?
  own : ∀ g, vi'.ownBlock = some g → vi.ownBlock = some g ∨ w.heap.size ≤ g
theorem Far.trans {G : Nat} {v v' v'' : Value} {w w' w'' : World} (h : Far G v v' w w') (k : Far G v' v'' w' w'') : Far G v v'' w w'' :=
  ⟨Nat.le_trans h.size k.size, fun g hg hn ho => (k.block g (Nat.lt_of_lt_of_le hg h.size) hn (fun e => by rcases h.own g e with e | e; exact ho e; omega)).trans (h.block g hg hn ho),
    fun g hg => by rcases k.own g hg with e | e; exact h.own g e; exact .inr (Nat.le_trans h.size e)⟩
theorem Far.of_below {G : Nat} {v : Value} {w w' : World} (b : Below w.heap.size w w') : Far G v v w w' := ⟨b.size, fun g hg _ _ => b.block g hg, fun _ h => .inl h⟩
theorem Far.cell {G : Nat} {v v' : Value} {w w' : World} (h : Far G v v' w w') {B : Nat} (hB : B < w.heap.size) (hG : B ≠ G) (ho : v.ownBlock ≠ some B) (j : Nat) : w'.cell? ⟨B, j, none⟩ = w.cell? ⟨B, j, none⟩ :=
  World.cell?_of_block (a := ⟨B, j, none⟩) (h.block B hB hG ho)
/-- What a builder's method leaves: its answer, a longer code. -/
def BdP (W0 : World) (G : Nat) (vw : Nat → Value) (vl : Value) (site sites : Int) (code : List Ins) (vi : Value) (w : World) (v : Value) (x : Ending) (w' : World) : Prop :=
  x = .returned v ∧ ∃ vi', BdAt W0 G vw vl site sites code vi' w' ∧ Far G vi vi' w w'
theorem BdAt.plain {W0 w : World} {G : Nat} {vw : Nat → Value} {vl vi : Value} {site sites : Int} {code : List Ins} (h : BdAt W0 G vw vl site sites code vi w) : ∀ B, w.heap.size ≤ B → vi.ownBlock ≠ some B := fun B hB e => by have := (h.row.lt B e).2; omega
end Cp

set_option maxHeartbeats 4000000 in
set_option maxRecDepth 100000 in
theorem next_any (W0 w : World) (G : Nat) (vw : Nat → Value) (vl vi : Value) (site sites : Int) (code : List Cp.Ins) (h : Cp.BdAt W0 G vw vl site sites code vi w) :
    Calls Tryz.prog 53 #[.pointer (some ⟨G, 0, none⟩)] w fun x w' => x = .returned (.int .i64 (code.length : Nat)) ∧ w' = w := by
  have c9 := h.c9
  obtain ⟨A, cap, rfl⟩ : ∃ A cap, vi = .slice A code.length cap := by
    rcases h.row.2 with ⟨rfl, h0⟩ | ⟨g, cap, cur, rfl, _⟩
    · exact ⟨none, 0, by rw [h0]⟩
    · exact ⟨_, cap, rfl⟩
  obtain ⟨n, hn⟩ : ∃ n, n = code.length := ⟨_, rfl⟩
  rw [← hn] at c9 ⊢
  clear h hn
  go_enter Tryz.func53, Tryz.ntmps53
  go_wp2_with fail
  go_ret
  exact ⟨rfl, rfl⟩

theorem Tryz.infoInstr : (Tryz.prog.info? 42).map (fun i => (i.zero, i.size, i.bytes)) = some (some (.agg #[.int .i64 0, .int .i64 0, .int .i64 0, .int .i64 0, .int .i64 0, .int .i64 0]), 6, 48) := by kernel_rfl

set_option maxHeartbeats 4000000 in
set_option maxRecDepth 100000 in
theorem add_any (W0 w : World) (G : Nat) (vw : Nat → Value) (vl vi : Value) (site sites op a b c n s0 : Int) (code : List Cp.Ins) (h : Cp.BdAt W0 G vw vl site sites code vi w) (hl : code.length ≤ 1000000) :
    Calls Tryz.prog 27 #[.pointer (some ⟨G, 0, none⟩), .agg #[.int .i64 op, .int .i64 a, .int .i64 b, .int .i64 c, .int .i64 n, .int .i64 s0]] w (Cp.BdP W0 G vw vl site sites (code ++ [⟨op, a, b, c, n, site⟩]) vi w (.int .i64 (code.length : Nat))) := by
  have c7 := h.c7
  have c9 := h.c9
  have hGl := h.lt
  obtain ⟨i0, hi, hz0, hz1, hz2⟩ := info_parts Tryz.infoInstr
  have H := Lib.hid h
  have hrow : w.ownsRow (G + 1) 42 6 vi code.length (code.flatMap Cp.Ins.cells) := by
    refine ⟨h.row.1, ?_⟩
    rcases h.row.2 with hn | ⟨g, cap, cur, rfl, hg, rest⟩
    · exact .inl hn
    · exact .inr ⟨g, cap, cur, rfl, by have := h.up g rfl; omega, rest⟩
  have f9 := h.fz 9
  have CN := Lib.hid (fun W vi code h => next_any W0 W G vw vl vi site sites code h)
  obtain ⟨k, hk⟩ : ∃ k, k = code.length := ⟨_, rfl⟩
  have HK := Lib.hid hk
  rw [← hk] at hrow hl ⊢
  obtain ⟨xs, hxs⟩ : ∃ xs, xs = code.flatMap Cp.Ins.cells := ⟨_, rfl⟩
  have HX := Lib.hid hxs
  rw [← hxs] at hrow
  clear h hk hxs
  go_enter Tryz.func27, Tryz.ntmps27
  go_wp2_with fail
  obtain ⟨wx, hwx⟩ : ∃ wx, wx = w.alloc (.cells #[.int .i64 op, .int .i64 a, .int .i64 b, .int .i64 c, .int .i64 n, .int .i64 site] 42) := ⟨_, rfl⟩
  have hbx : Below w.heap.size w wx := by rw [hwx]; exact (Below.refl _ w).alloc (Nat.le_refl _) _
  have e9 : wx.cell? ⟨G, 9, none⟩ = some vi := (hbx.cell (p := ⟨G, 9, none⟩) hGl).trans c9
  have x9 : wx.frozen? ⟨G, 9, none⟩ = false := (hbx.frozen (p := ⟨G, 9, none⟩) hGl).trans f9
  have b0 : wx.cell? ⟨w.heap.size, 0, none⟩ = some (.int .i64 op) := by rw [hwx]; simp
  have b1 : wx.cell? ⟨w.heap.size, 1, none⟩ = some (.int .i64 a) := by rw [hwx]; simp
  have b2 : wx.cell? ⟨w.heap.size, 2, none⟩ = some (.int .i64 b) := by rw [hwx]; simp
  have b3 : wx.cell? ⟨w.heap.size, 3, none⟩ = some (.int .i64 c) := by rw [hwx]; simp
  have b4 : wx.cell? ⟨w.heap.size, 4, none⟩ = some (.int .i64 n) := by rw [hwx]; simp
  have b5 : wx.cell? ⟨w.heap.size, 5, none⟩ = some (.int .i64 site) := by rw [hwx]; simp
  have HZX := Lib.hid (show wx.heap.size = w.heap.size + 1 by rw [hwx]; simp)
  have hown : wx.ownsRow (G + 1) 42 6 vi k xs := by rw [hwx]; exact hrow.alloc _
  rw [← hwx]
  have HBX := Lib.hid hbx
  have hGx : G < wx.heap.size := block_lt_of_cell e9
  clear hwx hrow c7 c9 f9 hbx
  go_region_law
    (first
      | (refine step_append_lies _ (by rfl) _ _ _ (by rfl) (G + 1) 42 i0 _ 6 48 Tryz.underlying43 hi hz0 hz1 hz2 rfl (by omega) vi k xs (by rfl) (World.ownsRow.alloc (by first | exact hown | exact hown.drew) _) ⟨wx.heap.size, 0, none⟩ 1 1 [.int .i64 op, .int .i64 a, .int .i64 b, .int .i64 c, .int .i64 n, .int .i64 site] (by rfl) (by rfl) (cells_new _ _ _) (by simp [Value.oneCell']) (by omega) (by unfold maxLen; omega) (by omega) (by simp; omega) (wx.heap.size + 1) (by simp) ?_; intro gg cap w6 hown6 hgrow6 hat6 hlt6; obtain ⟨j9, k9⟩ := H.out.far (by first | exact HBX.out.alloc HBX.out.size _ | exact HBX.out.drew.alloc HBX.out.size _) hgrow6; have hp := Lib.hid (H.out.push (i := ⟨op, a, b, c, n, site⟩) (by first | exact HBX.out.alloc HBX.out.size _ | exact HBX.out.drew.alloc HBX.out.size _) (by rw [← HK.out, ← HX.out]; exact hown6) hgrow6)))
  all_goals
    have hnx := Lib.hid (CN.out _ _ _ hp.out)
    rw [List.length_append, List.length_singleton, ← HK.out] at hnx
    have hw1 : IntKind.i64.wrap ((k : Int) + 1 - 1) = (k : Int) := by rw [Int.add_sub_cancel]; exact IntWalk.i64_in _ (by omega)
    have hfar : Cp.Far G vi (.slice (some ⟨gg, 0, none⟩) (k + 1) cap) w (w6.setCell ⟨G, 9, none⟩ (.slice (some ⟨gg, 0, none⟩) (k + 1) cap)) := by
      have hz := HZX.out
      have hs := hgrow6.size
      simp at hs
      refine ⟨by simp only [World.setCell]; simp; omega, fun g hg hn ho => ?_, fun g hg => ?_⟩
      · rw [Below.heap_setCell _ _ _ _ (by simpa using hn), hgrow6.block g (by simp; omega) (fun e => ho e.symm)]
        exact (Below.heap_alloc _ _ _ (by omega)).trans (HBX.out.block g hg)
      · have e : g = gg := (Option.some.inj hg).symm
        subst e
        rcases hat6 with h | h
        · exact .inl h
        · exact .inr (by omega)
    have HFAR := Lib.hid hfar
    clear hgrow6 hown6 hat6 hlt6 hfar
    go_wp2_with (go_at_call 53; refine hnx.out.mono ?_; rintro x w7 ⟨rfl, rfl⟩)
    go_ret
    exact ⟨rfl, _, by have hq := hp.out; rw [← HK.out] at hq; exact hq, HFAR.out⟩
end Go.Proofs.YtncflfadgcaldaaGreatDoor

namespace Go.Proofs.YtncflfadgcaldaaGreatDoor
open Go.RowKit
open Par Tok

namespace Cp
/-- A memory cell of a program. -/
structure Cl where
  name : Bs
  index : Nat
  size : Nat
  vol : Bool
  init : Int
def CsAt (w : World) (v : Value) (cs : List Cl) : Prop := ∃ A cap, v = .slice A cs.length cap ∧ cs.length ≤ cap ∧ ∀ k (h : k < cs.length), ∃ g, A = some ⟨g, 0, none⟩ ∧ g < w.heap.size ∧ w.cell? ⟨g, k * 5, none⟩ = some (.string ⟨cs[k].name.toArray⟩) ∧ w.cell? ⟨g, k * 5 + 1, none⟩ = some (.int .i64 cs[k].index) ∧
  w.cell? ⟨g, k * 5 + 2, none⟩ = some (.int .i64 cs[k].size) ∧ w.cell? ⟨g, k * 5 + 3, none⟩ = some (.bool cs[k].vol) ∧ w.cell? ⟨g, k * 5 + 4, none⟩ = some (.int .i64 cs[k].init)
theorem CsAt.below {w w' : World} {v : Value} {cs : List Cl} (h : CsAt w v cs) (b : Below w.heap.size w w') : CsAt w' v cs := by
  obtain ⟨A, cap, hv, hcp, hc⟩ := h
  refine ⟨A, cap, hv, hcp, fun k hk => ?_⟩
  obtain ⟨g, ha, hg, h0, h1, h2, h3, h4⟩ := hc k hk
  exact ⟨g, ha, Nat.lt_of_lt_of_le hg b.size, (b.cell (p := ⟨g, k * 5, none⟩) hg).trans h0, (b.cell (p := ⟨g, k * 5 + 1, none⟩) hg).trans h1, (b.cell (p := ⟨g, k * 5 + 2, none⟩) hg).trans h2, (b.cell (p := ⟨g, k * 5 + 3, none⟩) hg).trans h3, (b.cell (p := ⟨g, k * 5 + 4, none⟩) hg).trans h4⟩
def idxS (ls : List Bs) (nm : Bs) : Int := Ck.idx (fun y => nm == y) ls 0
def idxC (cs : List Cl) (nm : Bs) : Int := Ck.idx (fun c => c.name == nm) cs 0
end Cp

set_option maxHeartbeats 1000000 in
set_option maxRecDepth 100000 in
theorem cellClo_any (w : World) (i z y : Int) (b : Bool) (n s : ByteArray) (B : Nat) (hB : w.cell? ⟨B, 0, none⟩ = some (.string s)) (r : Bool) (hr : (n.toList == s.toList) = r) :
    Calls Tryz.prog 144 #[.agg #[.string n, .int .i64 i, .int .i64 z, .bool b, .int .i64 y], .pointer (some ⟨B, 0, none⟩)] w fun e w' => e = .returned (.bool r) ∧ Below w.heap.size w w' := by
  have hB2 : ∀ ob : Obj, (w.alloc ob).cell? ⟨B, 0, none⟩ = some (.string s) := fun ob => (((Below.refl w.heap.size w).alloc (Nat.le_refl _) ob).cell (p := ⟨B, 0, none⟩) (block_lt_of_cell hB)).trans hB
  cases r
  all_goals
    go_enter Tryz.func144, Tryz.ntmps144
    go_wp2_with fail
    go_ret
    exact ⟨rfl, (Below.refl _ _).alloc (Nat.le_refl _) _⟩

set_option maxHeartbeats 2000000 in
set_option maxRecDepth 100000 in
theorem idxFuncC_any (w : World) (v : Value) (cs : List Cp.Cl) (B : Nat) (s : ByteArray) (hv : Cp.CsAt w v cs) (hB : w.cell? ⟨B, 0, none⟩ = some (.string s)) (hl : cs.length ≤ 100000) :
    Calls Tryz.prog 143 #[v, .func (.func 144) #[] #[.pointer (some ⟨B, 0, none⟩)]] w fun x w' => x = .returned (.int .i64 (Cp.idxC cs s.data.toList)) ∧ Below w.heap.size w w' := by
  obtain ⟨A, cap, rfl, hcp, hc⟩ := hv
  have HC := Lib.hid hc
  have HBB := Lib.hid hB
  have hBl : B < w.heap.size := block_lt_of_cell hB
  obtain ⟨n, hn⟩ : ∃ n, n = cs.length := ⟨_, rfl⟩
  have HN := Lib.hid hn
  rw [← hn] at hl ⊢
  clear hc hn hB
  go_enter Tryz.func143, Tryz.ntmps143
  go_wp2_with fail
  go_loopw [8] (fun i wr => ∃ k : Nat, k ≤ n ∧ i = .int .i64 k ∧ Below w.heap.size w wr ∧ ∀ j (h : j < cs.length), j < k → (cs[j].name == s.data.toList) = false) (fun i _ => n - (intOf i).toNat)
  case atStart => exact ⟨0, by omega, by first | rfl | trivial, Below.refl _ _, fun j _ h => absurd h (by omega)⟩
  case round =>
    obtain ⟨k, hk, rfl, hbel, hne⟩ := hrel
    have HB := Lib.hid hbel
    have HNE := Lib.hid hne
    by_cases hkn : k < n
    · have hkd : k < cs.length := by rw [← HN.out]; exact hkn
      have hkni : (k : Int) < (n : Int) := by omega
      obtain ⟨g, rfl, hg, q0, q1, q2, q3, q4⟩ := HC.out k hkd
      have e0 := (hbel.cell (p := ⟨g, k * 5, none⟩) hg).trans q0
      have e1 := (hbel.cell (p := ⟨g, k * 5 + 1, none⟩) hg).trans q1
      have e2 := (hbel.cell (p := ⟨g, k * 5 + 2, none⟩) hg).trans q2
      have e3 := (hbel.cell (p := ⟨g, k * 5 + 3, none⟩) hg).trans q3
      have e4 := (hbel.cell (p := ⟨g, k * 5 + 4, none⟩) hg).trans q4
      clear q0 q1 q2 q3 q4
      obtain ⟨r, hr⟩ : ∃ r, r = (cs[k].name == s.data.toList) := ⟨_, rfl⟩
      obtain ⟨x, hx⟩ : ∃ x : ByteArray, x = ⟨cs[k].name.toArray⟩ := ⟨_, rfl⟩
      have hcmp : (x.toList == s.toList) = r := by
        cases hh : r with
        | true => exact Ck.str_yes (by rw [hx]) rfl (hr.symm.trans hh)
        | false => exact Ck.str_no (by rw [hx]) rfl (hr.symm.trans hh)
      have HR := Lib.hid hr
      rw [← hx] at e0
      have CC := Lib.hid (cellClo_any wr cs[k].index cs[k].size cs[k].init cs[k].vol x s B ((hbel.cell (p := ⟨B, 0, none⟩) hBl).trans HBB.out) r hcmp)
      clear hx
      cases r
      · have HNE2 : Hid (∀ j (h : j < cs.length), j < k + 1 → (cs[j].name == s.data.toList) = false) := Lib.hid (fun j h hj => by
          by_cases e : j = k
          · subst e
            exact hr.symm
          · exact hne j h (by omega))
        clear hbel hne hr hcmp
        go_wp2_with (go_at_call 144; refine CC.out.mono ?_; rintro e w2 ⟨rfl, hb2⟩)
        go_roundw
        case rel => exact ⟨k + 1, by omega, by go_num, HB.out.trans (hb2.mono HB.out.size), HNE2.out⟩
        case measure => simp [intOf]; omega
      · have HI := Lib.hid (show Cp.idxC cs s.data.toList = (k : Int) by
          unfold Cp.idxC
          rw [Ck.idx_hit cs 0 k hkd (fun i hi => hne i (by omega) hi) hr.symm]
          omega)
        clear hbel hne hr hcmp
        go_wp2_with (go_at_call 144; refine CC.out.mono ?_; rintro e w2 ⟨rfl, hb2⟩)
        go_ret
        exact ⟨by rw [HI.out]; rfl, HB.out.trans (hb2.mono HB.out.size)⟩
    · have hke : k = n := by omega
      subst hke
      have HI := Lib.hid (show Cp.idxC cs s.data.toList = -1 by
        unfold Cp.idxC
        refine Ck.idx_none cs 0 (fun d hd => ?_)
        obtain ⟨j, hj, rfl⟩ := List.getElem_of_mem hd
        exact hne j hj (by rw [HN.out]; exact hj))
      clear hbel hne
      go_wp2_with fail
      go_ret
      exact ⟨by rw [HI.out]; rfl, HB.out⟩

section
variable (W0 w : World) (G : Nat) (vw : Nat → Value) (vl vi : Value) (site sites : Int) (code : List Cp.Ins) (h : Cp.BdAt W0 G vw vl site sites code vi w)
include h

set_option maxHeartbeats 1000000 in
set_option maxRecDepth 100000 in
theorem cell_any (cs : List Cp.Cl) (hc : Cp.CsAt W0 (vw 0) cs) (hl : cs.length ≤ 100000) (s : ByteArray) :
    Calls Tryz.prog 110 #[.pointer (some ⟨G, 0, none⟩), .string s] w fun x w' => x = .returned (.int .i64 (Cp.idxC cs s.data.toList)) ∧ Below w.heap.size w w' := by
  have hmf : ∀ (fn : Fn) (first cap : Array Value) (w : World), (Instr.makeFunc fn first cap).run Tryz.prog w = .ok (.func fn first cap) w := fun _ _ _ _ => rfl
  have hal := (Below.refl w.heap.size w).alloc (Nat.le_refl _) (.cells #[.string s] 9)
  have C := Lib.hid (idxFuncC_any _ (vw 0) cs w.heap.size s (hc.below (h.bel.trans (hal.mono h.bel.size))) (show (w.alloc (.cells #[.string s] 9)).cell? ⟨w.heap.size, 0, none⟩ = some (.string s) by simp) hl)
  have HA := Lib.hid hal
  have c0 := (h.below hal).cw 0 (by omega)
  clear hc hal h
  go_enter Tryz.func110, Tryz.ntmps110
  go_wp2_with (go_at_call 143; refine C.out.mono ?_; rintro e w2 ⟨rfl, hb2⟩)
  go_ret
  exact ⟨rfl, HA.out.trans (hb2.mono (by simp))⟩

set_option maxHeartbeats 1000000 in
set_option maxRecDepth 100000 in
theorem local_any (ls : List Bs) (hn : Ck.NsAt W0 vl ls) (hl : ls.length ≤ 100000) (s : ByteArray) :
    Calls Tryz.prog 111 #[.pointer (some ⟨G, 0, none⟩), .string s] w fun x w' => x = .returned (.int .i64 (Cp.idxS ls s.data.toList)) ∧ Below w.heap.size w w' := by
  have C := Lib.hid (Ck.indexS_any w vl ls s (hn.below h.bel) hl)
  have c6 := h.c6
  clear hn h
  go_enter Tryz.func111, Tryz.ntmps111
  go_wp2_with (go_at_call 80; refine C.out.mono ?_; rintro e w2 ⟨rfl, hb2⟩)
  go_ret
  exact ⟨rfl, hb2⟩

set_option maxHeartbeats 1000000 in
set_option maxRecDepth 100000 in
theorem free_any (ls : List Bs) (hn : Ck.NsAt W0 vl ls) :
    Calls Tryz.prog 108 #[.pointer (some ⟨G, 0, none⟩)] w fun x w' => x = .returned (.int .i64 (ls.length : Nat)) ∧ w' = w := by
  obtain ⟨A, cap, rfl, _⟩ := hn
  obtain ⟨n, hn⟩ : ∃ n, n = ls.length := ⟨_, rfl⟩
  rw [← hn] at h ⊢
  have c6 := h.c6
  clear hn h
  go_enter Tryz.func108, Tryz.ntmps108
  go_wp2_with fail
  go_ret
  exact ⟨rfl, rfl⟩
end
end Go.Proofs.YtncflfadgcaldaaGreatDoor

namespace Go.Proofs.YtncflfadgcaldaaGreatDoor
open Go.RowKit
open Par Tok

namespace Cp
/-- The instruction that reads a name. -/
def loadI (ls : List Bs) (cs : List Cl) (site : Int) (nm : Bs) (d : Nat) : Ins := if 0 ≤ idxS ls nm then ⟨2, d, idxS ls nm, 0, 0, site⟩ else ⟨6, d, idxC cs nm, 0, 0, site⟩
def sizeC (cs : List Cl) (i : Int) : Int := match cs[i.toNat]? with
  | some c => c.size
  | none => 0
/-- The instruction behind the operands. -/
def lastI (cs : List Cl) (site : Int) (op : Int) (nm : Bs) (d : Nat) : Ins :=
  if op = 3 then ⟨7, d, idxC cs nm, d, sizeC cs (idxC cs nm), site⟩ else if op = 4 ∨ op = 5 then ⟨3, d, d, 0, op, site⟩ else ⟨4, d, d, (d : Int) + 1, op, site⟩
mutual
/-- The code of an expression. -/
def valE (ls : List Bs) (cs : List Cl) (site : Int) : E → Nat → List Ins
  | .mk op n nm l, d => if op = 1 then [⟨1, d, 0, 0, n, site⟩] else if op = 2 then [loadI ls cs site nm.data.toList d] else valL ls cs site l d ++ [lastI cs site op nm.data.toList d]
def valL (ls : List Bs) (cs : List Cl) (site : Int) : List E → Nat → List Ins
  | [], _ => []
  | x :: r, d => valE ls cs site x d ++ valL ls cs site r (d + 1)
end
mutual
/-- Arrays are declared. -/
def vok (cs : List Cl) : E → Bool
  | .mk op _ nm l => (if op = 3 then decide (0 ≤ idxC cs nm.data.toList) else true) && vokL cs l
def vokL (cs : List Cl) : List E → Bool
  | [] => true
  | x :: r => vok cs x && vokL cs r
end
mutual
theorem valE_len (ls : List Bs) (cs : List Cl) (site : Int) : ∀ (e : E) (d : Nat), (valE ls cs site e d).length ≤ e.sz
  | .mk op n nm l, d => by
    simp only [valE, E.sz]
    split
    · simp
    · split
      · simp
      · have := valL_len ls cs site l d
        simp only [List.length_append, List.length_singleton]
        omega
theorem valL_len (ls : List Bs) (cs : List Cl) (site : Int) : ∀ (l : List E) (d : Nat), (valL ls cs site l d).length ≤ szL l
  | [], _ => Nat.le_refl _
  | x :: r, d => by
    have h1 := valE_len ls cs site x d
    have h2 := valL_len ls cs site r (d + 1)
    simp only [valL, szL, List.length_append]
    omega
end
end Cp

section
variable (W0 : World) (G : Nat) (vw : Nat → Value) (vl : Value) (site sites : Int) (ls : List Bs) (cs : List Cp.Cl) (hn : Ck.NsAt W0 vl ls) (hll : ls.length ≤ 100000) (hc : Cp.CsAt W0 (vw 0) cs) (hcl : cs.length ≤ 100000)
include hn hll hc hcl

set_option maxHeartbeats 2000000 in
set_option maxRecDepth 100000 in
theorem load_any (w : World) (vi : Value) (code : List Cp.Ins) (h : Cp.BdAt W0 G vw vl site sites code vi w) (hl : code.length ≤ 1000000) (nm : ByteArray) (d : Nat) :
    Calls Tryz.prog 142 #[.pointer (some ⟨G, 0, none⟩), .string nm, .int .i64 d] w (Cp.BdP W0 G vw vl site sites (code ++ [Cp.loadI ls cs site nm.data.toList d]) vi w (.tuple #[])) := by
  have C1 := Lib.hid (local_any W0 w G vw vl vi site sites code h ls hn hll nm)
  obtain ⟨i, hi⟩ : ∃ i, Cp.idxS ls nm.data.toList = i := ⟨_, rfl⟩
  rw [hi] at C1
  have H := Lib.hid h
  by_cases h0 : 0 ≤ i
  · have HI := Lib.hid (show Cp.loadI ls cs site nm.data.toList d = ⟨2, d, i, 0, 0, site⟩ by unfold Cp.loadI; rw [hi, if_pos h0])
    rw [HI.out]
    have CA := Lib.hid (fun W hb => add_any W0 W G vw vl vi site sites 2 d i 0 0 0 code (H.out.below hb) hl)
    clear h hi hn hc hcl hll hl
    go_enter Tryz.func142, Tryz.ntmps142
    go_wp2_with (first
      | (go_at_call 111; refine C1.out.mono ?_; rintro e w1 ⟨rfl, hb1⟩)
      | (go_at_call 27; (with_reducible refine (CA.out _ hb1).mono ?_); rintro e w2 ⟨rfl, vi2, hB2, hF2⟩; have HB2 := Lib.hid hB2; clear hB2))
    refine bodyPost_ret (v := .tuple #[]) (by simp [results, Tryz.results142, go_sem]) rfl ⟨rfl, vi2, HB2.out, (Cp.Far.of_below hb1).trans hF2⟩
  · obtain ⟨j, hj⟩ : ∃ j, Cp.idxC cs nm.data.toList = j := ⟨_, rfl⟩
    have HI := Lib.hid (show Cp.loadI ls cs site nm.data.toList d = ⟨6, d, j, 0, 0, site⟩ by unfold Cp.loadI; rw [hi, if_neg h0, hj])
    rw [HI.out]
    have C2 := Lib.hid (fun W hb => cell_any W0 W G vw vl vi site sites code (H.out.below hb) cs hc hcl nm)
    rw [hj] at C2
    have CA := Lib.hid (fun W hb => add_any W0 W G vw vl vi site sites 6 d j 0 0 0 code (H.out.below hb) hl)
    clear h hi hj hn hc hcl hll hl
    go_enter Tryz.func142, Tryz.ntmps142
    go_wp2_with (first
      | (go_at_call 111; refine C1.out.mono ?_; rintro e w1 ⟨rfl, hb1⟩)
      | (go_at_call 110; (with_reducible refine (C2.out _ hb1).mono ?_); rintro e w2 ⟨rfl, hb2⟩; have hb3 := hb1.trans (hb2.mono hb1.size))
      | (go_at_call 27; (with_reducible refine (CA.out _ hb3).mono ?_); rintro e w4 ⟨rfl, vi2, hB2, hF2⟩; have HB2 := Lib.hid hB2; clear hB2))
    refine bodyPost_ret (v := .tuple #[]) (by simp [results, Tryz.results142, go_sem]) rfl ⟨rfl, vi2, HB2.out, (Cp.Far.of_below hb3).trans hF2⟩

/-- The contract of value at an expression. -/
def ValC (S : Nat → Prop) (e : E) : Prop := ∀ (w : World) (code : List Cp.Ins) (vi : Value) (d : Nat) (v : Value), code.length + e.sz ≤ 1000000 → d + e.sz ≤ 1000000 → Cp.BdAt W0 G vw vl site sites code vi w → RdE W0 S e v →
  Calls Tryz.prog 109 #[.pointer (some ⟨G, 0, none⟩), v, .int .i64 d] w (Cp.BdP W0 G vw vl site sites (code ++ Cp.valE ls cs site e d) vi w (.tuple #[]))

set_option maxHeartbeats 4000000 in
set_option maxRecDepth 100000 in
theorem value_leaf (S : Nat → Prop) (op n : Int) (nm : ByteArray) (l : List E) (ho : op = 1 ∨ op = 2) : ValC W0 G vw vl site sites ls cs S (.mk op n nm l) := by
  intro w code vi d v hcd hd h hv
  obtain ⟨A, cap, rfl, _⟩ := hv
  have hB : Below w.heap.size w (w.alloc (.cells #[.int .i64 op, .int .i64 n, .string nm, .slice A l.length cap] 81)) := (Below.refl _ w).alloc (Nat.le_refl _) _
  have HB := Lib.hid hB
  have H := Lib.hid h
  have hl : code.length ≤ 1000000 := by omega
  rcases ho with rfl | rfl
  · have HI := Lib.hid (show Cp.valE ls cs site (.mk 1 n nm l) d = [⟨1, d, 0, 0, n, site⟩] by simp only [Cp.valE, if_true])
    rw [HI.out]
    have CA := Lib.hid (fun W hb => add_any W0 W G vw vl vi site sites 1 d 0 0 n 0 code (H.out.below hb) hl)
    clear h hn hc hcl hll hl hB hcd
    go_enter Tryz.func109, Tryz.ntmps109
    go_wp2_with (go_at_call 27; (with_reducible refine (CA.out _ HB.out).mono ?_); rintro e w2 ⟨rfl, vi2, hB2, hF2⟩; have HB2 := Lib.hid hB2; clear hB2)
    refine bodyPost_ret (v := .tuple #[]) (by simp [results, Tryz.results109, go_sem]) rfl ⟨rfl, vi2, HB2.out, (Cp.Far.of_below HB.out).trans hF2⟩
  · have HI := Lib.hid (show Cp.valE ls cs site (.mk 2 n nm l) d = [Cp.loadI ls cs site nm.data.toList d] by simp only [Cp.valE, if_true]; rfl)
    rw [HI.out]
    have CA := Lib.hid (fun W hb => load_any W0 G vw vl site sites ls cs hn hll hc hcl W vi code (H.out.below hb) hl nm d)
    clear h hn hc hcl hll hl hB hcd
    go_enter Tryz.func109, Tryz.ntmps109
    go_wp2_with (go_at_call 142; (with_reducible refine (CA.out _ HB.out).mono ?_); rintro e w2 ⟨rfl, vi2, hB2, hF2⟩; have HB2 := Lib.hid hB2; clear hB2)
    refine bodyPost_ret (v := .tuple #[]) (by simp [results, Tryz.results109, go_sem]) rfl ⟨rfl, vi2, HB2.out, (Cp.Far.of_below HB.out).trans hF2⟩

omit hn hll hc hcl in
set_option maxHeartbeats 4000000 in
set_option maxRecDepth 100000 in
theorem value_two (S : Nat → Prop) (hS : ∀ k, S k → k < W0.heap.size) (op n : Int) (nm : ByteArray) (x y : E) (ho : 5 < op) (hx : ValC W0 G vw vl site sites ls cs S x) (hy : ValC W0 G vw vl site sites ls cs S y) : ValC W0 G vw vl site sites ls cs S (.mk op n nm [x, y]) := by
  intro w code vi d v hcd hd h hv
  obtain ⟨A, cap, rfl, hl⟩ := hv
  obtain ⟨g, rfl, hSg, hr⟩ := hl.resolve_left (by simp)
  obtain ⟨a0, a1, a2, a3, qa0, qa1, qa2, qa3, hax⟩ := rdL_at [x, y] 0 hr 0 (by simp)
  obtain ⟨b0, b1, b2, b3, qb0, qb1, qb2, qb3, hay⟩ := rdL_at [x, y] 0 hr 1 (by simp)
  have hg := hS g hSg
  simp only [E.sz, szL] at hcd hd
  have hlx := Cp.valE_len ls cs site x d
  have hly := Cp.valE_len ls cs site y (d + 1)
  have n1 : ¬ op = 1 := by omega
  have n2 : ¬ op = 2 := by omega
  have n3 : ¬ op = 3 := by omega
  have n4 : ¬ op = 4 := by omega
  have n5 : ¬ op = 5 := by omega
  obtain ⟨mx, hmx⟩ : ∃ m, m = Cp.valE ls cs site x d := ⟨_, rfl⟩
  obtain ⟨my, hmy⟩ : ∃ m, m = Cp.valE ls cs site y (d + 1) := ⟨_, rfl⟩
  have HI := Lib.hid (show code ++ Cp.valE ls cs site (.mk op n nm [x, y]) d = code ++ mx ++ my ++ [⟨4, d, d, (d : Int) + 1, op, site⟩] by
    simp only [Cp.valE, Cp.valL, if_neg n1, if_neg n2, Cp.lastI, if_neg n3]
    rw [if_neg (by omega), hmx, hmy]
    simp)
  rw [← hmx] at hlx
  rw [← hmy] at hly
  have HX := Lib.hid (fun W (hW : Cp.BdAt W0 G vw vl site sites code vi W) => hx W code vi d _ (by omega) (by omega) hW hax)
  have HY := Lib.hid (fun W vi (hW : Cp.BdAt W0 G vw vl site sites (code ++ mx) vi W) => hy W (code ++ mx) vi (d + 1) _ (by rw [List.length_append]; omega) (by omega) hW hay)
  rw [← hmx] at HX
  rw [← hmy, show ((d + 1 : Nat) : Int) = (d : Int) + 1 by omega] at HY
  have CA := Lib.hid (fun W vi (hW : Cp.BdAt W0 G vw vl site sites (code ++ mx ++ my) vi W) => add_any W0 W G vw vl vi site sites 4 d d ((d : Int) + 1) op 0 _ hW (by rw [List.length_append, List.length_append]; omega))
  rw [HI.out]
  obtain ⟨ax0, ax1, ax2, ax3, al, ac, rfl, rfl, rfl, rfl⟩ : ∃ (i1 i2 : Int) (s : ByteArray) (A : Option Addr) (l c : Nat), a0 = .int .i64 i1 ∧ a1 = .int .i64 i2 ∧ a2 = .string s ∧ a3 = .slice A l c := hax.shape
  obtain ⟨bx0, bx1, bx2, bx3, bl, bc, rfl, rfl, rfl, rfl⟩ : ∃ (i1 i2 : Int) (s : ByteArray) (A : Option Addr) (l c : Nat), b0 = .int .i64 i1 ∧ b1 = .int .i64 i2 ∧ b2 = .string s ∧ b3 = .slice A l c := hay.shape
  simp only [Nat.zero_mul, Nat.zero_add, Nat.one_mul] at qa0 qa1 qa2 qa3 qb0 qb1 qb2 qb3
  have QA : ∀ W, Below W0.heap.size W0 W → ∀ j, W.cell? ⟨g, j, none⟩ = W0.cell? ⟨g, j, none⟩ := fun W hb j => hb.cell (p := ⟨g, j, none⟩) hg
  have hbw : Below w.heap.size w (w.alloc (.cells #[.int .i64 op, .int .i64 n, .string nm, .slice (some ⟨g, 0, none⟩) 2 cap] 81)) := (Below.refl _ _).alloc (Nat.le_refl _) _
  have hB := h.below hbw
  have hGw := h.lt
  have x0 : (w.alloc (.cells #[.int .i64 op, .int .i64 n, .string nm, .slice (some ⟨g, 0, none⟩) 2 cap] 81)).cell? ⟨w.heap.size, 0, none⟩ = some (.int .i64 op) := by simp
  have x3 : (w.alloc (.cells #[.int .i64 op, .int .i64 n, .string nm, .slice (some ⟨g, 0, none⟩) 2 cap] 81)).cell? ⟨w.heap.size, 3, none⟩ = some (.slice (some ⟨g, 0, none⟩) 2 cap) := by simp
  have r0 := (QA w h.bel 0).trans qa0
  have r1 := (QA w h.bel 1).trans qa1
  have r2 := (QA w h.bel 2).trans qa2
  have r3 := (QA w h.bel 3).trans qa3
  have X0 := Lib.hid x0
  have X3 := Lib.hid x3
  have HBB := Lib.hid hB
  have hgw : g < w.heap.size := block_lt_of_cell r0
  have HOB : Hid (vi.ownBlock ≠ some w.heap.size) := Lib.hid (h.plain _ (Nat.le_refl _))
  have HOW : Hid (∀ k, vi.ownBlock = some k → k < w.heap.size) := Lib.hid (fun k hk => (h.row.lt k hk).2)
  have HBW := Lib.hid hbw
  have hdw : IntKind.i64.wrap ((d : Int) + 1) = (d : Int) + 1 := IntWalk.i64_in _ (by omega)
  have HQA := Lib.hid QA
  clear h hB hbw hmx hmy hx hy hax hay hr hcd hlx hly hl qa0 qa1 qa2 qa3 QA x0 x3
  go_enter Tryz.func109, Tryz.ntmps109
  go_wp2_with (first
    | (go_at_call 109; (with_reducible refine (HX.out _ HBB.out).mono ?_); rintro e w2 ⟨rfl, vi2, hB2, hF2⟩; have HB2 := Lib.hid hB2; have HF2 := Lib.hid hF2; have y0 := (hF2.cell (B := w.heap.size) (by simp) (by omega) HOB.out 0).trans X0.out; have y3 := (hF2.cell (B := w.heap.size) (by simp) (by omega) HOB.out 3).trans X3.out; have s0 := (HQA.out w2 hB2.bel 4).trans qb0; have s1 := (HQA.out w2 hB2.bel _).trans qb1; have s2 := (HQA.out w2 hB2.bel _).trans qb2; have s3 := (HQA.out w2 hB2.bel _).trans qb3; have HO2 : Hid (vi2.ownBlock ≠ some w.heap.size) := Lib.hid (fun e => by rcases hF2.own _ e with e | e; exact HOB.out e; simp at e; omega); have hl2 : w.heap.size < w2.heap.size := block_lt_of_cell y0; clear hB2 hF2)
    | (go_at_call 109; (with_reducible refine (HY.out _ _ HB2.out).mono ?_); rintro e w3 ⟨rfl, vi3, hB3, hF3⟩; have HB3 := Lib.hid hB3; have HF3 := Lib.hid hF3; have t0 := (hF3.cell (B := w.heap.size) hl2 (by omega) HO2.out 0).trans y0; clear hB3 hF3)
    | (go_at_call 27; (with_reducible refine (CA.out _ _ HB3.out).mono ?_); rintro e w4 ⟨rfl, vi4, hB4, hF4⟩; have HB4 := Lib.hid hB4; have HF4 := Lib.hid hF4; clear hB4 hF4))
  refine bodyPost_ret (v := .tuple #[]) (by simp [results, Tryz.results109, go_sem]) rfl ⟨rfl, vi4, HB4.out, (((Cp.Far.of_below HBW.out).trans HF2.out).trans HF3.out).trans HF4.out⟩

omit hn hll hc hcl in
set_option maxHeartbeats 4000000 in
set_option maxRecDepth 100000 in
theorem value_sign (S : Nat → Prop) (hS : ∀ k, S k → k < W0.heap.size) (op n : Int) (nm : ByteArray) (x : E) (ho : op = 4 ∨ op = 5) (hx : ValC W0 G vw vl site sites ls cs S x) : ValC W0 G vw vl site sites ls cs S (.mk op n nm [x]) := by
  intro w code vi d v hcd hd h hv
  obtain ⟨A, cap, rfl, hl⟩ := hv
  obtain ⟨g, rfl, hSg, hr⟩ := hl.resolve_left (by simp)
  obtain ⟨a0, a1, a2, a3, qa0, qa1, qa2, qa3, hax⟩ := rdL_at [x] 0 hr 0 (by simp)
  have hg := hS g hSg
  simp only [E.sz, szL] at hcd hd
  have hlx := Cp.valE_len ls cs site x d
  obtain ⟨mx, hmx⟩ : ∃ m, m = Cp.valE ls cs site x d := ⟨_, rfl⟩
  have HI := Lib.hid (show code ++ Cp.valE ls cs site (.mk op n nm [x]) d = code ++ mx ++ [⟨3, d, d, 0, op, site⟩] by
    simp only [Cp.valE, Cp.valL, Cp.lastI]
    rw [if_neg (by omega), if_neg (by omega), if_neg (by omega), if_pos ho, hmx]
    simp)
  rw [← hmx] at hlx
  have HX := Lib.hid (fun W (hW : Cp.BdAt W0 G vw vl site sites code vi W) => hx W code vi d _ (by omega) (by omega) hW hax)
  rw [← hmx] at HX
  have CA := Lib.hid (fun W vi (hW : Cp.BdAt W0 G vw vl site sites (code ++ mx) vi W) => add_any W0 W G vw vl vi site sites 3 d d 0 op 0 _ hW (by rw [List.length_append]; omega))
  rw [HI.out]
  obtain ⟨ax0, ax1, ax2, ax3, al, ac, rfl, rfl, rfl, rfl⟩ : ∃ (i1 i2 : Int) (s : ByteArray) (A : Option Addr) (l c : Nat), a0 = .int .i64 i1 ∧ a1 = .int .i64 i2 ∧ a2 = .string s ∧ a3 = .slice A l c := hax.shape
  simp only [Nat.zero_mul, Nat.zero_add] at qa0 qa1 qa2 qa3
  have hbw : Below w.heap.size w (w.alloc (.cells #[.int .i64 op, .int .i64 n, .string nm, .slice (some ⟨g, 0, none⟩) 1 cap] 81)) := (Below.refl _ _).alloc (Nat.le_refl _) _
  have hB := h.below hbw
  have hGw := h.lt
  have x0 : (w.alloc (.cells #[.int .i64 op, .int .i64 n, .string nm, .slice (some ⟨g, 0, none⟩) 1 cap] 81)).cell? ⟨w.heap.size, 0, none⟩ = some (.int .i64 op) := by simp
  have r0 := (h.bel.cell (p := ⟨g, 0, none⟩) hg).trans qa0
  have r1 := (h.bel.cell (p := ⟨g, 1, none⟩) hg).trans qa1
  have r2 := (h.bel.cell (p := ⟨g, 2, none⟩) hg).trans qa2
  have r3 := (h.bel.cell (p := ⟨g, 3, none⟩) hg).trans qa3
  have X0 := Lib.hid x0
  have HBB := Lib.hid hB
  have hgw : g < w.heap.size := block_lt_of_cell r0
  have HOB : Hid (vi.ownBlock ≠ some w.heap.size) := Lib.hid (h.plain _ (Nat.le_refl _))
  have HBW := Lib.hid hbw
  clear h hB hbw hmx hx hax hr hcd hlx hl qa0 qa1 qa2 qa3 x0
  rcases ho with rfl | rfl
  all_goals
    go_enter Tryz.func109, Tryz.ntmps109
    go_wp2_with (first
      | (go_at_call 109; (with_reducible refine (HX.out _ HBB.out).mono ?_); rintro e w2 ⟨rfl, vi2, hB2, hF2⟩; have HB2 := Lib.hid hB2; have HF2 := Lib.hid hF2; have y0 := (hF2.cell (B := w.heap.size) (by simp) (by omega) HOB.out 0).trans X0.out; clear hB2 hF2)
      | (go_at_call 27; (with_reducible refine (CA.out _ _ HB2.out).mono ?_); rintro e w4 ⟨rfl, vi4, hB4, hF4⟩; have HB4 := Lib.hid hB4; have HF4 := Lib.hid hF4; clear hB4 hF4))
    refine bodyPost_ret (v := .tuple #[]) (by simp [results, Tryz.results109, go_sem]) rfl ⟨rfl, vi4, HB4.out, ((Cp.Far.of_below HBW.out).trans HF2.out).trans HF4.out⟩

omit hn hll in
set_option maxHeartbeats 4000000 in
set_option maxRecDepth 100000 in
theorem value_index (S : Nat → Prop) (hS : ∀ k, S k → k < W0.heap.size) (n : Int) (nm : ByteArray) (x : E) (hi : 0 ≤ Cp.idxC cs nm.data.toList) (hx : ValC W0 G vw vl site sites ls cs S x) : ValC W0 G vw vl site sites ls cs S (.mk 3 n nm [x]) := by
  intro w code vi d v hcd hd h hv
  obtain ⟨A, cap, rfl, hl⟩ := hv
  obtain ⟨g, rfl, hSg, hr⟩ := hl.resolve_left (by simp)
  obtain ⟨a0, a1, a2, a3, qa0, qa1, qa2, qa3, hax⟩ := rdL_at [x] 0 hr 0 (by simp)
  have hg := hS g hSg
  simp only [E.sz, szL] at hcd hd
  have hlx := Cp.valE_len ls cs site x d
  obtain ⟨mx, hmx⟩ : ∃ m, m = Cp.valE ls cs site x d := ⟨_, rfl⟩
  obtain ⟨j, hj, hij⟩ : ∃ j, ∃ _ : j < cs.length, Cp.idxC cs nm.data.toList = (j : Int) := by
    rcases Ck.idx_cases (fun c : Cp.Cl => c.name == nm.data.toList) cs 0 with ⟨h1, _⟩ | ⟨j, hj, h1, _⟩
    · unfold Cp.idxC at hi
      rw [h1] at hi
      omega
    · exact ⟨j, hj, by unfold Cp.idxC; rw [h1]; omega⟩
  have hszj : Cp.sizeC cs (j : Int) = (cs[j].size : Int) := by
    unfold Cp.sizeC
    rw [Int.toNat_natCast, List.getElem?_eq_getElem hj]
  have HI := Lib.hid (show code ++ Cp.valE ls cs site (.mk 3 n nm [x]) d = code ++ mx ++ [⟨7, d, j, d, cs[j].size, site⟩] by
    simp only [Cp.valE, Cp.valL, Cp.lastI]
    rw [if_neg (by omega), if_neg (by omega), if_pos trivial, hmx, hij, hszj]
    simp)
  rw [← hmx] at hlx
  have HX := Lib.hid (fun W (hW : Cp.BdAt W0 G vw vl site sites code vi W) => hx W code vi d _ (by omega) (by omega) hW hax)
  rw [← hmx] at HX
  have CC := Lib.hid (fun W vi (hW : Cp.BdAt W0 G vw vl site sites (code ++ mx) vi W) => cell_any W0 W G vw vl vi site sites _ hW cs hc hcl nm)
  rw [hij] at CC
  have CA := Lib.hid (fun W vi (hW : Cp.BdAt W0 G vw vl site sites (code ++ mx) vi W) => add_any W0 W G vw vl vi site sites 7 d j d cs[j].size 0 _ hW (by rw [List.length_append]; omega))
  rw [HI.out]
  obtain ⟨ax0, ax1, ax2, ax3, al, ac, rfl, rfl, rfl, rfl⟩ : ∃ (i1 i2 : Int) (s : ByteArray) (A : Option Addr) (l c : Nat), a0 = .int .i64 i1 ∧ a1 = .int .i64 i2 ∧ a2 = .string s ∧ a3 = .slice A l c := hax.shape
  simp only [Nat.zero_mul, Nat.zero_add] at qa0 qa1 qa2 qa3
  obtain ⟨Ac, capc, hvc, _, hcc⟩ := hc
  obtain ⟨gc, rfl, hgc, _, _, qs, _, _⟩ := hcc j hj
  obtain ⟨mc, hmc⟩ : ∃ m, m = cs.length := ⟨_, rfl⟩
  rw [← hmc] at hvc
  have hjm : (j : Int) < (mc : Int) := by omega
  have hbw : Below w.heap.size w (w.alloc (.cells #[.int .i64 3, .int .i64 n, .string nm, .slice (some ⟨g, 0, none⟩) 1 cap] 81)) := (Below.refl _ _).alloc (Nat.le_refl _) _
  have hB := h.below hbw
  have hGw := h.lt
  have x2 : (w.alloc (.cells #[.int .i64 3, .int .i64 n, .string nm, .slice (some ⟨g, 0, none⟩) 1 cap] 81)).cell? ⟨w.heap.size, 2, none⟩ = some (.string nm) := by simp
  have r0 := (h.bel.cell (p := ⟨g, 0, none⟩) hg).trans qa0
  have r1 := (h.bel.cell (p := ⟨g, 1, none⟩) hg).trans qa1
  have r2 := (h.bel.cell (p := ⟨g, 2, none⟩) hg).trans qa2
  have r3 := (h.bel.cell (p := ⟨g, 3, none⟩) hg).trans qa3
  have X2 := Lib.hid x2
  have HBB := Lib.hid hB
  have hgw : g < w.heap.size := block_lt_of_cell r0
  have HOB : Hid (vi.ownBlock ≠ some w.heap.size) := Lib.hid (h.plain _ (Nat.le_refl _))
  have HBW := Lib.hid hbw
  have HQS := Lib.hid (fun W (hb : Below W0.heap.size W0 W) => (hb.cell (p := ⟨gc, j * 5 + 2, none⟩) hgc).trans qs)
  have HVC := Lib.hid hvc
  obtain ⟨zj, hzj⟩ : ∃ z, z = cs[j].size := ⟨_, rfl⟩
  rw [← hzj] at CA HQS ⊢
  clear h hB hbw hmx hx hax hr hcl hcd hlx hl qa0 qa1 qa2 qa3 x2 hij hszj hvc hcc qs hmc hzj hi
  go_enter Tryz.func109, Tryz.ntmps109
  go_wp2_with (first
    | (go_at_call 109; (with_reducible refine (HX.out _ HBB.out).mono ?_); rintro e w2 ⟨rfl, vi2, hB2, hF2⟩; have HB2 := Lib.hid hB2; have HF2 := Lib.hid hF2; have y2 := (hF2.cell (B := w.heap.size) (by simp) (by omega) HOB.out 2).trans X2.out; clear hB2 hF2)
    | (go_at_call 110; (with_reducible refine (CC.out _ _ HB2.out).mono ?_); rintro e w3 ⟨rfl, hb3⟩; have hB3 := HB2.out.below hb3; have HB3 := Lib.hid hB3; have HF3 := Lib.hid (HF2.out.trans (Cp.Far.of_below hb3)); have c0 := hB3.cw 0 (by omega); rw [HVC.out] at c0; have c2 := HQS.out _ hB3.bel; clear hB3)
    | (go_at_call 27; (with_reducible refine (CA.out _ _ HB3.out).mono ?_); rintro e w4 ⟨rfl, vi4, hB4, hF4⟩; have HB4 := Lib.hid hB4; have HF4 := Lib.hid hF4; clear hB4 hF4))
  refine bodyPost_ret (v := .tuple #[]) (by simp [results, Tryz.results109, go_sem]) rfl ⟨rfl, vi4, HB4.out, ((Cp.Far.of_below HBW.out).trans HF3.out).trans HF4.out⟩

theorem value_any (S : Nat → Prop) (hS : ∀ k, S k → k < W0.heap.size) : ∀ (N : Nat) (e : E), e.sz ≤ N → shE e = true → Cp.vok cs e = true → ValC W0 G vw vl site sites ls cs S e
  | 0, .mk op n nm l, h, _, _ => absurd h (by simp [E.sz])
  | N + 1, .mk op n nm l, h, hsh, hv => by
    simp only [E.sz] at h
    simp only [shE, fitN, Bool.and_eq_true, decide_eq_true_eq] at hsh
    obtain ⟨⟨⟨⟨⟨h1, h18⟩, ha⟩, _⟩, _⟩, hL⟩ := hsh
    simp only [Cp.vok, Bool.and_eq_true] at hv
    obtain ⟨hv1, hvL⟩ := hv
    by_cases o12 : op = 1 ∨ op = 2
    · exact value_leaf W0 G vw vl site sites ls cs hn hll hc hcl S op n nm l o12
    · by_cases o345 : op = 3 ∨ op = 4 ∨ op = 5
      · unfold arity at ha
        rw [if_neg o12, if_pos o345] at ha
        obtain ⟨x, rfl⟩ := List.length_eq_one_iff.1 ha
        simp only [szL] at h
        simp only [shL, Bool.and_eq_true] at hL
        simp only [Cp.vokL, Bool.and_eq_true] at hvL
        have ih := value_any S hS N x (by omega) hL.1 hvL.1
        rcases o345 with rfl | o45
        · exact value_index W0 G vw vl site sites ls cs hc hcl S hS n nm x (by simpa using hv1) ih
        · exact value_sign W0 G vw vl site sites ls cs S hS op n nm x o45 ih
      · unfold arity at ha
        rw [if_neg o12, if_neg o345] at ha
        obtain ⟨x, y, rfl⟩ : ∃ x y, l = [x, y] := by
          match l, ha with
          | [x, y], _ => exact ⟨x, y, rfl⟩
        simp only [szL] at h
        simp only [shL, Bool.and_eq_true] at hL
        simp only [Cp.vokL, Bool.and_eq_true] at hvL
        exact value_two W0 G vw vl site sites ls cs S hS op n nm x y (by omega) (value_any S hS N x (by omega) hL.1 hvL.1) (value_any S hS N y (by omega) hL.2.1 hvL.2.1)
end
end Go.Proofs.YtncflfadgcaldaaGreatDoor

namespace Go.Proofs.YtncflfadgcaldaaGreatDoor
open Go.RowKit
open Par Tok

namespace Cp
/-- The code of an assignment. -/
def asgL (ls : List Bs) (cs : List Cl) (site : Int) (name : Bs) (ix : List E) (ex : E) : List Ins := match ix with
  | [] => valE ls cs site ex ls.length ++ [if 0 ≤ idxS ls name then ⟨2, idxS ls name, ls.length, 0, 0, site⟩ else ⟨8, idxC cs name, ls.length, 0, 0, site⟩]
  | i :: _ => valE ls cs site i ls.length ++ valE ls cs site ex (ls.length + 1) ++ [⟨9, idxC cs name, (ls.length : Int) + 1, ls.length, sizeC cs (idxC cs name), site⟩]
end Cp

section
variable (W0 : World) (G : Nat) (vw : Nat → Value) (vl : Value) (site sites : Int) (ls : List Bs) (cs : List Cp.Cl) (hn : Ck.NsAt W0 vl ls) (hll : ls.length ≤ 100000) (hc : Cp.CsAt W0 (vw 0) cs) (hcl : cs.length ≤ 100000) (S : Nat → Prop) (hS : ∀ k, S k → k < W0.heap.size)
include hn hll hc hcl

set_option maxHeartbeats 4000000 in
set_option maxRecDepth 100000 in
theorem assign_plain (op line : Nat) (name arg : Bs) (ex : E) (body els : List Sm) (cells : List Value) (hr : RdS W0 S (.mk op line name arg [] ex body els) cells) (hx : ValC W0 G vw vl site sites ls cs S ex) (w : World) (code : List Cp.Ins) (vi : Value) (hcd : code.length + ex.sz + ls.length ≤ 900000) (h : Cp.BdAt W0 G vw vl site sites code vi w) :
    Calls Tryz.prog 84 #[.pointer (some ⟨G, 0, none⟩), .agg cells.toArray] w (Cp.BdP W0 G vw vl site sites (code ++ Cp.asgL ls cs site name [] ex) vi w (.tuple #[])) := by
  obtain ⟨v4, e0, e1, e2, e3, a9, c9, a10, c10, rfl, ⟨a4, c4, rfl, _⟩, he, _, _⟩ := hr
  obtain ⟨x0, x1, x2, x3, xl, xc, rfl, rfl, rfl, rfl⟩ : ∃ (i1 i2 : Int) (s : ByteArray) (A : Option Addr) (l c : Nat), e0 = .int .i64 i1 ∧ e1 = .int .i64 i2 ∧ e2 = .string s ∧ e3 = .slice A l c := he.shape
  obtain ⟨k, hk⟩ : ∃ k, k = ls.length := ⟨_, rfl⟩
  have hlx := Cp.valE_len ls cs site ex k
  obtain ⟨mx, hmx⟩ : ∃ m, m = Cp.valE ls cs site ex k := ⟨_, rfl⟩
  rw [← hmx] at hlx
  have CF := Lib.hid (fun W vi code (hW : Cp.BdAt W0 G vw vl site sites code vi W) => free_any W0 W G vw vl vi site sites code hW ls hn)
  rw [← hk] at CF
  have HX := Lib.hid (fun W (hW : Cp.BdAt W0 G vw vl site sites code vi W) => hx W code vi k _ (by omega) (by omega) hW he)
  rw [← hmx] at HX
  obtain ⟨i, hi⟩ : ∃ i, Cp.idxS ls name = i := ⟨_, rfl⟩
  obtain ⟨j, hj⟩ : ∃ j, Cp.idxC cs name = j := ⟨_, rfl⟩
  have CL := Lib.hid (fun W vi (hW : Cp.BdAt W0 G vw vl site sites (code ++ mx) vi W) => local_any W0 W G vw vl vi site sites _ hW ls hn hll ⟨name.toArray⟩)
  have e1 : (⟨name.toArray⟩ : ByteArray).data.toList = name := rfl
  rw [e1, hi] at CL
  have CC := Lib.hid (fun W vi (hW : Cp.BdAt W0 G vw vl site sites (code ++ mx) vi W) => cell_any W0 W G vw vl vi site sites _ hW cs hc hcl ⟨name.toArray⟩)
  rw [e1, hj] at CC
  have hal : (code ++ mx).length ≤ 1000000 := by rw [List.length_append]; omega
  have hbw : Below w.heap.size w (w.alloc (.cells #[.int .i64 op, .int .i64 line, .string ⟨name.toArray⟩, .string ⟨arg.toArray⟩, .slice a4 0 c4, .int .i64 x0, .int .i64 x1, .string x2, .slice x3 xl xc, .slice a9 body.length c9, .slice a10 els.length c10] 83)) := (Below.refl _ _).alloc (Nat.le_refl _) _
  have hGw := h.lt
  have X2 := Lib.hid (show (w.alloc (.cells #[.int .i64 op, .int .i64 line, .string ⟨name.toArray⟩, .string ⟨arg.toArray⟩, .slice a4 0 c4, .int .i64 x0, .int .i64 x1, .string x2, .slice x3 xl xc, .slice a9 body.length c9, .slice a10 els.length c10] 83)).cell? ⟨w.heap.size, 2, none⟩ = some (.string ⟨name.toArray⟩) by simp)
  have HBB := Lib.hid (h.below hbw)
  have HOB : Hid (vi.ownBlock ≠ some w.heap.size) := Lib.hid (h.plain _ (Nat.le_refl _))
  have HBW := Lib.hid hbw
  by_cases h0 : 0 ≤ i
  · have HI := Lib.hid (show code ++ Cp.asgL ls cs site name [] ex = code ++ mx ++ [⟨2, i, k, 0, 0, site⟩] by
      simp only [Cp.asgL]
      rw [hi, if_pos h0, ← hk, ← hmx, List.append_assoc])
    have CA := Lib.hid (fun W vi (hW : Cp.BdAt W0 G vw vl site sites (code ++ mx) vi W) => add_any W0 W G vw vl vi site sites 2 i k 0 0 0 _ hW hal)
    rw [HI.out]
    clear h hbw hmx hx he hlx hk hi hj e1 hal hcd hn hll hc hcl
    go_enter Tryz.func84, Tryz.ntmps84
    go_wp2_with (first
      | (go_at_call 108; (with_reducible refine (CF.out _ _ _ HBB.out).mono ?_); rintro e w1 ⟨rfl, rfl⟩)
      | (go_at_call 109; (with_reducible refine (HX.out _ HBB.out).mono ?_); rintro e w2 ⟨rfl, vi2, hB2, hF2⟩; have HB2 := Lib.hid hB2; have HF2 := Lib.hid hF2; have y2 := (hF2.cell (B := w.heap.size) (by simp) (by omega) HOB.out 2).trans X2.out; clear hB2 hF2)
      | (go_at_call 111; (with_reducible refine (CL.out _ _ HB2.out).mono ?_); rintro e w3 ⟨rfl, hb3⟩; have HB3 := Lib.hid (HB2.out.below hb3); have HF3 := Lib.hid (HF2.out.trans (Cp.Far.of_below hb3)))
      | (go_at_call 27; (with_reducible refine (CA.out _ _ HB3.out).mono ?_); rintro e w4 ⟨rfl, vi4, hB4, hF4⟩; have HB4 := Lib.hid hB4; have HF4 := Lib.hid hF4; clear hB4 hF4))
    refine bodyPost_ret (v := .tuple #[]) (by simp [results, Tryz.results84, go_sem]) rfl ⟨rfl, vi4, HB4.out, ((Cp.Far.of_below HBW.out).trans HF3.out).trans HF4.out⟩
  · have HI := Lib.hid (show code ++ Cp.asgL ls cs site name [] ex = code ++ mx ++ [⟨8, j, k, 0, 0, site⟩] by
      simp only [Cp.asgL]
      rw [hi, if_neg h0, ← hk, ← hmx, hj, List.append_assoc])
    have CA := Lib.hid (fun W vi (hW : Cp.BdAt W0 G vw vl site sites (code ++ mx) vi W) => add_any W0 W G vw vl vi site sites 8 j k 0 0 0 _ hW hal)
    rw [HI.out]
    clear h hbw hmx hx he hlx hk hi hj e1 hal hcd hn hll hc hcl
    go_enter Tryz.func84, Tryz.ntmps84
    go_wp2_with (first
      | (go_at_call 108; (with_reducible refine (CF.out _ _ _ HBB.out).mono ?_); rintro e w1 ⟨rfl, rfl⟩)
      | (go_at_call 109; (with_reducible refine (HX.out _ HBB.out).mono ?_); rintro e w2 ⟨rfl, vi2, hB2, hF2⟩; have HB2 := Lib.hid hB2; have HF2 := Lib.hid hF2; have y2 := (hF2.cell (B := w.heap.size) (by simp) (by omega) HOB.out 2).trans X2.out; have hlw := block_lt_of_cell y2; clear hB2 hF2)
      | (go_at_call 111; (with_reducible refine (CL.out _ _ HB2.out).mono ?_); rintro e w3 ⟨rfl, hb3⟩; have HB3 := Lib.hid (HB2.out.below hb3); have HF3 := Lib.hid (HF2.out.trans (Cp.Far.of_below hb3)); have z2 := (hb3.cell (p := ⟨w.heap.size, 2, none⟩) hlw).trans y2)
      | (go_at_call 110; (with_reducible refine (CC.out _ _ HB3.out).mono ?_); rintro e w5 ⟨rfl, hb5⟩; have HB5 := Lib.hid (HB3.out.below hb5); have HF5 := Lib.hid (HF3.out.trans (Cp.Far.of_below hb5)))
      | (go_at_call 27; (with_reducible refine (CA.out _ _ HB5.out).mono ?_); rintro e w4 ⟨rfl, vi4, hB4, hF4⟩; have HB4 := Lib.hid hB4; have HF4 := Lib.hid hF4; clear hB4 hF4))
    refine bodyPost_ret (v := .tuple #[]) (by simp [results, Tryz.results84, go_sem]) rfl ⟨rfl, vi4, HB4.out, ((Cp.Far.of_below HBW.out).trans HF5.out).trans HF4.out⟩
end
end Go.Proofs.YtncflfadgcaldaaGreatDoor

namespace Go.Proofs.YtncflfadgcaldaaGreatDoor
open Go.RowKit
open Par Tok

section
variable (W0 : World) (G : Nat) (vw : Nat → Value) (vl : Value) (site sites : Int) (ls : List Bs) (cs : List Cp.Cl) (hn : Ck.NsAt W0 vl ls)
include hn

set_option maxHeartbeats 4000000 in
set_option maxRecDepth 100000 in
theorem branch_any (S : Nat → Prop) (ex : E) (x0 x1 : Int) (x2 : ByteArray) (x3 : Option Addr) (xl xc : Nat) (he : RdE W0 S ex (.agg #[.int .i64 x0, .int .i64 x1, .string x2, .slice x3 xl xc])) (hx : ValC W0 G vw vl site sites ls cs S ex) (w : World) (code : List Cp.Ins) (vi : Value) (hcd : code.length + ex.sz + ls.length ≤ 900000) (h : Cp.BdAt W0 G vw vl site sites code vi w) :
    Calls Tryz.prog 112 #[.pointer (some ⟨G, 0, none⟩), .agg #[.int .i64 x0, .int .i64 x1, .string x2, .slice x3 xl xc]] w (Cp.BdP W0 G vw vl site sites (code ++ Cp.valE ls cs site ex ls.length ++ [⟨10, ls.length, 0, 0, 0, site⟩]) vi w (.int .i64 ((code ++ Cp.valE ls cs site ex ls.length).length : Nat))) := by
  obtain ⟨k, hk⟩ : ∃ k, k = ls.length := ⟨_, rfl⟩
  have hlx := Cp.valE_len ls cs site ex k
  have HX := Lib.hid (fun W (hW : Cp.BdAt W0 G vw vl site sites code vi W) => hx W code vi k _ (by omega) (by omega) hW he)
  rw [← hk]
  obtain ⟨mx, hmx⟩ : ∃ m, m = Cp.valE ls cs site ex k := ⟨_, rfl⟩
  rw [← hmx] at hlx HX ⊢
  have CF := Lib.hid (fun W vi code (hW : Cp.BdAt W0 G vw vl site sites code vi W) => free_any W0 W G vw vl vi site sites code hW ls hn)
  rw [← hk] at CF
  have hal : (code ++ mx).length ≤ 1000000 := by rw [List.length_append]; omega
  have CA := Lib.hid (fun W vi (hW : Cp.BdAt W0 G vw vl site sites (code ++ mx) vi W) => add_any W0 W G vw vl vi site sites 10 k 0 0 0 0 _ hW hal)
  have hbw : Below w.heap.size w (w.alloc (.cells #[.int .i64 x0, .int .i64 x1, .string x2, .slice x3 xl xc] 81)) := (Below.refl _ _).alloc (Nat.le_refl _) _
  have HBB := Lib.hid (h.below hbw)
  have HBW := Lib.hid hbw
  obtain ⟨q, hq⟩ : ∃ q : Nat, q = (code ++ mx).length := ⟨_, rfl⟩
  rw [← hq] at CA ⊢
  clear h hbw hmx hx he hlx hk hal hcd hn hq
  go_enter Tryz.func112, Tryz.ntmps112
  go_wp2_with fail
  go_region_with (first
    | (go_at_call 108; refine (CF.out _ _ _ (by first | exact HBB.out | exact HBB.out.below (Below.refl _ _).drew)).mono ?_; rintro e w1 ⟨rfl, rfl⟩)
    | (go_at_call 109; refine (HX.out _ (by first | exact HBB.out | exact HBB.out.below (Below.refl _ _).drew)).mono ?_; rintro e w2 ⟨rfl, vi2, hB2, hF2⟩; have HB2 := Lib.hid hB2; have HF2 := Lib.hid ((Cp.Far.of_below (by first | exact HBW.out | exact HBW.out.drew)).trans hF2); clear hB2 hF2))
  all_goals
    go_wp2_with (first
      | (go_at_call 108; refine (CF.out _ _ _ HB2.out).mono ?_; rintro e w1 ⟨rfl, rfl⟩)
      | (go_at_call 27; (with_reducible refine (CA.out _ _ HB2.out).mono ?_); rintro e w4 ⟨rfl, vi4, hB4, hF4⟩; have HB4 := Lib.hid hB4; have HF4 := Lib.hid hF4; clear hB4 hF4))
    refine bodyPost_ret (v := .int .i64 (q : Nat)) (by simp [results, Tryz.results112, go_sem]) rfl ⟨rfl, vi4, HB4.out, HF2.out.trans HF4.out⟩
end
end Go.Proofs.YtncflfadgcaldaaGreatDoor

namespace Go.Proofs.YtncflfadgcaldaaGreatDoor
open Go.RowKit
open Par Tok

namespace Cp
section
variable {W0 w w' : World} {G : Nat} {vw : Nat → Value} {vl vi : Value} {site sites : Int} {code : List Ins}
theorem flat_set : ∀ (l : List Ins) (q : Nat) (hq : q < l.length) (v : Int), (l.flatMap Ins.cells).set (q * 6 + 2) (.int .i64 v) = (l.set q { l[q] with b := v }).flatMap Ins.cells
  | [], _, h, _ => absurd h (by simp)
  | x :: r, 0, _, v => by
    simp only [List.flatMap_cons, List.set_cons_zero, List.getElem_cons_zero]
    rfl
  | x :: r, q + 1, h, v => by
    have hq : q < r.length := by simpa using h
    simp only [List.flatMap_cons, List.set_cons_succ, List.getElem_cons_succ]
    rw [← flat_set r q hq v, List.set_append_right _ _ (by simp only [Ins.cells, List.length_cons, List.length_nil]; omega)]
    congr 2
    simp only [Ins.cells, List.length_cons, List.length_nil]
    omega
theorem flat_get : ∀ (l : List Ins) (q : Nat) (hq : q < l.length), (l.flatMap Ins.cells)[q * 6 + 2]? = some (.int .i64 l[q].b)
  | [], _, h => absurd h (by simp)
  | x :: r, 0, _ => rfl
  | x :: r, q + 1, h => by
    have hq : q < r.length := by simpa using h
    rw [List.flatMap_cons, List.getElem?_append_right (by simp only [Ins.cells, List.length_cons, List.length_nil]; omega)]
    refine Eq.trans ?_ (flat_get r q hq)
    congr 1
    simp only [Ins.cells, List.length_cons, List.length_nil]
    omega
/-- The second field of the q-th instruction is written anew. -/
theorem BdAt.patch (h : BdAt W0 G vw vl site sites code vi w) (q : Nat) (hq : q < code.length) : ∃ g cap, vi = .slice (some ⟨g, 0, none⟩) code.length cap ∧ w.cell? ⟨g, q * 6 + 2, none⟩ = some (.int .i64 code[q].b) ∧ w.frozen? ⟨g, q * 6 + 2, none⟩ = false ∧
    ∀ v : Int, BdAt W0 G vw vl site sites (code.set q { code[q] with b := v }) vi (w.setCell ⟨g, q * 6 + 2, none⟩ (.int .i64 v)) ∧ Far G vi vi w (w.setCell ⟨g, q * 6 + 2, none⟩ (.int .i64 v)) := by
  have hrow := h.row
  rcases h.row.2 with ⟨_, h0⟩ | ⟨g, cap, cur, hvi, _⟩
  · omega
  subst hvi
  have hg : G < g := h.up g rfl
  refine ⟨g, cap, rfl, ?_, h.row.frozenAt _, fun v => ?_⟩
  · rw [hrow.cellAt (q * 6 + 2) (by omega)]
    exact flat_get code q hq
  · have hne : ∀ j, (⟨g, q * 6 + 2, none⟩ : Addr) ≠ ⟨G, j, none⟩ := fun j e => by injection e with e; omega
    have keep : ∀ j, (w.setCell ⟨g, q * 6 + 2, none⟩ (.int .i64 v)).cell? ⟨G, j, none⟩ = w.cell? ⟨G, j, none⟩ := fun j => World.cell?_setCell_other _ _ _ _ (hne j)
    have hgl := (hrow.lt g rfl).1
    refine ⟨⟨fun j hj => (keep j).trans (h.cw j hj), (keep 6).trans h.c6, (keep 7).trans h.c7, (keep 8).trans h.c8, (keep 9).trans ?_, fun j => ?_, h.hG, h.up, ?_, h.bel.setCell hgl _⟩, ?_⟩
    · rw [h.c9]
    · rw [World.frozen?_setCell]
      exact h.fz j
    · rw [← flat_set code q hq v, List.length_set]
      exact (hrow.stored (q * 6 + 2) (.int .i64 v)).1
    · refine ⟨by simp [World.setCell], fun k _ _ hk => Below.heap_setCell _ _ _ _ (fun e => hk (by rw [e]; rfl)), fun k hk => .inl hk⟩
/-- The builder goes to another site. -/
theorem BdAt.toSite (h : BdAt W0 G vw vl site sites code vi w) (s : Int) : BdAt W0 G vw vl s sites code vi (w.setCell ⟨G, 7, none⟩ (.int .i64 s)) := by
  have hne : ∀ j, j ≠ 7 → (⟨G, 7, none⟩ : Addr) ≠ ⟨G, j, none⟩ := fun j hj e => hj (by injection e with _ e; exact e.symm)
  have keep : ∀ j, j ≠ 7 → (w.setCell ⟨G, 7, none⟩ (.int .i64 s)).cell? ⟨G, j, none⟩ = w.cell? ⟨G, j, none⟩ := fun j hj => World.cell?_setCell_other _ _ _ _ (hne j hj)
  refine ⟨fun j hj => (keep j (by omega)).trans (h.cw j hj), (keep 6 (by decide)).trans h.c6, World.cell?_setCell_same _ _ _ h.c7, (keep 8 (by decide)).trans h.c8, (keep 9 (by decide)).trans h.c9, fun j => ?_, h.hG, h.up, ?_, h.bel.setCell h.hG _⟩
  · rw [World.frozen?_setCell]
    exact h.fz j
  · exact Ck.ownsRow_of_blocks h.row (fun k hk _ => Below.heap_setCell _ _ _ _ (by have := h.up k hk; simp; omega))
/-- The builder has another number of sites. -/
theorem BdAt.toSites (h : BdAt W0 G vw vl site sites code vi w) (s : Int) : BdAt W0 G vw vl site s code vi (w.setCell ⟨G, 8, none⟩ (.int .i64 s)) := by
  have hne : ∀ j, j ≠ 8 → (⟨G, 8, none⟩ : Addr) ≠ ⟨G, j, none⟩ := fun j hj e => hj (by injection e with _ e; exact e.symm)
  have keep : ∀ j, j ≠ 8 → (w.setCell ⟨G, 8, none⟩ (.int .i64 s)).cell? ⟨G, j, none⟩ = w.cell? ⟨G, j, none⟩ := fun j hj => World.cell?_setCell_other _ _ _ _ (hne j hj)
  refine ⟨fun j hj => (keep j (by omega)).trans (h.cw j hj), (keep 6 (by decide)).trans h.c6, (keep 7 (by decide)).trans h.c7, World.cell?_setCell_same _ _ _ h.c8, (keep 9 (by decide)).trans h.c9, fun j => ?_, h.hG, h.up, ?_, h.bel.setCell h.hG _⟩
  · rw [World.frozen?_setCell]
    exact h.fz j
  · exact Ck.ownsRow_of_blocks h.row (fun k hk _ => Below.heap_setCell _ _ _ _ (by have := h.up k hk; simp; omega))
theorem far_set (v : Value) (j : Nat) (u : Value) : Far G v v w (w.setCell ⟨G, j, none⟩ u) := ⟨by simp [World.setCell], fun k _ hn _ => Below.heap_setCell _ _ _ _ (by simpa using hn), fun _ h => .inl h⟩
end
theorem set_mid {α : Type} (a c : List α) (x y : α) : ∃ h : a.length < (a ++ x :: c).length, (a ++ x :: c)[a.length] = x ∧ (a ++ x :: c).set a.length y = a ++ y :: c := by
  refine ⟨by simp, ?_, ?_⟩
  · rw [List.getElem_append_right (Nat.le_refl _)]
    simp
  · rw [List.set_append_right _ _ (Nat.le_refl _)]
    simp
mutual
/-- The code of a statement that begins at an index, and the number of sites behind it. -/
def stmC (ls : List Bs) (cs : List Cl) : Sm → Nat → Nat → Nat → List Ins × Nat
  | .mk op _ name _ ix ex body _, at_, st, n =>
    if op = 1 then (asgL ls cs st name ix ex, n)
    else if op = 3 then (valE ls cs st ex ls.length ++ (⟨10, ls.length, (at_ + (valE ls cs st ex ls.length).length + 1 + (blkC ls cs body (at_ + (valE ls cs st ex ls.length).length + 1) n).1.length + 1 : Nat), 0, 0, st⟩ : Ins) :: ((blkC ls cs body (at_ + (valE ls cs st ex ls.length).length + 1) n).1 ++ [⟨5, at_, 0, 0, 0, st⟩]), (blkC ls cs body (at_ + (valE ls cs st ex ls.length).length + 1) n).2)
    else ([], n)
def blkC (ls : List Bs) (cs : List Cl) : List Sm → Nat → Nat → List Ins × Nat
  | [], _, n => ([], n)
  | s :: r, at_, n => ((stmC ls cs s at_ n (n + 1)).1 ++ (blkC ls cs r (at_ + (stmC ls cs s at_ n (n + 1)).1.length) (stmC ls cs s at_ n (n + 1)).2).1, (blkC ls cs r (at_ + (stmC ls cs s at_ n (n + 1)).1.length) (stmC ls cs s at_ n (n + 1)).2).2)
end
mutual
/-- No fewer than the instructions and sites of a statement. -/
def szC : Sm → Nat
  | .mk _ _ _ _ ix ex body els => szL ix + ex.sz + szB body + szB els + 4
def szB : List Sm → Nat
  | [] => 0
  | s :: r => szC s + szB r
end
mutual
theorem stmC_len (ls : List Bs) (cs : List Cl) : ∀ (s : Sm) (at_ st n : Nat), (stmC ls cs s at_ st n).1.length + (stmC ls cs s at_ st n).2 + 1 ≤ n + szC s
  | .mk op _ name _ ix ex body _, at_, st, n => by
    simp only [stmC, szC]
    have hx := valE_len ls cs st ex ls.length
    split
    · match ix with
      | [] =>
        simp only [asgL, List.length_append, List.length_singleton]
        omega
      | i :: r =>
        have h1 := valE_len ls cs st i ls.length
        have h2 := valE_len ls cs st ex (ls.length + 1)
        simp only [asgL, List.length_append, List.length_singleton, szL]
        omega
    · split
      · have hb := blkC_len ls cs body (at_ + (valE ls cs st ex ls.length).length + 1) n
        simp only [List.length_append, List.length_cons, List.length_nil]
        omega
      · simp only [List.length_nil]
        omega
theorem blkC_len (ls : List Bs) (cs : List Cl) : ∀ (l : List Sm) (at_ n : Nat), (blkC ls cs l at_ n).1.length + (blkC ls cs l at_ n).2 ≤ n + szB l
  | [], _, n => by simp [blkC, szB]
  | s :: r, at_, n => by
    have h1 := stmC_len ls cs s at_ n (n + 1)
    have h2 := blkC_len ls cs r (at_ + (stmC ls cs s at_ n (n + 1)).1.length) (stmC ls cs s at_ n (n + 1)).2
    simp only [blkC, szB, List.length_append]
    omega
end
end Cp

section
variable (W0 : World) (G : Nat) (vw : Nat → Value) (vl : Value) (ls : List Bs) (cs : List Cp.Cl) (S : Nat → Prop)
/-- The contract of block at a list of statements. -/
def BlkC (l : List Sm) : Prop := ∀ (w : World) (code : List Cp.Ins) (vi : Value) (site : Int) (n : Nat) (v : Value), code.length + n + Cp.szB l + ls.length ≤ 900000 → Cp.BdAt W0 G vw vl site n code vi w → SlS W0 S l v →
  Calls Tryz.prog 26 #[.pointer (some ⟨G, 0, none⟩), v] w (Cp.BdP W0 G vw vl site ((Cp.blkC ls cs l code.length n).2 : Nat) (code ++ (Cp.blkC ls cs l code.length n).1) vi w (.tuple #[]))

set_option maxHeartbeats 8000000 in
set_option maxRecDepth 100000 in
theorem loop_of (line : Nat) (name arg : Bs) (ix : List E) (ex : E) (body els : List Sm) (hn : Ck.NsAt W0 vl ls) (hb : BlkC W0 G vw vl ls cs S body) (w : World) (code : List Cp.Ins) (vi : Value) (st n : Nat) (hx : ValC W0 G vw vl st n ls cs S ex) (cells : List Value) (hr : RdS W0 S (.mk 3 line name arg ix ex body els) cells)
    (hcd : code.length + n + Cp.szC (.mk 3 line name arg ix ex body els) + ls.length ≤ 900001) (h : Cp.BdAt W0 G vw vl st n code vi w) :
    Calls Tryz.prog 86 #[.pointer (some ⟨G, 0, none⟩), .agg cells.toArray] w (Cp.BdP W0 G vw vl st ((Cp.stmC ls cs (.mk 3 line name arg ix ex body els) code.length st n).2 : Nat) (code ++ (Cp.stmC ls cs (.mk 3 line name arg ix ex body els) code.length st n).1) vi w (.tuple #[])) := by
  obtain ⟨v4, e0, e1, e2, e3, a9, c9, a10, c10, rfl, ⟨a4, c4, rfl, _⟩, he, hb9, _⟩ := hr
  obtain ⟨x0, x1, x2, x3, xl, xc, rfl, rfl, rfl, rfl⟩ : ∃ (i1 i2 : Int) (s : ByteArray) (A : Option Addr) (l c : Nat), e0 = .int .i64 i1 ∧ e1 = .int .i64 i2 ∧ e2 = .string s ∧ e3 = .slice A l c := he.shape
  have hss : SlS W0 S body (.slice a9 body.length c9) := ⟨a9, c9, rfl, hb9⟩
  simp only [Cp.szC] at hcd
  have hlx := Cp.valE_len ls cs st ex ls.length
  obtain ⟨tv, htv⟩ : ∃ t, t = Cp.valE ls cs st ex ls.length := ⟨_, rfl⟩
  rw [← htv] at hlx
  obtain ⟨q, hq⟩ : ∃ q, q = (code ++ tv).length := ⟨_, rfl⟩
  have hq2 : q = code.length + tv.length := by rw [hq, List.length_append]
  have hbl := Cp.blkC_len ls cs body (q + 1) n
  obtain ⟨bl, hbl2⟩ : ∃ b, b = Cp.blkC ls cs body (q + 1) n := ⟨_, rfl⟩
  rw [← hbl2] at hbl
  have hst : Cp.stmC ls cs (.mk 3 line name arg ix ex body els) code.length st n = (tv ++ (⟨10, ls.length, (q + 1 + bl.1.length + 1 : Nat), 0, 0, st⟩ : Cp.Ins) :: (bl.1 ++ [⟨5, code.length, 0, 0, 0, st⟩]), bl.2) := by
    simp only [Cp.stmC]
    rw [if_neg (by decide), if_pos trivial, ← htv, ← hq2, ← hbl2]
  have HBR := Lib.hid (fun W (hW : Cp.BdAt W0 G vw vl st n code vi W) => branch_any W0 G vw vl st n ls cs hn S ex x0 x1 x2 x3 xl xc he hx W code vi (by omega) hW)
  rw [← htv, ← hq] at HBR
  have l1 : (code ++ tv ++ [(⟨10, ls.length, 0, 0, 0, st⟩ : Cp.Ins)]).length = q + 1 := by rw [List.length_append, ← hq]; rfl
  have HBL := Lib.hid (fun W vi (hW : Cp.BdAt W0 G vw vl st n (code ++ tv ++ [(⟨10, ls.length, 0, 0, 0, st⟩ : Cp.Ins)]) vi W) => hb W _ vi st n _ (by rw [l1]; omega) hW hss)
  rw [l1, ← hbl2] at HBL
  obtain ⟨code2, hc2⟩ : ∃ c, c = code ++ tv ++ [(⟨10, ls.length, 0, 0, 0, st⟩ : Cp.Ins)] ++ bl.1 := ⟨_, rfl⟩
  have l2 : code2.length = q + 1 + bl.1.length := by rw [hc2, List.length_append, l1]
  rw [← hc2] at HBL
  have HA := Lib.hid (fun W vi (hW : Cp.BdAt W0 G vw vl st (bl.2 : Nat) code2 vi W) => add_any W0 W G vw vl vi st (bl.2 : Nat) 5 code.length 0 0 0 0 code2 hW (by omega))
  obtain ⟨code3, hc3⟩ : ∃ c, c = code2 ++ [(⟨5, code.length, 0, 0, 0, st⟩ : Cp.Ins)] := ⟨_, rfl⟩
  rw [← hc3] at HA
  have l3 : code3.length = q + 1 + bl.1.length + 1 := by rw [hc3, List.length_append, l2]; rfl
  have hc4 : code3 = (code ++ tv) ++ (⟨10, ls.length, 0, 0, 0, st⟩ : Cp.Ins) :: (bl.1 ++ [⟨5, code.length, 0, 0, 0, st⟩]) := by rw [hc3, hc2]; simp
  obtain ⟨hq3, hg3, hs3⟩ := Cp.set_mid (code ++ tv) (bl.1 ++ [(⟨5, code.length, 0, 0, 0, st⟩ : Cp.Ins)]) (⟨10, ls.length, 0, 0, 0, st⟩ : Cp.Ins) (⟨10, ls.length, (q + 1 + bl.1.length + 1 : Nat), 0, 0, st⟩ : Cp.Ins)
  have HSET : Hid (∀ hq' : q < code3.length, code3.set q { code3[q] with b := ((code3.length : Nat) : Int) } = code ++ (Cp.stmC ls cs (.mk 3 line name arg ix ex body els) code.length st n).1) := Lib.hid (fun hq' => by
    rw [hst]
    subst hc4
    subst hq
    simp only [hg3]
    rw [l3, hs3, List.append_assoc])
  have hqc : q < code3.length := by omega
  have HN := Lib.hid (fun W vi code (sites : Int) (hW : Cp.BdAt W0 G vw vl st sites code vi W) => next_any W0 W G vw vl vi st sites code hW)
  have HST2 := Lib.hid (show (Cp.stmC ls cs (.mk 3 line name arg ix ex body els) code.length st n).2 = bl.2 by rw [hst])
  rw [HST2.out]
  obtain ⟨fin, hfin⟩ : ∃ f, f = code ++ (Cp.stmC ls cs (.mk 3 line name arg ix ex body els) code.length st n).1 := ⟨_, rfl⟩
  rw [← hfin] at HSET ⊢
  obtain ⟨m3, hm3⟩ : ∃ m, m = code3.length := ⟨_, rfl⟩
  have HM3 := Lib.hid hm3
  have hqi : (q : Int) < (m3 : Int) := by omega
  have HQC := Lib.hid hqc
  have hbw : Below w.heap.size w (w.alloc (.cells #[.int .i64 3, .int .i64 line, .string ⟨name.toArray⟩, .string ⟨arg.toArray⟩, .slice a4 ix.length c4, .int .i64 x0, .int .i64 x1, .string x2, .slice x3 xl xc, .slice a9 body.length c9, .slice a10 els.length c10] 83)) := (Below.refl _ _).alloc (Nat.le_refl _) _
  have hGw := h.lt
  have X9 := Lib.hid (show (w.alloc (.cells #[.int .i64 3, .int .i64 line, .string ⟨name.toArray⟩, .string ⟨arg.toArray⟩, .slice a4 ix.length c4, .int .i64 x0, .int .i64 x1, .string x2, .slice x3 xl xc, .slice a9 body.length c9, .slice a10 els.length c10] 83)).cell? ⟨w.heap.size, 9, none⟩ = some (.slice a9 body.length c9) by simp)
  have HBB := Lib.hid (h.below hbw)
  have HOB : Hid (vi.ownBlock ≠ some w.heap.size) := Lib.hid (h.plain _ (Nat.le_refl _))
  have HBW := Lib.hid hbw
  obtain ⟨a0, ha0⟩ : ∃ a, a = code.length := ⟨_, rfl⟩
  have HN0 := Lib.hid (HN.out _ _ _ _ HBB.out)
  rw [← ha0] at HA HN0
  clear h hbw hx he hlx hcd hn hb hb9 hss htv hq hq2 hbl hbl2 hst l1 l2 l3 hc2 hc3 hc4 hg3 hs3 hq3 hqc hfin ha0 hm3
  go_enter Tryz.func86, Tryz.ntmps86
  go_wp2_with (first
    | (go_at_call 53; (with_reducible refine HN0.out.mono ?_); rintro e w1 ⟨rfl, rfl⟩)
    | (go_at_call 112; (with_reducible refine (HBR.out _ HBB.out).mono ?_); rintro e w2 ⟨rfl, vi2, hB2, hF2⟩; have HB2 := Lib.hid hB2; have HF2 := Lib.hid hF2; have y9 := (hF2.cell (B := w.heap.size) (by simp) (by omega) HOB.out 9).trans X9.out; clear hB2 hF2)
    | (go_at_call 26; (with_reducible refine (HBL.out _ _ HB2.out).mono ?_); rintro e w3 ⟨rfl, vi3, hB3, hF3⟩; have HB3 := Lib.hid hB3; have HF3 := Lib.hid hF3; clear hB3 hF3)
    | (go_at_call 27; (with_reducible refine (HA.out _ _ HB3.out).mono ?_); rintro e w4 ⟨rfl, vi4, hB4, hF4⟩; have HB4 := Lib.hid hB4; have HF4 := Lib.hid hF4; clear hB4 hF4))
  obtain ⟨g5, cap5, hv5, cc5, cf5, hp5⟩ := HB4.out.patch q HQC.out
  have HBd := Lib.hid (HB4.out.below (Below.refl w4.heap.size w4).drew)
  obtain ⟨g6, cap6, hv6, _, _, hp6⟩ := HBd.out.patch q HQC.out
  have hv6' := hv6
  rw [hv5] at hv6'
  injection hv6' with e6 _ _
  injection e6 with e6
  injection e6 with e6
  subst e6
  have HP5 := Lib.hid (hp5 ((code3.length : Nat) : Int))
  have HP6 := Lib.hid (hp6 ((code3.length : Nat) : Int))
  have c9' := HB4.out.c9
  rw [hv5, ← HM3.out] at c9'
  have HN4 := Lib.hid (HN.out _ _ _ _ HB4.out)
  have HNd := Lib.hid (HN.out _ _ _ _ HBd.out)
  rw [HSET.out, ← HM3.out] at HP5 HP6
  rw [← HM3.out] at HN4 HNd
  clear hp5 hp6 hv6 hv5
  go_region_with (first
    | (go_at_call 53; refine HN4.out.mono ?_; rintro e w6 ⟨rfl, rfl⟩)
    | (go_at_call 53; refine HNd.out.mono ?_; rintro e w6 ⟨rfl, rfl⟩))
  all_goals
    refine bodyPost_end (v := .tuple #[]) (by simp [results, Tryz.results86, go_sem]) rfl ⟨rfl, vi4, ?_, ?_⟩
    · first
        | exact HP5.out.1.below (Below.refl _ _).drew
        | exact HP6.out.1
        | exact HP5.out.1
    · refine ((((Cp.Far.of_below HBW.out).trans HF2.out).trans HF3.out).trans HF4.out).trans ?_
      first
        | exact HP5.out.2.trans (Cp.Far.of_below (Below.refl _ _).drew)
        | exact (Cp.Far.of_below (Below.refl _ _).drew).trans HP6.out.2
        | exact HP5.out.2
end
end Go.Proofs.YtncflfadgcaldaaGreatDoor
