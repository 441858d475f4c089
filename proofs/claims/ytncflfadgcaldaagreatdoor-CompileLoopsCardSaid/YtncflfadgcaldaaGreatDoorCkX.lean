/-
  Package check: all statements.
-/
import Derived.Test.YtncflfadgcaldaaGreatDoorCkH
import Derived.Deep.RegionHeld3
namespace Go.Proofs.YtncflfadgcaldaaGreatDoor
open Go.RowKit
open Par Tok

namespace Ck
theorem visit_any (W0 : World) (G b : Nat) (s : Sc) (ok : ScOk s) (vl vd vt : Value) (own : Bs) (S : Nat → Prop) (hS : ∀ k, S k → k < W0.heap.size) (hth : s.threads ≠ []) : ∀ (N : Nat) (x : Sm), szM x ≤ N → Sm.wk x → ∀ (ar : Ar), ar.length ≤ 6 →
    ∀ (dn : List Bs) (n : Nat) (va : Value) (w : World) (gs os : Nat), n + szM x ≤ 1000000 → WkAt W0 G b s vl vd vt own ar dn n va w → SmAt W0 S gs os x →
      Calls Tryz.prog 81 #[.pointer (some ⟨G, 0, none⟩), .pointer (some ⟨gs, os, none⟩)] w (WkP W0 G b s vl vd vt own ar (n + szM x) (visitS s own ar dn x))
  | 0, .mk _ _ _ _ _ _ body els, h, _, _, _ => absurd h (by simp only [szM]; omega)
  | N + 1, .mk op line name arg ix ex body els, h, hwk, ar, hal => by
    intro dn n va w gs os hn hW hs
    have hsz : szM (.mk op line name arg ix ex body els) = szML body + szML els + 1 := rfl
    have hwk2 := hwk
    obtain ⟨_, _, _, _, hbl, hel, hwb, hwe⟩ := hwk2
    refine visit_of W0 G b s ok vl vd vt own S hS hth op line name arg ix ex body els hwk ar hal (fun dn n va w v hn har hW hv => ?_) (fun dn n va w v hn har hW hv => ?_) dn n va w gs os hn hW hs
    · exact list_of W0 G b s vl vd vt own S (ar ++ [((op : Int), name)]) body hwb hbl (fun k hk dn n va w gs os hn hW hs => visit_any W0 G b s ok vl vd vt own S hS hth N body[k] (Nat.le_trans (szM_get body k hk) (by omega)) (wkL_get body k hk hwb) _ (by simp; omega) dn n va w gs os hn hW hs) dn n va w v hn hW hv
    · exact list_of W0 G b s vl vd vt own S (ar ++ [((op : Int), name)]) els hwe hel (fun k hk dn n va w gs os hn hW hs => visit_any W0 G b s ok vl vd vt own S hS hth N els[k] (Nat.le_trans (szM_get els k hk) (by omega)) (wkL_get els k hk hwe) _ (by simp; omega) dn n va w gs os hn hW hs) dn n va w v hn hW hv
theorem list_any (W0 : World) (G b : Nat) (s : Sc) (ok : ScOk s) (vl vd vt : Value) (own : Bs) (S : Nat → Prop) (hS : ∀ k, S k → k < W0.heap.size) (hth : s.threads ≠ []) (l : List Sm) (hw : wkL l) (hll : l.length ≤ 100000) (ar : Ar) (hal : ar.length ≤ 6)
    (dn : List Bs) (n : Nat) (va : Value) (w : World) (v : Value) (hn : n + szML l ≤ 1000000) (hW : WkAt W0 G b s vl vd vt own ar dn n va w) (hv : SlS W0 S l v) :
    Calls Tryz.prog 49 #[.pointer (some ⟨G, 0, none⟩), v] w (WkP W0 G b s vl vd vt own ar (n + szML l) (visitL s own ar dn l)) :=
  list_of W0 G b s vl vd vt own S ar l hw hll (fun k hk dn n va w gs os hn hW hs => visit_any W0 G b s ok vl vd vt own S hS hth (szM l[k]) l[k] (Nat.le_refl _) (wkL_get l k hk hw) ar hal dn n va w gs os hn hW hs) dn n va w v hn hW hv

set_option maxHeartbeats 4000000 in
set_option maxRecDepth 100000 in
theorem scopeOf_any (w : World) (v0 v2 : Value) (gt n ct k : Nat) (al : Option Addr) (ll cl : Nat) (hk : k < n) (_ : n ≤ 100000) (h2 : v2 = .slice al ll cl) (hc : w.cell? ⟨gt, k * 4 + 2, none⟩ = some v2) (hv0 : ∃ a l c, v0 = .slice a l c) :
    Calls Tryz.prog 48 #[.agg #[v0, .slice (some ⟨gt, 0, none⟩) n ct], .int .i64 k] w fun x w' => x = .returned (.agg #[v2, v0, .slice (some ⟨gt, 0, none⟩) n ct]) ∧ Below w.heap.size w w' := by
  subst h2
  obtain ⟨a0, l0, c0, rfl⟩ := hv0
  have hki : (k : Int) < (n : Int) := by omega
  have hk0 : (0 : Int) ≤ (k : Int) := by omega
  have hc3 : ∀ o1 o2 o3 : Obj, (((w.alloc o1).alloc o2).alloc o3).cell? ⟨gt, k * 4 + 2, none⟩ = some (.slice al ll cl) := fun o1 o2 o3 => (((((Below.refl w.heap.size w).alloc (Nat.le_refl _) o1).alloc (by simp) o2).alloc (by simp; omega) o3).cell (block_lt_of_cell hc)).trans hc
  clear hc
  go_enter Tryz.func48, Tryz.ntmps48
  go_wp2_with fail
  refine bodyPost_ret (v := .agg #[.slice al ll cl, .slice a0 l0 c0, .slice (some ⟨gt, 0, none⟩) n ct]) (by simp [results, Tryz.results48, go_sem]) rfl ⟨rfl, ?_⟩
  exact (((Below.refl _ _).alloc (Nat.le_refl _) _).alloc (by simp) _).alloc (by simp; omega) _
/-- The walk's block between two threads: whatever scope and name it holds. -/
structure WkB (W0 : World) (G b : Nat) (u0 u1 u2 u3 : Value) (dn : List Bs) (n : Nat) (va : Value) (w : World) : Prop where
  c0 : w.cell? ⟨G, 0, none⟩ = some u0
  c1 : w.cell? ⟨G, 1, none⟩ = some u1
  c2 : w.cell? ⟨G, 2, none⟩ = some u2
  c3 : w.cell? ⟨G, 3, none⟩ = some u3
  c4 : w.cell? ⟨G, 4, none⟩ = some va
  c5 : w.cell? ⟨G, 5, none⟩ = some (.map (some b))
  fz : ∀ j, w.frozen? ⟨G, j, none⟩ = false
  hG : W0.heap.size ≤ G
  hb : W0.heap.size ≤ b
  hne : G ≠ b
  gG : va.ownBlock ≠ some G
  gb : va.ownBlock ≠ some b
  up : ∀ g, va.ownBlock = some g → G < g ∧ b < g
  row : w.ownsRow W0.heap.size 146 1 va 0 []
  done : DoneAt w b n dn
  bel : Below W0.heap.size W0 w
section
variable {W0 w w' : World} {G b n : Nat} {s : Sc} {vl vd vt va u0 u1 u2 u3 : Value} {own : Bs} {dn : List Bs}
theorem WkAt.rest (h : WkAt W0 G b s vl vd vt own [] dn n va w) : WkB W0 G b vl vd vt (.string ⟨own.toArray⟩) dn n va w := by
  obtain ⟨L, hL, hrow, _⟩ := h.row
  have hl : L = [] := List.map_eq_nil_iff.1 hL.symm
  subst hl
  exact ⟨h.c0, h.c1, h.c2, h.c3, h.c4, h.c5, h.fz, h.hG, h.hb, h.hne, h.gG, h.gb, h.up, hrow, h.done, h.bel⟩
theorem WkB.below (h : WkB W0 G b u0 u1 u2 u3 dn n va w) (k : Below w.heap.size w w') : WkB W0 G b u0 u1 u2 u3 dn n va w' := by
  have hl : G < w.heap.size := block_lt_of_cell h.c0
  have cl : ∀ j, w'.cell? ⟨G, j, none⟩ = w.cell? ⟨G, j, none⟩ := fun j => k.cell (p := ⟨G, j, none⟩) hl
  exact ⟨(cl 0).trans h.c0, (cl 1).trans h.c1, (cl 2).trans h.c2, (cl 3).trans h.c3, (cl 4).trans h.c4, (cl 5).trans h.c5, fun j => (k.frozen (p := ⟨G, j, none⟩) hl).trans (h.fz j), h.hG, h.hb, h.hne, h.gG, h.gb, h.up,
    ownsRow_of_blocks h.row (fun g _ hg => k.block g hg), h.done.below k, h.bel.trans (k.mono h.bel.size)⟩
theorem WkB.set (h : WkB W0 G b u0 u1 u2 u3 dn n va w) (hsc : ScAt W0 vl vd vt s) (own : Bs) : WkAt W0 G b s vl vd vt own [] dn n va ((((w.setCell ⟨G, 0, none⟩ vl).setCell ⟨G, 1, none⟩ vd).setCell ⟨G, 2, none⟩ vt).setCell ⟨G, 3, none⟩ (.string ⟨own.toArray⟩)) := by
  have ne : ∀ i j : Nat, i ≠ j → (⟨G, i, none⟩ : Addr) ≠ ⟨G, j, none⟩ := fun i j h => addr_ne h
  have o : ∀ (w : World) (i j : Nat) (v : Value), i ≠ j → (w.setCell ⟨G, i, none⟩ v).cell? ⟨G, j, none⟩ = w.cell? ⟨G, j, none⟩ := fun w i j v hij => World.cell?_setCell_other _ _ _ _ (ne i j hij)
  have blk : ∀ k, k ≠ G → ((((w.setCell ⟨G, 0, none⟩ vl).setCell ⟨G, 1, none⟩ vd).setCell ⟨G, 2, none⟩ vt).setCell ⟨G, 3, none⟩ (.string ⟨own.toArray⟩)).heap[k]? = w.heap[k]? := fun k hk => by
    rw [Below.heap_setCell _ _ _ _ hk, Below.heap_setCell _ _ _ _ hk, Below.heap_setCell _ _ _ _ hk, Below.heap_setCell _ _ _ _ hk]
  refine ⟨?_, ?_, ?_, ?_, ?_, ?_, fun j => ?_, h.hG, h.hb, h.hne, h.gG, h.gb, h.up, ⟨[], rfl, ownsRow_of_blocks h.row (fun g hg _ => blk g (fun e => h.gG (by rw [hg, e]))), fun x hx => nomatch hx⟩, h.done.of_block (blk b (fun e => h.hne e.symm)), (((h.bel.setCell h.hG _).setCell h.hG _).setCell h.hG _).setCell h.hG _, hsc⟩
  · rw [o _ 3 0 _ (by decide), o _ 2 0 _ (by decide), o _ 1 0 _ (by decide)]
    exact World.cell?_setCell_same _ _ _ h.c0
  · rw [o _ 3 1 _ (by decide), o _ 2 1 _ (by decide)]
    exact World.cell?_setCell_same _ _ _ ((o _ 0 1 _ (by decide)).trans h.c1)
  · rw [o _ 3 2 _ (by decide)]
    exact World.cell?_setCell_same _ _ _ (((o _ 1 2 _ (by decide)).trans (o _ 0 2 _ (by decide))).trans h.c2)
  · exact World.cell?_setCell_same _ _ _ ((((o _ 2 3 _ (by decide)).trans (o _ 1 3 _ (by decide))).trans (o _ 0 3 _ (by decide))).trans h.c3)
  · rw [o _ 3 4 _ (by decide), o _ 2 4 _ (by decide), o _ 1 4 _ (by decide), o _ 0 4 _ (by decide)]
    exact h.c4
  · rw [o _ 3 5 _ (by decide), o _ 2 5 _ (by decide), o _ 1 5 _ (by decide), o _ 0 5 _ (by decide)]
    exact h.c5
  · rw [World.frozen?_setCell, World.frozen?_setCell, World.frozen?_setCell, World.frozen?_setCell]
    exact h.fz j
end
def szT : List Th → Nat
  | [] => 0
  | t :: r => szML t.body + szT r
theorem szT_drop : ∀ (l : List Th) (k : Nat) (h : k < l.length), szT (l.drop k) = szML l[k].body + szT (l.drop (k + 1))
  | [], k, h => absurd h (by simp)
  | x :: r, 0, _ => rfl
  | x :: r, k + 1, h => szT_drop r k (by simpa using h)
theorem stmtsE_drop (ds : List Dc) (ts : List Th) (dn : List Bs) (l : List Th) (k : Nat) (hk : k < l.length) : stmtsE ds ts (l.drop k) dn = if (visitL ⟨l[k].locals, ds, ts⟩ l[k].name [] dn l[k].body).1.1 = 0 then stmtsE ds ts (l.drop (k + 1)) (visitL ⟨l[k].locals, ds, ts⟩ l[k].name [] dn l[k].body).2 else (visitL ⟨l[k].locals, ds, ts⟩ l[k].name [] dn l[k].body).1 := by
  rw [List.drop_eq_getElem_cons hk]
  simp only [stmtsE]

set_option maxHeartbeats 8000000 in
set_option maxRecDepth 100000 in
theorem statements_any (w : World) (S : Nat → Prop) (v0 v1 : Value) (ds : List Dc) (ts : List Th) (hd : DsAt w v0 ds) (hv : TsAt w v1 ts) (h : SlT w S ts v1) (hS : ∀ k, S k → k < w.heap.size) (hdl : ds.length ≤ 100000) (hl : ts.length ≤ 100000)
    (hwk : ∀ t ∈ ts, wkL t.body ∧ t.body.length ≤ 100000 ∧ t.locals.length ≤ 100000) (hN : szT ts ≤ 1000000) :
    Calls Tryz.prog 23 #[.agg #[v0, v1]] w fun x w' => x = .returned (.tuple #[.int .i64 ((stmtsE ds ts ts []).1 : Nat), .int .i64 ((stmtsE ds ts ts []).2 : Nat)]) ∧ Below w.heap.size w w' := by
  have hmm := @run_makeMap Tryz.prog
  obtain ⟨R, hR⟩ : ∃ R, stmtsE ds ts ts [] = R := ⟨_, rfl⟩
  rw [hR]
  obtain ⟨R1, R2⟩ := R
  obtain ⟨wb, hwb⟩ : ∃ wb, wb = w.alloc (.cells #[v0, v1] 25) := ⟨_, rfl⟩
  have hbw : Below w.heap.size w wb := by rw [hwb]; exact (Below.refl _ w).alloc (Nat.le_refl _) _
  have hbs : wb.heap.size = w.heap.size + 1 := by rw [hwb]; simp
  have B0 : Hid (wb.cell? ⟨w.heap.size, 0, none⟩ = some v0) := Lib.hid (by rw [hwb]; simp)
  have B1 : Hid (wb.cell? ⟨w.heap.size, 1, none⟩ = some v1) := Lib.hid (by rw [hwb]; simp)
  have H := Lib.hid (SlT.below h hbw)
  have HVT := Lib.hid (hv.below hbw)
  have HDD := Lib.hid (hd.below hbw)
  have HSS : Hid (∀ k, S k → k < wb.heap.size) := Lib.hid (fun k hk => by have := hS k hk; omega)
  have HWK := Lib.hid hwk
  have HBW := Lib.hid hbw
  obtain ⟨A, cap, rfl, -⟩ := h
  obtain ⟨a0, c0, hv0, -⟩ := hd
  have HR := Lib.hid hR
  obtain ⟨n, hn⟩ : ∃ n, n = ts.length := ⟨_, rfl⟩
  have HNn := Lib.hid hn
  obtain ⟨N, hNN⟩ : ∃ N, szT ts = N := ⟨_, rfl⟩
  have HN := Lib.hid hNN
  obtain ⟨l0, hl0⟩ : ∃ l, l = ds.length := ⟨_, rfl⟩
  rw [hNN] at hN
  rw [← hl0] at hv0
  rw [← hn] at hl H HVT B1 hwb ⊢
  have HTL := Lib.hid (show ts.length ≤ 100000 by omega)
  have HDL := Lib.hid hdl
  subst hv0
  have HWB := Lib.hid hwb
  clear hR hn hv hNN hS hwk hl0 hdl hbw hwb
  go_enter Tryz.func23, Tryz.ntmps23
  go_wp2_with fail
  clear hmm
  go_loopw [14] (fun i wr => ∃ (k n' : Nat) (dn' : List Bs) (u0 u1 u2 u3 va' : Value), k ≤ n ∧ i = .int .i64 k ∧ n' + szT (ts.drop k) = N ∧ WkB wb (w.heap.size + 1 + 1) (w.heap.size + 1) u0 u1 u2 u3 dn' n' va' wr ∧ stmtsE ds ts (ts.drop k) dn' = (R1, R2)) (fun i _ => n - (intOf i).toNat)
  case atStart =>
    refine ⟨0, 0, [], .slice none 0 0, .slice none 0 0, .slice none 0 0, .string ⟨#[]⟩, .slice none 0 0, by omega, by first | rfl | trivial, by simpa using HN.out, ?_, by simpa using HR.out⟩
    rw [← HWB.out]
    have hbs2 : wb.heap.size = w.heap.size + 1 := hbs
    refine ⟨?_, ?_, ?_, ?_, ?_, ?_, fun j => ?_, by omega, by omega, by omega, by simp [Value.ownBlock], by simp [Value.ownBlock], fun g hg => by simp [Value.ownBlock] at hg, ⟨rfl, .inl ⟨rfl, rfl⟩⟩, ?_, ?_⟩
    · rw [← hbs2]; simp
    · rw [← hbs2]; simp
    · rw [← hbs2]; simp
    · rw [← hbs2]; simp
    · rw [← hbs2]; simp
    · rw [← hbs2]; simp
    · rw [← hbs2]
      exact PlainAt.frozen (plain_new (by simp)) j
    · rw [← hbs2]
      exact (DoneAt.made wb).below ((Below.refl _ _).alloc (Nat.le_refl _) _)
    · exact ((Below.refl _ _).alloc (Nat.le_refl _) _).alloc (by simp) _
  case round =>
    obtain ⟨k, n', dn', u0, u1, u2, u3, va', hk, rfl, hnn, hwk, hrest⟩ := hrel
    by_cases hkn : k < n
    · have hkd : k < ts.length := by rw [← HNn.out]; exact hkn
      have hkni : (k : Int) < (n : Int) := by omega
      obtain ⟨g, cap2, v2, v3, hag, hcp, hg, q0, q1, q2, q3, hsn, hss⟩ := SlT.at_ H.out k hkd
      injection hag with hag1 hag2 hag3
      subst hag1 hag3
      clear hag2
      have bel := hwk.bel
      have e0 := (bel.cell (p := ⟨g, k * 4, none⟩) hg).trans q0
      have e1 := (bel.cell (p := ⟨g, k * 4 + 1, none⟩) hg).trans q1
      have e2 := (bel.cell (p := ⟨g, k * 4 + 2, none⟩) hg).trans q2
      have e3 := (bel.cell (p := ⟨g, k * 4 + 3, none⟩) hg).trans q3
      have hns := SlN.ns hsn
      obtain ⟨y2, z2, hy2, -⟩ := hsn
      obtain ⟨y3, z3, hy3, -⟩ := id hss
      obtain ⟨ll, hll⟩ : ∃ l, l = ts[k].locals.length := ⟨_, rfl⟩
      obtain ⟨lb, hlb⟩ : ∃ l, l = ts[k].body.length := ⟨_, rfl⟩
      rw [← hll] at hy2
      rw [← hlb] at hy3
      subst hy2 hy3
      obtain ⟨hwl, hbl, hlol⟩ := HWK.out ts[k] (List.getElem_mem hkd)
      rw [szT_drop ts k hkd] at hnn
      rw [stmtsE_drop ds ts dn' ts k hkd] at hrest
      have SOK : ScOk ⟨ts[k].locals, ds, ts⟩ := ⟨hlol, HDL.out, HTL.out⟩
      have hth : ts ≠ [] := fun e => by rw [e] at hkd; simp at hkd
      obtain ⟨⟨⟨e, ln⟩, d2⟩, hr⟩ : ∃ r, visitL ⟨ts[k].locals, ds, ts⟩ ts[k].name [] dn' ts[k].body = r := ⟨_, rfl⟩
      have CL := Lib.hid (fun W (hW : WkAt wb (w.heap.size + 1 + 1) (w.heap.size + 1) ⟨ts[k].locals, ds, ts⟩ (.slice y2 ll z2) (.slice a0 l0 c0) (.slice (some ⟨g, 0, none⟩) n cap) ts[k].name [] dn' n' va' W) => list_any wb (w.heap.size + 1 + 1) (w.heap.size + 1) ⟨ts[k].locals, ds, ts⟩ SOK (.slice y2 ll z2) (.slice a0 l0 c0) (.slice (some ⟨g, 0, none⟩) n cap) ts[k].name S HSS.out hth ts[k].body hwl hbl [] (by simp) dn' n' va' W (.slice y3 lb z3) (by omega) hW hss)
      have CSc := Lib.hid (fun W (hb : Below wb.heap.size wb W) => scopeOf_any W (.slice a0 l0 c0) (.slice y2 ll z2) g n cap k y2 ll z2 hkn hl rfl ((hb.cell (p := ⟨g, k * 4 + 2, none⟩) hg).trans q2) ⟨a0, l0, c0, rfl⟩)
      have HSC : Hid (ScAt wb (.slice y2 ll z2) (.slice a0 l0 c0) (.slice (some ⟨g, 0, none⟩) n cap) ⟨ts[k].locals, ds, ts⟩) := Lib.hid ⟨hns, HDD.out, HVT.out⟩
      rw [hr] at CL hrest
      have HWK2 := Lib.hid hwk
      have hszr := bel.size
      have hb0 := (bel.cell (p := ⟨w.heap.size, 0, none⟩) (by show w.heap.size < _; omega)).trans B0.out
      have hb1 := (bel.cell (p := ⟨w.heap.size, 1, none⟩) (by show w.heap.size < _; omega)).trans B1.out
      obtain ⟨tn, htn⟩ : ∃ t, t = ts[k].name := ⟨_, rfl⟩
      obtain ⟨tl, htl⟩ : ∃ t, t = ts[k].line := ⟨_, rfl⟩
      obtain ⟨sz, hsz⟩ : ∃ t, t = szML ts[k].body := ⟨_, rfl⟩
      obtain ⟨sc, hsc⟩ : ∃ t : Sc, t = ⟨ts[k].locals, ds, ts⟩ := ⟨_, rfl⟩
      rw [← htn] at e0 CL
      rw [← htl] at e1
      rw [← hsz] at hnn CL
      rw [← hsc] at CL HSC
      have HNN := Lib.hid hnn
      have HREST := Lib.hid hrest
      clear q0 q1 q2 q3 hll hlb hr htn htl hsz hsc hss hns hnn hrest hwl hbl hlol SOK hth
      go_wp2_with fail
      obtain ⟨wx, hwx⟩ : ∃ wx, wx = wr.alloc (.cells #[.string ⟨tn.toArray⟩, .int .i64 tl, .slice y2 ll z2, .slice y3 lb z3] 56) := ⟨_, rfl⟩
      have hbx : Below wr.heap.size wr wx := by rw [hwx]; exact (Below.refl _ wr).alloc (Nat.le_refl _) _
      have HKX := Lib.hid (HWK2.out.below hbx)
      have hwr0 : w.heap.size < wr.heap.size := block_lt_of_cell hb0
      have d0 : wx.cell? ⟨w.heap.size, 0, none⟩ = some (.slice a0 l0 c0) := (hbx.cell (p := ⟨w.heap.size, 0, none⟩) hwr0).trans hb0
      have d1 : wx.cell? ⟨w.heap.size, 1, none⟩ = some (.slice (some ⟨g, 0, none⟩) n cap) := (hbx.cell (p := ⟨w.heap.size, 1, none⟩) hwr0).trans hb1
      have x0 : wx.cell? ⟨wr.heap.size, 0, none⟩ = some (.string ⟨tn.toArray⟩) := by rw [hwx]; simp
      have x3 : wx.cell? ⟨wr.heap.size, 3, none⟩ = some (.slice y3 lb z3) := by rw [hwx]; simp
      rw [← hwx]
      have hxl := block_lt_of_cell x0
      have hxw := block_lt_of_cell d0
      have hGr : w.heap.size + 1 + 1 < wr.heap.size := block_lt_of_cell HWK2.out.c0
      have hn1 : ¬ w.heap.size = w.heap.size + 1 + 1 := by omega
      have hn2 : ¬ wr.heap.size = w.heap.size + 1 + 1 := by omega
      have m0 := HKX.out.c0
      have m1 := HKX.out.c1
      have m2 := HKX.out.c2
      have m3 := HKX.out.c3
      have z0 := HKX.out.fz 0
      have z1 := HKX.out.fz 1
      have z2' := HKX.out.fz 2
      have z3' := HKX.out.fz 3
      clear e0 e1 e2 e3 hb0 hb1 hwx hwk hbx bel
      go_region_held3 (fun x => x.cell? ⟨w.heap.size, 0, none⟩ = some (.slice a0 l0 c0) ∧ x.cell? ⟨w.heap.size, 1, none⟩ = some (.slice (some ⟨g, 0, none⟩) n cap) ∧ x.cell? ⟨wr.heap.size, 0, none⟩ = some (.string ⟨tn.toArray⟩) ∧ x.cell? ⟨wr.heap.size, 3, none⟩ = some (.slice y3 lb z3)) (first | exact ⟨f0, f1, f2, f3⟩ | exact ⟨d0, d1, x0, x3⟩ | (simp [go_sem, *]; done) | go_keep) (first
        | (go_at_call 48; (with_reducible refine (CSc.out _ ?_).mono ?_); (exact HKX.out.bel.drew); rintro x w4 ⟨rfl, hb4⟩; have hb4' : Below wx.heap.size wx w4 := (Below.refl wx.heap.size wx).drew.trans hb4; have f0 := (hb4'.cell (p := ⟨w.heap.size, 0, none⟩) hxw).trans d0; have f1 := (hb4'.cell (p := ⟨w.heap.size, 1, none⟩) hxw).trans d1; have f2 := (hb4'.cell (p := ⟨wr.heap.size, 0, none⟩) hxl).trans x0; have f3 := (hb4'.cell (p := ⟨wr.heap.size, 3, none⟩) hxl).trans x3; have HK4 := Lib.hid (HKX.out.below hb4'); have m0 := HK4.out.c0; have m1 := HK4.out.c1; have m2 := HK4.out.c2; have m3 := HK4.out.c3; have z0 := HK4.out.fz 0; have z1 := HK4.out.fz 1; have z2' := HK4.out.fz 2; have z3' := HK4.out.fz 3; clear hb4 hb4'))
      have HK5 := Lib.hid (HK4.out.set HSC.out tn)
      clear m0 m1 m2 m3 z0 z1 z2' z3' f0 f1 f2
      by_cases h0 : e = 0
      · subst h0
        have HREST2 := Lib.hid (show stmtsE ds ts (ts.drop (k + 1)) d2 = (R1, R2) by simpa using HREST.out)
        go_wp2_with (go_at_call 49; (with_reducible refine (CL.out _ HK5.out).mono ?_); rintro x w6 ⟨rfl, va6, hw6⟩; have HW6 := Lib.hid hw6; clear hw6)
        go_roundw
        case rel => exact ⟨k + 1, n' + sz, d2, _, _, _, _, va6, by omega, by go_num, by have := HNN.out; omega, HW6.out.rest, HREST2.out⟩
        case measure => simp [intOf]; omega
      · have h0i : ¬ ((e : Nat) : Int) = 0 := by omega
        have HREST2 := Lib.hid (show (e, ln) = (R1, R2) by have := HREST.out; rwa [if_neg h0] at this)
        go_wp2_with (go_at_call 49; (with_reducible refine (CL.out _ HK5.out).mono ?_); rintro x w6 ⟨rfl, va6, hw6⟩; have HW6 := Lib.hid hw6; clear hw6)
        have hrr := HREST2.out
        injection hrr with hr1 hr2
        refine bodyPost_ret (v := .tuple #[.int .i64 (e : Nat), .int .i64 (ln : Nat)]) (by simp [results, Tryz.results23, go_sem]) rfl ⟨by rw [← hr1, ← hr2], ?_⟩
        exact HBW.out.trans (HW6.out.bel.mono (by omega))
    · have hke : k = n := by omega
      have HRR := Lib.hid (show (0, 0) = (R1, R2) by
        rw [← hrest, hke, HNn.out, List.drop_length]
        simp only [stmtsE])
      have HB := Lib.hid hwk.bel
      have hkni : ¬ (k : Int) < (n : Int) := by omega
      clear hrest hnn hwk
      go_wp2_with fail
      have hrr := HRR.out
      injection hrr with hr1 hr2
      refine bodyPost_ret (v := .tuple #[.int .i64 0, .int .i64 0]) (by simp [results, Tryz.results23, go_sem]) rfl ⟨by rw [← hr1, ← hr2]; rfl, ?_⟩
      exact HBW.out.trans (HB.out.mono (by omega))
end Ck
end Go.Proofs.YtncflfadgcaldaaGreatDoor
