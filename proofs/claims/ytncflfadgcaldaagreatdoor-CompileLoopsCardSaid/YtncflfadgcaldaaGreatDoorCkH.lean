/-
  Package check: a statement with those inside it, and lists of statements.
  Package check: a statement with those inside it.
  How the parts of a program lie in memory, read one by one.
  Package check: the limit of statements.
  Package check: the names of locals.
  Package check: the rules of all declarations.
  Package check: the rules of threads and of their names.
-/
import Derived.Test.YtncflfadgcaldaaGreatDoorCkU
import Derived.Test.YtncflfadgcaldaaGreatDoorFoS
import Derived.WalkSmall
import Derived.Test.YtncflfadgcaldaaGreatDoorCkF
import Derived.Test.YtncflfadgcaldaaGreatDoorPstP
import Derived.Test.YtncflfadgcaldaaGreatDoorCkQ
import Derived.Deep.RegionHeld3
import Derived.Deep.RegionLaw
namespace Go.Proofs.YtncflfadgcaldaaGreatDoor
open Go.RowKit
open Par Tok

namespace Ck
mutual
/-- What the walk asks of a statement's parts. -/
def Sm.wk : Sm → Prop
  | .mk op _ name _ ix ex body els => ex.ok ∧ (∀ i ∈ ix, i.ok) ∧ (op = 1 → ix.length ≤ 1) ∧ name.length ≤ maxLen ∧ body.length ≤ 100000 ∧ els.length ≤ 100000 ∧ wkL body ∧ wkL els
def wkL : List Sm → Prop
  | [] => True
  | x :: r => Sm.wk x ∧ wkL r
end
mutual
def szM : Sm → Nat
  | .mk _ _ _ _ _ _ body els => szML body + szML els + 1
def szML : List Sm → Nat
  | [] => 0
  | x :: r => szM x + szML r
end
theorem wkL_get : ∀ (l : List Sm) (k : Nat) (h : k < l.length), wkL l → Sm.wk l[k]
  | [], k, h, _ => absurd h (by simp)
  | x :: r, 0, _, hw => hw.1
  | x :: r, k + 1, h, hw => wkL_get r k (by simpa using h) hw.2
theorem szML_drop : ∀ (l : List Sm) (k : Nat) (h : k < l.length), szML (l.drop k) = szM l[k] + szML (l.drop (k + 1))
  | [], k, h => absurd h (by simp)
  | x :: r, 0, _ => rfl
  | x :: r, k + 1, h => szML_drop r k (by simpa using h)
theorem szM_get : ∀ (l : List Sm) (k : Nat) (h : k < l.length), szM l[k] ≤ szML l
  | [], k, h => absurd h (by simp)
  | x :: r, 0, _ => by simp only [szML, List.getElem_cons_zero]; omega
  | x :: r, k + 1, h => by
    have := szM_get r k (by simpa using h)
    simp only [szML, List.getElem_cons_succ]
    omega
/-- The k-th statement of a list in memory. -/
theorem slS_sm {w : World} {S : Nat → Prop} {l : List Sm} {v : Value} (h : SlS w S l v) (k : Nat) (hk : k < l.length) : ∃ g cap, v = .slice (some ⟨g, 0, none⟩) l.length cap ∧ SmAt w S g (k * 11) l[k] := by
  obtain ⟨a, cap, rfl, hl⟩ := h
  obtain ⟨g, xs, rfl, _, hv, hc⟩ := hl.resolve_left (fun e => by rw [e] at hk; simp at hk)
  obtain ⟨cs, hcs, hat⟩ := vss_at l xs hv k hk
  exact ⟨g, cap, rfl, cs, hcs, fun j u hj => hc _ _ (hat j u hj)⟩
/-- What a walk leaves: its answer, the state with what has been done. -/
def WkP (W0 : World) (G b : Nat) (s : Sc) (vl vd vt : Value) (own : Bs) (ar : Ar) (n : Nat) (r : (Nat × Nat) × List Bs) (x : Ending) (w' : World) : Prop :=
  x = .returned (.tuple #[.int .i64 (r.1.1 : Nat), .int .i64 (r.1.2 : Nat)]) ∧ ∃ va, WkAt W0 G b s vl vd vt own ar r.2 n va w'
theorem visitL_drop (s : Sc) (own : Bs) (ar : Ar) (dn : List Bs) (l : List Sm) (k : Nat) (hk : k < l.length) : visitL s own ar dn (l.drop k) = if (visitS s own ar dn l[k]).1.1 = 0 then visitL s own ar (visitS s own ar dn l[k]).2 (l.drop (k + 1)) else visitS s own ar dn l[k] := by
  rw [List.drop_eq_getElem_cons hk]
  simp only [visitL]

set_option maxHeartbeats 4000000 in
set_option maxRecDepth 100000 in
theorem list_of (W0 : World) (G b : Nat) (s : Sc) (vl vd vt : Value) (own : Bs) (S : Nat → Prop) (ar : Ar) (l : List Sm) (_ : wkL l) (hll : l.length ≤ 100000)
    (ih : ∀ k (hk : k < l.length) (dn : List Bs) (n : Nat) (va : Value) (w : World) (gs os : Nat), n + szM l[k] ≤ 1000000 → WkAt W0 G b s vl vd vt own ar dn n va w → SmAt W0 S gs os l[k] →
      Calls Tryz.prog 81 #[.pointer (some ⟨G, 0, none⟩), .pointer (some ⟨gs, os, none⟩)] w (WkP W0 G b s vl vd vt own ar (n + szM l[k]) (visitS s own ar dn l[k])))
    (dn : List Bs) (n : Nat) (va : Value) (w : World) (v : Value) (hn : n + szML l ≤ 1000000) (hW : WkAt W0 G b s vl vd vt own ar dn n va w) (hv : SlS W0 S l v) :
    Calls Tryz.prog 49 #[.pointer (some ⟨G, 0, none⟩), v] w (WkP W0 G b s vl vd vt own ar (n + szML l) (visitL s own ar dn l)) := by
  have HV := Lib.hid hv
  obtain ⟨A, cap, rfl, _⟩ := hv
  obtain ⟨R, hR⟩ : ∃ R, visitL s own ar dn l = R := ⟨_, rfl⟩
  have HR := Lib.hid hR
  obtain ⟨N, hN⟩ : ∃ N, n + szML l = N := ⟨_, rfl⟩
  have HNN := Lib.hid hN
  have hNle : N ≤ 1000000 := by omega
  rw [hR, hN]
  obtain ⟨m, hm⟩ : ∃ m, m = l.length := ⟨_, rfl⟩
  have HM := Lib.hid hm
  have IH := Lib.hid ih
  have HW := Lib.hid hW
  rw [← hm] at hll HV ⊢
  clear hR hN hm ih hW
  go_enter Tryz.func49, Tryz.ntmps49
  go_wp2_with fail
  go_loopw [11] (fun i wr => ∃ (k n' : Nat) (dn' : List Bs) (va' : Value), k ≤ m ∧ i = .int .i64 k ∧ n' + szML (l.drop k) = N ∧ WkAt W0 G b s vl vd vt own ar dn' n' va' wr ∧ visitL s own ar dn' (l.drop k) = R) (fun i _ => m - (intOf i).toNat)
  case atStart => exact ⟨0, n, dn, va, by omega, by first | rfl | trivial, by simpa using HNN.out, HW.out, by simpa using HR.out⟩
  case round =>
    obtain ⟨k, n', dn', va', hk, rfl, hnn, hwk, hrest⟩ := hrel
    by_cases hkm : k < m
    · have hkl : k < l.length := by rw [← HM.out]; exact hkm
      have hkmi : (k : Int) < (m : Int) := by omega
      obtain ⟨g, cap2, hag, hsm⟩ := slS_sm (by rw [HM.out] at HV; exact HV.out) k hkl
      injection hag with hag1 hag2 hag3
      subst hag1 hag3
      clear hag2
      rw [szML_drop l k hkl] at hnn
      rw [visitL_drop _ _ _ _ _ _ hkl] at hrest
      have CV := Lib.hid (IH.out k hkl dn' n' va' wr g (k * 11) (by omega) hwk hsm)
      obtain ⟨⟨⟨e, ln⟩, d2⟩, hr⟩ : ∃ r, visitS s own ar dn' l[k] = r := ⟨_, rfl⟩
      rw [hr] at CV hrest
      have HNM := Lib.hid hnn
      have HS := Lib.hid hrest
      clear hrest hnn hwk hsm hr
      by_cases h0 : e = 0
      · subst h0
        have HS2 := Lib.hid (show visitL s own ar d2 (l.drop (k + 1)) = R by simpa using HS.out)
        go_wp2_with (go_at_call 81; refine CV.out.mono ?_; rintro x w2 ⟨rfl, va2, hw2⟩)
        go_roundw
        case rel => exact ⟨k + 1, n' + szM l[k], d2, va2, by omega, by go_num, by have := HNM.out; omega, hw2, HS2.out⟩
        case measure => simp [intOf]; omega
      · have h0i : ¬ ((e : Nat) : Int) = 0 := by omega
        have HS2 := Lib.hid (show ((e, ln), d2) = R by have := HS.out; simpa [h0] using this)
        go_wp2_with (go_at_call 81; refine CV.out.mono ?_; rintro x w2 ⟨rfl, va2, hw2⟩)
        refine bodyPost_ret (v := .tuple #[.int .i64 (e : Nat), .int .i64 (ln : Nat)]) (by simp [results, Tryz.results49, go_sem]) rfl ⟨by rw [← HS2.out], va2, ?_⟩
        rw [← HS2.out]
        exact hw2.mono (by have := HNM.out; omega)
    · have hke : k = m := by omega
      have HS := Lib.hid (show R = ((0, 0), dn') by
        rw [← hrest, hke, HM.out, List.drop_length]
        simp only [visitL])
      have HNM := Lib.hid hnn
      clear hrest hnn
      have HWK := Lib.hid hwk
      clear hwk
      have hkmi : ¬ (k : Int) < (m : Int) := by omega
      go_wp2_with fail
      refine bodyPost_ret (v := .tuple #[.int .i64 0, .int .i64 0]) (by simp [results, Tryz.results49, go_sem]) rfl ⟨by rw [HS.out]; rfl, va', ?_⟩
      rw [HS.out]
      exact HWK.out.mono (by have := HNM.out; omega)
end Ck
end Go.Proofs.YtncflfadgcaldaaGreatDoor

namespace Go.Proofs.YtncflfadgcaldaaGreatDoor
open Go.RowKit
open Par Tok

namespace Ck
theorem ownsRow_up {w : World} {base base' : Nat} {e : TypeId} {size n : Nat} {v : Value} {xs : List Value} (h : w.ownsRow base e size v n xs) (hb : ∀ g, v.ownBlock = some g → base' ≤ g) : w.ownsRow base' e size v n xs := by
  refine ⟨h.1, ?_⟩
  rcases h.2 with hn | ⟨g, cap, cur, rfl, hg, rest⟩
  · exact .inl hn
  · exact .inr ⟨g, cap, cur, rfl, hb g rfl, rest⟩
theorem addr_ne {g i j : Nat} (h : i ≠ j) : (⟨g, i, none⟩ : Addr) ≠ ⟨g, j, none⟩ := fun e => h (by injection e)
section
variable {W0 w w' : World} {G b n : Nat} {s : Sc} {vl vd vt va : Value} {own : Bs} {ar : Ar} {dn : List Bs}
/-- One statement more around. -/
theorem WkAt.push (h : WkAt W0 G b s vl vd vt own ar dn n va w) {L : List (Nat × Nat × Int × Bs)} (hL : ar = L.map (fun x => x.2.2)) (hc : ∀ x ∈ L, W0.cell? ⟨x.1, x.2.1, none⟩ = some (.int .i64 x.2.2.1) ∧ W0.cell? ⟨x.1, x.2.1 + 2, none⟩ = some (.string ⟨x.2.2.2.toArray⟩))
    {gs os : Nat} {k : Int} {nm : Bs} (h0 : W0.cell? ⟨gs, os, none⟩ = some (.int .i64 k)) (h2 : W0.cell? ⟨gs, os + 2, none⟩ = some (.string ⟨nm.toArray⟩)) {o : Obj} {v4 : Value} {w4 : World}
    (hown : w4.ownsRow (max G b + 1) 146 1 v4 (L.length + 1) ((L.map fun x => .pointer (some ⟨x.1, x.2.1, none⟩)) ++ [.pointer (some ⟨gs, os, none⟩)])) (hgrow : (w.alloc o).grownBy w4 va.ownBlock) :
    WkAt W0 G b s vl vd vt own (ar ++ [(k, nm)]) dn n v4 (w4.setCell ⟨G, 4, none⟩ v4) := by
  have hG := h.lt
  have hb := h.done.lt
  have blk : ∀ i, i < w.heap.size → va.ownBlock ≠ some i → w4.heap[i]? = w.heap[i]? := fun i hi hne => (hgrow.block i (by simp; omega) (fun e => hne e.symm)).trans (Below.heap_alloc _ _ _ hi)
  have blkG := blk G hG h.gG
  have blkb := blk b hb h.gb
  have cl : ∀ j, w4.cell? ⟨G, j, none⟩ = w.cell? ⟨G, j, none⟩ := fun j => World.cell?_of_block (a := ⟨G, j, none⟩) blkG
  have fl : ∀ j, w4.frozen? ⟨G, j, none⟩ = w.frozen? ⟨G, j, none⟩ := fun j => World.frozen?_of_block (a := ⟨G, j, none⟩) blkG
  have upv : ∀ g, v4.ownBlock = some g → G < g ∧ b < g := fun g hg => by have := (hown.lt g hg).1; omega
  have keep : ∀ j, j ≠ 4 → (w4.setCell ⟨G, 4, none⟩ v4).cell? ⟨G, j, none⟩ = w.cell? ⟨G, j, none⟩ := fun j hj => (World.cell?_setCell_other _ _ _ _ (addr_ne (fun e => hj e.symm))).trans (cl j)
  refine ⟨(keep 0 (by decide)).trans h.c0, (keep 1 (by decide)).trans h.c1, (keep 2 (by decide)).trans h.c2, (keep 3 (by decide)).trans h.c3, World.cell?_setCell_same _ _ _ ((cl 4).trans h.c4), (keep 5 (by decide)).trans h.c5, fun j => ?_, h.hG, h.hb, h.hne,
    fun e => by have := upv _ e; omega, fun e => by have := upv _ e; omega, upv, ⟨L ++ [(gs, os, k, nm)], by rw [hL]; simp, ?_, fun x hx => ?_⟩, h.done.of_block ((Below.heap_setCell _ _ _ _ (fun e => h.hne e.symm)).trans blkb), ?_, h.sc⟩
  · rw [World.frozen?_setCell, fl j]
    exact h.fz j
  · refine ownsRow_of_blocks (w := w4) ?_ (fun g hg _ => Below.heap_setCell _ _ _ _ (by have := upv g hg; intro e; simp at e; omega))
    have e1 : (L ++ [(gs, os, k, nm)]).length = L.length + 1 := by simp
    rw [e1, List.map_append]
    refine ownsRow_up hown (fun g hg => ?_)
    have := upv g hg
    have := h.hG
    omega
  · rcases List.mem_append.1 hx with hx | hx
    · exact hc x hx
    · obtain rfl := List.mem_singleton.1 hx
      exact ⟨h0, h2⟩
  · refine Below.setCell ?_ h.hG _
    have hbw := h.bel.size
    refine (h.bel.alloc hbw o).grown hgrow (by simp; omega) (fun i hi => ?_)
    have := h.up i hi
    have := h.hG
    omega
/-- The last statement around goes. -/
theorem WkAt.pop {k : Int} {nm : Bs} (h : WkAt W0 G b s vl vd vt own (ar ++ [(k, nm)]) dn n va w) : ∃ g cap, va = .slice (some ⟨g, 0, none⟩) (ar.length + 1) cap ∧ ar.length + 1 ≤ cap ∧ WkAt W0 G b s vl vd vt own ar dn n (.slice (some ⟨g, 0, none⟩) ar.length cap) (w.setCell ⟨G, 4, none⟩ (.slice (some ⟨g, 0, none⟩) ar.length cap)) := by
  obtain ⟨L, hL, hrow, hc⟩ := h.row
  obtain ⟨L1, y, rfl⟩ : ∃ L1 y, L = L1 ++ [y] := by
    rcases List.eq_nil_or_concat L with rfl | ⟨L1, y, rfl⟩
    · simp at hL
    · exact ⟨L1, y, by rw [List.concat_eq_append]⟩
  have hlen : (L1 ++ [y]).length = L1.length + 1 := by simp
  rw [List.map_append] at hL
  have har : ar = L1.map (fun x => x.2.2) := List.append_inj_left' hL rfl
  have hal : ar.length = L1.length := by rw [har, List.length_map]
  rw [hlen, List.map_append] at hrow
  rcases hrow.2 with ⟨_, h0⟩ | ⟨g, cap, cur, hva, hg, hgg, hcp, rest⟩
  · omega
  refine ⟨g, cap, by rw [hva, hal], by omega, ?_⟩
  rw [hva] at hrow
  have hup := h.up g (by rw [hva]; rfl)
  have cl := h.c4
  have keep : ∀ (u : Value) j, j ≠ 4 → (w.setCell ⟨G, 4, none⟩ u).cell? ⟨G, j, none⟩ = w.cell? ⟨G, j, none⟩ := fun u j hj => World.cell?_setCell_other _ _ _ _ (addr_ne (fun e => hj e.symm))
  have ob : ∀ (m : Nat) i, (Value.slice (some ⟨g, 0, none⟩) m cap).ownBlock = some i → i = g := fun m i hi => (Option.some.inj hi).symm
  refine ⟨(keep _ 0 (by decide)).trans h.c0, (keep _ 1 (by decide)).trans h.c1, (keep _ 2 (by decide)).trans h.c2, (keep _ 3 (by decide)).trans h.c3, World.cell?_setCell_same _ _ _ h.c4, (keep _ 5 (by decide)).trans h.c5, fun j => ?_, h.hG, h.hb, h.hne,
    fun e => by have := ob _ _ e; omega, fun e => by have := ob _ _ e; omega, fun i hi => by have := ob _ _ hi; omega, ⟨L1, har, ?_, fun x hx => hc x (List.mem_append_left _ hx)⟩, h.done.of_block (Below.heap_setCell _ _ _ _ (fun e => h.hne e.symm)), h.bel.setCell h.hG _, h.sc⟩
  · rw [World.frozen?_setCell]
    exact h.fz j
  · rw [hal]
    refine ownsRow_of_blocks (w := w) ?_ (fun i hi _ => Below.heap_setCell _ _ _ _ (by have := ob _ _ hi; intro e; simp at e; omega))
    exact ownsRow_pop (by simp) hrow
end
theorem row_form {w : World} {base : Nat} {e : TypeId} {size n : Nat} {v : Value} {xs : List Value} (h : w.ownsRow base e size v n xs) : ∃ A cap, v = .slice A n cap := by
  rcases h.2 with ⟨rfl, h0⟩ | ⟨g, cap, cur, rfl, _⟩
  · exact ⟨none, 0, by rw [h0]⟩
  · exact ⟨_, cap, rfl⟩
attribute [local go_sem] Gd.Goes Gd.goesUpon Oper.looksAt Op.operands Call.operands Gd.Knows Gd.look Gd.push Gd.eqv Gd.getD_bool

/-- What a statement's cells say of the lists in it. -/
theorem SmAt.lists {W0 : World} {S : Nat → Prop} {gs os op line : Nat} {name arg : Bs} {ix : List E} {ex : E} {body els : List Sm} (h : SmAt W0 S gs os (.mk op line name arg ix ex body els)) :
    ∃ a9 c9 a10 c10, (∀ w, Below W0.heap.size W0 w → w.cell? ⟨gs, os + 9, none⟩ = some (.slice a9 body.length c9) ∧ w.cell? ⟨gs, os + 10, none⟩ = some (.slice a10 els.length c10)) ∧ SlS W0 S body (.slice a9 body.length c9) ∧ SlS W0 S els (.slice a10 els.length c10) := by
  obtain ⟨cs, ⟨v4, e0, e1, e2, e3, a9, c9, a10, c10, rfl, _, _, hb, he⟩, hcs⟩ := h
  exact ⟨a9, c9, a10, c10, fun w hw => ⟨(hw.cell (block_lt_of_cell (hcs 9 _ rfl))).trans (hcs 9 _ rfl), (hw.cell (block_lt_of_cell (hcs 10 _ rfl))).trans (hcs 10 _ rfl)⟩, ⟨a9, c9, rfl, hb⟩, ⟨a10, c10, rfl, he⟩⟩
theorem stmtE_shallow {s : Sc} {own : Bs} {ar : Ar} {dn : List Bs} {x : Sm} (h : (stmtE s own ar dn x).1 = 0) : ar.length < 6 := by
  obtain ⟨op, line, name, arg, ix, ex, body, els⟩ := x
  simp only [stmtE] at h
  by_cases h6 : 6 ≤ ar.length
  · rw [if_pos h6] at h
    simp at h
  · omega

set_option maxHeartbeats 4000000 in
set_option maxRecDepth 100000 in
theorem visit_of (W0 : World) (G b : Nat) (s : Sc) (ok : ScOk s) (vl vd vt : Value) (own : Bs) (S : Nat → Prop) (hS : ∀ k, S k → k < W0.heap.size) (hth : s.threads ≠ []) (op line : Nat) (name arg : Bs) (ix : List E) (ex : E) (body els : List Sm)
    (hwk : Sm.wk (.mk op line name arg ix ex body els)) (ar : Ar) (hal : ar.length ≤ 6)
    (ihb : ∀ dn n va w v, n + szML body ≤ 1000000 → ar.length < 6 → WkAt W0 G b s vl vd vt own (ar ++ [((op : Int), name)]) dn n va w → SlS W0 S body v → Calls Tryz.prog 49 #[.pointer (some ⟨G, 0, none⟩), v] w (WkP W0 G b s vl vd vt own (ar ++ [((op : Int), name)]) (n + szML body) (visitL s own (ar ++ [((op : Int), name)]) dn body)))
    (ihe : ∀ dn n va w v, n + szML els ≤ 1000000 → ar.length < 6 → WkAt W0 G b s vl vd vt own (ar ++ [((op : Int), name)]) dn n va w → SlS W0 S els v → Calls Tryz.prog 49 #[.pointer (some ⟨G, 0, none⟩), v] w (WkP W0 G b s vl vd vt own (ar ++ [((op : Int), name)]) (n + szML els) (visitL s own (ar ++ [((op : Int), name)]) dn els)))
    (dn : List Bs) (n : Nat) (va : Value) (w : World) (gs os : Nat) (hn : n + szM (.mk op line name arg ix ex body els) ≤ 1000000) (hW : WkAt W0 G b s vl vd vt own ar dn n va w) (hs : SmAt W0 S gs os (.mk op line name arg ix ex body els)) :
    Calls Tryz.prog 81 #[.pointer (some ⟨G, 0, none⟩), .pointer (some ⟨gs, os, none⟩)] w (WkP W0 G b s vl vd vt own ar (n + szM (.mk op line name arg ix ex body els)) (visitS s own ar dn (.mk op line name arg ix ex body els))) := by
  obtain ⟨hok, hoi, hix, hnm, hbl, hel, _, _⟩ := hwk
  have hsz : szM (.mk op line name arg ix ex body els) = szML body + szML els + 1 := rfl
  have CS := Lib.hid (statement_any W0 w G b n s ok vl vd vt va own ar (by omega) dn S gs os op line name arg ix ex body els hS hok hoi hix (by omega) hnm hth hW hs)
  obtain ⟨⟨e, d1⟩, hst⟩ : ∃ r, stmtE s own ar dn (.mk op line name arg ix ex body els) = r := ⟨_, rfl⟩
  rw [hst] at CS
  have HW := Lib.hid hW
  have HSm := Lib.hid hs
  have HN := Lib.hid hn
  have HSZ := Lib.hid hsz
  by_cases h0 : e = 0
  · subst h0
    have har : ar.length < 6 := stmtE_shallow (x := .mk op line name arg ix ex body els) (by rw [hst])
    obtain ⟨⟨⟨e1, l1⟩, d2⟩, hb1⟩ : ∃ r, visitL s own (ar ++ [((op : Int), name)]) d1 body = r := ⟨_, rfl⟩
    obtain ⟨a9, c9, a10, c10, hcl, hsb, hse⟩ := hs.lists
    obtain ⟨i0, hi, hz0, hz1, hz2⟩ := info_parts Tryz.infoPS
    have CB := Lib.hid (fun w2 va2 hw2 => ihb d1 (n + 1) va2 w2 _ (by omega) har hw2 hsb)
    rw [hb1] at CB
    have HCL := Lib.hid hcl
    obtain ⟨L, hL, hrow0, hLc⟩ := hW.row
    have HL := Lib.hid hL
    have HLC := Lib.hid hLc
    have HROW0 := Lib.hid hrow0
    have hLl : L.length < 6 := by rw [hL, List.length_map] at har; exact har
    obtain ⟨m, hm⟩ : ∃ m, m = ar.length := ⟨_, rfl⟩
    have HM := Lib.hid hm
    have hm6 : m < 6 := by omega
    have hw1 : IntKind.i64.wrap ((m : Int) + 1 - 1) = (m : Int) := by rw [Int.add_sub_cancel]; exact IntWalk.i64_in _ (by omega)
    have hw2 : IntKind.i64.wrap (m : Int) = (m : Int) := IntWalk.i64_in _ (by omega)
    have CBL : Hid (body.length ≤ 100000 ∧ els.length ≤ 100000) := Lib.hid ⟨hbl, hel⟩
    by_cases h1 : e1 = 0
    · subst h1
      obtain ⟨⟨⟨e2, l2⟩, d3⟩, hb2⟩ : ∃ r, visitL s own (ar ++ [((op : Int), name)]) d2 els = r := ⟨_, rfl⟩
      have CE := Lib.hid (fun w2 va2 hw2 => ihe d2 (n + 1 + szML body) va2 w2 _ (by omega) har hw2 hse)
      rw [hb2] at CE
      have HA := Lib.hid (show visitS s own ar dn (.mk op line name arg ix ex body els) = ((e2, l2), d3) by simp only [visitS]; rw [hst, hb1]; simp only [if_true]; exact hb2)
      clear hst hb1 hb2 hs hn hsz hm hL hLc hrow0 hcl hsb hse hal har hbl hel hW ihb ihe hok hoi hix
      go_enter Tryz.func81, Tryz.ntmps81
      go_wp2_with (first
        | (go_at_call 107; refine CS.out.mono ?_; rintro x w2 ⟨rfl, hk2, hd2⟩; have hw2k := HW.out.mark hk2 hd2; have HW2 := Lib.hid hw2k; have g4 := hw2k.c4; have hGw := hw2k.lt; have hbw := hw2k.done.lt; have HROW := Lib.hid (ownsRow_up (ownsRow_of_blocks HROW0.out (fun g hg hlt => hk2.block g hlt (fun e => HW.out.gb (by rw [hg, e])))) (fun g hg => (show max G b + 1 ≤ g by have := HW.out.up g hg; omega))); clear hk2 hd2 hw2k)
        | (at_builtin; refine wpList_append_own _ rfl (.tmp 23) (.tmp 25) 114 rfl (max G b + 1) 146 i0 (.pointer none) 1 8 Tryz.underlying114 hi hz0 hz1 hz2 rfl (by decide) va L.length (L.map fun x => .pointer (some ⟨x.1, x.2.1, none⟩)) rfl (HROW.out.alloc _) ⟨w2.heap.size, 0, none⟩ 1 1 [.pointer (some ⟨gs, os, none⟩)] rfl rfl (by intro j u hj; match j, hj with | 0, hj => simp at hj; subst hj; simp [Addr.add] | j + 1, hj => simp at hj) (by intro u hu; simp at hu; subst hu; rfl) (by unfold maxLen; omega) (by omega) (by simp; omega) ?_; intro v4 w4 hown4 hgrow4 hnil4; obtain ⟨A4, q4, hv4⟩ := row_form hown4; subst hv4; have hw5 := HW2.out.push HL.out HLC.out ((HSm.out.f (Below.refl _ _)).s0 W0 (Below.refl _ _)) ((HSm.out.f (Below.refl _ _)).s2 W0 (Below.refl _ _)) hown4 hgrow4; have HW5 := Lib.hid hw5; obtain ⟨k9, k10⟩ := HCL.out _ hw5.bel; have j4 : w4.cell? ⟨G, 4, none⟩ = some va := (World.cell?_of_block (a := ⟨G, 4, none⟩) ((hgrow4.block G (by simp; omega) (fun e => HW2.out.gG e.symm)).trans (Below.heap_alloc _ _ _ hGw))).trans g4; have f4 : w4.frozen? ⟨G, 4, none⟩ = false := (World.frozen?_of_block (a := ⟨G, 4, none⟩) ((hgrow4.block G (by simp; omega) (fun e => HW2.out.gG e.symm)).trans (Below.heap_alloc _ _ _ hGw))).trans (HW2.out.fz 4); clear hw5 hown4 hgrow4 hnil4 g4)
        | (go_at_call 49; (with_reducible refine (CE.out _ _ HW6.out).mono ?_); rintro x w7 ⟨rfl, va7, hw7⟩; have HW7 := Lib.hid hw7; clear hw7)
        | (go_at_call 49; (with_reducible refine (CB.out _ _ HW5.out).mono ?_); rintro x w6 ⟨rfl, va6, hw6⟩; have HW6 := Lib.hid hw6; obtain ⟨_, r10⟩ := HCL.out _ hw6.bel; clear hw6))
      have HD := Lib.hid (HW7.out.below (Below.refl w7.heap.size w7).drew)
      obtain ⟨g7, c7, hva7, hcp7, hpop⟩ := HD.out.pop
      have z4 := HD.out.c4
      have zf := HD.out.fz 4
      rw [hva7, ← HM.out] at z4
      rw [← HM.out] at hcp7 hpop
      have hcpi : (m : Int) ≤ (c7 : Int) := by omega
      have y4 : w7.cell? ⟨G, 4, none⟩ = some (.slice (some ⟨g7, 0, none⟩) (m + 1) c7) := z4
      have HPOP := Lib.hid hpop
      clear hva7 hpop
      go_still_tail 14, (by kernel_rfl)
      change wpList _ _ _ _ _ w7.drew
      generalize w7.drew = wd at z4 zf HPOP HD ⊢
      go_wp2_with fail
      refine bodyPost_ret (v := .tuple #[.int .i64 (e2 : Nat), .int .i64 (l2 : Nat)]) (by simp [results, Tryz.results81, go_sem]) rfl ⟨by rw [HA.out], .slice (some ⟨g7, 0, none⟩) m c7, ?_⟩
      rw [HA.out]
      exact HPOP.out.mono (by have := HSZ.out; omega)
    · have HA := Lib.hid (show visitS s own ar dn (.mk op line name arg ix ex body els) = ((e1, l1), d2) by simp only [visitS]; rw [hst, hb1]; simp only [if_true, if_neg h1])
      have h1i : ¬ ((e1 : Nat) : Int) = 0 := by omega
      clear hst hb1 hs hn hsz hm hL hLc hrow0 hcl hsb hse hal har hbl hel hW ihb ihe hok hoi hix h1
      go_enter Tryz.func81, Tryz.ntmps81
      go_wp2_with (first
        | (go_at_call 107; refine CS.out.mono ?_; rintro x w2 ⟨rfl, hk2, hd2⟩; have hw2k := HW.out.mark hk2 hd2; have HW2 := Lib.hid hw2k; have g4 := hw2k.c4; have hGw := hw2k.lt; have hbw := hw2k.done.lt; have HROW := Lib.hid (ownsRow_up (ownsRow_of_blocks HROW0.out (fun g hg hlt => hk2.block g hlt (fun e => HW.out.gb (by rw [hg, e])))) (fun g hg => (show max G b + 1 ≤ g by have := HW.out.up g hg; omega))); clear hk2 hd2 hw2k)
        | (at_builtin; refine wpList_append_own _ rfl (.tmp 23) (.tmp 25) 114 rfl (max G b + 1) 146 i0 (.pointer none) 1 8 Tryz.underlying114 hi hz0 hz1 hz2 rfl (by decide) va L.length (L.map fun x => .pointer (some ⟨x.1, x.2.1, none⟩)) rfl (HROW.out.alloc _) ⟨w2.heap.size, 0, none⟩ 1 1 [.pointer (some ⟨gs, os, none⟩)] rfl rfl (by intro j u hj; match j, hj with | 0, hj => simp at hj; subst hj; simp [Addr.add] | j + 1, hj => simp at hj) (by intro u hu; simp at hu; subst hu; rfl) (by unfold maxLen; omega) (by omega) (by simp; omega) ?_; intro v4 w4 hown4 hgrow4 hnil4; obtain ⟨A4, q4, hv4⟩ := row_form hown4; subst hv4; have hw5 := HW2.out.push HL.out HLC.out ((HSm.out.f (Below.refl _ _)).s0 W0 (Below.refl _ _)) ((HSm.out.f (Below.refl _ _)).s2 W0 (Below.refl _ _)) hown4 hgrow4; have HW5 := Lib.hid hw5; obtain ⟨k9, k10⟩ := HCL.out _ hw5.bel; have j4 : w4.cell? ⟨G, 4, none⟩ = some va := (World.cell?_of_block (a := ⟨G, 4, none⟩) ((hgrow4.block G (by simp; omega) (fun e => HW2.out.gG e.symm)).trans (Below.heap_alloc _ _ _ hGw))).trans g4; have f4 : w4.frozen? ⟨G, 4, none⟩ = false := (World.frozen?_of_block (a := ⟨G, 4, none⟩) ((hgrow4.block G (by simp; omega) (fun e => HW2.out.gG e.symm)).trans (Below.heap_alloc _ _ _ hGw))).trans (HW2.out.fz 4); clear hw5 hown4 hgrow4 hnil4 g4)
        | (go_at_call 49; (with_reducible refine (CB.out _ _ HW5.out).mono ?_); rintro x w6 ⟨rfl, va6, hw6⟩; have HW6 := Lib.hid hw6; obtain ⟨_, r10⟩ := HCL.out _ hw6.bel; clear hw6))
      have HD := Lib.hid (HW6.out.below (Below.refl w6.heap.size w6).drew)
      obtain ⟨g7, c7, hva7, hcp7, hpop⟩ := HD.out.pop
      have z4 := HD.out.c4
      have zf := HD.out.fz 4
      rw [hva7, ← HM.out] at z4
      rw [← HM.out] at hcp7 hpop
      have hcpi : (m : Int) ≤ (c7 : Int) := by omega
      have y4 : w6.cell? ⟨G, 4, none⟩ = some (.slice (some ⟨g7, 0, none⟩) (m + 1) c7) := z4
      have HPOP := Lib.hid hpop
      clear hva7 hpop
      go_still_tail 14, (by kernel_rfl)
      change wpList _ _ _ _ _ w6.drew
      generalize w6.drew = wd at z4 zf HPOP HD ⊢
      go_wp2_with fail
      refine bodyPost_ret (v := .tuple #[.int .i64 (e1 : Nat), .int .i64 (l1 : Nat)]) (by simp [results, Tryz.results81, go_sem]) rfl ⟨by rw [HA.out], .slice (some ⟨g7, 0, none⟩) m c7, ?_⟩
      rw [HA.out]
      exact HPOP.out.mono (by have := HSZ.out; omega)
  · have HA := Lib.hid (show visitS s own ar dn (.mk op line name arg ix ex body els) = ((e, line), d1) by simp only [visitS]; rw [hst, if_neg h0])
    have h0i : ¬ ((e : Nat) : Int) = 0 := by omega
    clear hst h0 hs hn hsz ihb ihe
    go_enter Tryz.func81, Tryz.ntmps81
    go_wp2_with (go_at_call 107; refine CS.out.mono ?_; rintro x w2 ⟨rfl, hk2, hd2⟩; have HW2 := Lib.hid (HW.out.mark hk2 hd2); clear hk2 hd2)
    obtain ⟨_, s1, _, _⟩ := HSm.out.f HW2.out.bel
    refine Gd.wp_region_below 65 (by kernel_rfl) rfl (by kernel_rfl) ?_
    repeat (first
      | (apply Gd.step_eqv
         · intro a x hC hk
           try simp [go_sem] at hk
           simp [go_sem, hk, s1, hC]
           first
             | exact ⟨rfl, Below.refl _ _⟩))
    intro x hC
    simp only [Gd.push, List.reverse_cons, List.reverse_nil, List.nil_append, List.cons_append, Gd.Fin, Gd.eqv, forall_eq]
    simp [Act.put]
    go_wp2_with fail
    refine bodyPost_ret (v := .tuple #[.int .i64 (e : Nat), .int .i64 (line : Nat)]) (by simp [results, Tryz.results81, go_sem]) rfl ⟨by rw [HA.out], va, ?_⟩
    rw [HA.out]
    exact (HW2.out.below hC).mono (by have := HSZ.out; omega)
end Ck
end Go.Proofs.YtncflfadgcaldaaGreatDoor

namespace Go.Proofs.YtncflfadgcaldaaGreatDoor
open Go.RowKit
open Par Tok

namespace Ck
theorem flat_at {α : Type} (f : α → List Value) (n : Nat) (hn : ∀ x, (f x).length = n) : ∀ (l : List α) (k : Nat) (h : k < l.length) (j : Nat), j < n → (l.flatMap f)[k * n + j]? = (f l[k])[j]?
  | [], k, h, _, _ => absurd h (by simp)
  | x :: r, 0, _, j, hj => by
    simp only [List.flatMap_cons, Nat.zero_mul, Nat.zero_add, List.getElem_cons_zero]
    rw [List.getElem?_append_left (by rw [hn]; exact hj)]
  | x :: r, k + 1, h, j, hj => by
    simp only [List.flatMap_cons, List.getElem_cons_succ]
    rw [List.getElem?_append_right (by rw [hn, Nat.add_mul]; omega), hn, show (k + 1) * n + j - n = k * n + j by rw [Nat.add_mul]; omega]
    exact flat_at f n hn r k (by simpa using h) j hj
/-- A declaration's cells. -/
theorem SlD.at_ {w : World} {S : Nat → Prop} {ds : List Dc} {v : Value} (h : SlD w S ds v) (k : Nat) (hk : k < ds.length) :
    ∃ g cap, v = .slice (some ⟨g, 0, none⟩) ds.length cap ∧ ds.length ≤ cap ∧ g < w.heap.size ∧ w.cell? ⟨g, k * 6, none⟩ = some (.int .i64 ds[k].kind) ∧ w.cell? ⟨g, k * 6 + 1, none⟩ = some (.int .i64 ds[k].line) ∧ w.cell? ⟨g, k * 6 + 2, none⟩ = some (.string ⟨ds[k].name.toArray⟩) ∧
      w.cell? ⟨g, k * 6 + 3, none⟩ = some (.int .i64 ds[k].size) ∧ w.cell? ⟨g, k * 6 + 4, none⟩ = some (.int .i64 ds[k].init) ∧ w.cell? ⟨g, k * 6 + 5, none⟩ = some (.string ⟨ds[k].on.toArray⟩) := by
  obtain ⟨a, cap, rfl, hl⟩ := h
  obtain ⟨g, rfl, _, hc, hcp⟩ := hl.resolve_left (fun e => by rw [e] at hk; simp at hk)
  have key : ∀ j u, j < 6 → (dcells ds[k])[j]? = some u → w.cell? ⟨g, k * 6 + j, none⟩ = some u := fun j u hj hu => hc _ u ((flat_at dcells 6 (fun _ => rfl) ds k hk j hj).trans hu)
  have h0 := key 0 _ (by omega) rfl
  exact ⟨g, cap, rfl, hcp, block_lt_of_cell (a := ⟨g, k * 6 + 0, none⟩) h0, h0, key 1 _ (by omega) rfl, key 2 _ (by omega) rfl, key 3 _ (by omega) rfl, key 4 _ (by omega) rfl, key 5 _ (by omega) rfl⟩
theorem vts_at {w : World} {S : Nat → Prop} : ∀ (l : List Th) (xs : List Value), VTs w S l xs → ∀ (k : Nat) (h : k < l.length), ∃ cs, RdT w S l[k] cs ∧ ∀ j u, cs[j]? = some u → xs[k * 4 + j]? = some u
  | [], _, _, k, h => absurd h (by simp)
  | s :: r, _, hx, 0, _ => by
    obtain ⟨cs, rest, rfl, hs, _⟩ := hx
    refine ⟨cs, hs, fun j u hj => ?_⟩
    have hlt : j < cs.length := (List.getElem?_eq_some_iff.1 hj).1
    rw [Nat.zero_mul, Nat.zero_add, List.getElem?_append_left hlt]
    exact hj
  | s :: r, _, hx, k + 1, h => by
    obtain ⟨cs, rest, rfl, hs, hr⟩ := hx
    obtain ⟨cs2, h2, hat⟩ := vts_at r rest hr k (by simpa using h)
    refine ⟨cs2, h2, fun j u hj => ?_⟩
    have hlen : cs.length = 4 := by
      obtain ⟨_, _, rfl, _⟩ := hs
      rfl
    rw [List.getElem?_append_right (by omega), hlen, show (k + 1) * 4 + j - 4 = k * 4 + j by omega]
    exact hat j u hj
/-- A thread's cells. -/
theorem SlT.at_ {w : World} {S : Nat → Prop} {ts : List Th} {v : Value} (h : SlT w S ts v) (k : Nat) (hk : k < ts.length) :
    ∃ g cap v2 v3, v = .slice (some ⟨g, 0, none⟩) ts.length cap ∧ ts.length ≤ cap ∧ g < w.heap.size ∧ w.cell? ⟨g, k * 4, none⟩ = some (.string ⟨ts[k].name.toArray⟩) ∧ w.cell? ⟨g, k * 4 + 1, none⟩ = some (.int .i64 ts[k].line) ∧
      w.cell? ⟨g, k * 4 + 2, none⟩ = some v2 ∧ w.cell? ⟨g, k * 4 + 3, none⟩ = some v3 ∧ SlN w S ts[k].locals v2 ∧ SlS w S ts[k].body v3 := by
  obtain ⟨a, cap, rfl, hl⟩ := h
  obtain ⟨g, xs, rfl, _, hv, hc, hcp⟩ := hl.resolve_left (fun e => by rw [e] at hk; simp at hk)
  obtain ⟨cs, ⟨v2, v3, rfl, h2, h3⟩, hat⟩ := vts_at ts xs hv k hk
  have h0 := hc _ _ (hat 0 _ rfl)
  exact ⟨g, cap, v2, v3, rfl, hcp, block_lt_of_cell (a := ⟨g, k * 4 + 0, none⟩) h0, h0, hc _ _ (hat 1 _ rfl), hc _ _ (hat 2 _ rfl), hc _ _ (hat 3 _ rfl), h2, h3⟩
theorem SlD.below {w w' : World} {S : Nat → Prop} {l : List Dc} {v : Value} (h : SlD w S l v) (b : Below w.heap.size w w') : SlD w' S l v := by
  obtain ⟨a, cap, rfl, hl⟩ := h
  refine ⟨a, cap, rfl, ?_⟩
  rcases hl with hl | ⟨g, ha, hg, hc, hcp⟩
  · exact .inl hl
  · exact .inr ⟨g, ha, hg, fun j u hj => (b.cell (block_lt_of_cell (hc j u hj))).trans (hc j u hj), hcp⟩
theorem SlN.below {w w' : World} {S : Nat → Prop} {l : List Bs} {v : Value} (h : SlN w S l v) (b : Below w.heap.size w w') : SlN w' S l v :=
  h.turn fun _ _ _ hk hc => ⟨(b.cell (block_lt_of_cell hc)).trans hc, hk⟩
theorem VTs.below {w w' : World} {S : Nat → Prop} {l : List Th} {xs : List Value} (h : VTs w S l xs) (b : Below w.heap.size w w') : VTs w' S l xs :=
  VTs.turn (fun _ _ _ hk hc => ⟨(b.cell (block_lt_of_cell hc)).trans hc, hk⟩) _ _ h
theorem SlT.below {w w' : World} {S : Nat → Prop} {l : List Th} {v : Value} (h : SlT w S l v) (b : Below w.heap.size w w') : SlT w' S l v := by
  obtain ⟨a, cap, rfl, hl⟩ := h
  refine ⟨a, cap, rfl, ?_⟩
  rcases hl with hl | ⟨g, xs, ha, hg, hv, hc, hcp⟩
  · exact .inl hl
  · exact .inr ⟨g, xs, ha, hg, VTs.below hv b, fun j u hj => (b.cell (block_lt_of_cell (hc j u hj))).trans (hc j u hj), hcp⟩
end Ck
end Go.Proofs.YtncflfadgcaldaaGreatDoor

namespace Go.Proofs.YtncflfadgcaldaaGreatDoor
open Go.RowKit
open Par Tok

namespace Ck
theorem countP_le : ∀ (l : List Th) (c : Nat), c ≤ 61 → countP l c ≤ 61
  | [], _, h => h
  | t :: r, c, h => countP_le r _ (countL_le t.body c h)
theorem SlS.below {w w' : World} {S : Nat → Prop} {l : List Sm} {v : Value} (h : SlS w S l v) (b : Below w.heap.size w w') : SlS w' S l v :=
  h.move fun _ _ _ hk hc => ⟨(b.cell (block_lt_of_cell hc)).trans hc, hk⟩

set_option maxHeartbeats 4000000 in
set_option maxRecDepth 100000 in
theorem statementCount_any (w : World) (S : Nat → Prop) (v0 v1 : Value) (ts : List Th) (h : SlT w S ts v1) (hl : ts.length ≤ 100000) :
    Calls Tryz.prog 22 #[.agg #[v0, v1]] w fun x w' => x = .returned (.tuple #[.int .i64 ((errIf (decide (60 < countP ts 0)) 2 : Nat) : Int), .int .i64 0]) ∧ Below w.heap.size w w' := by
  have H := Lib.hid h
  obtain ⟨A, cap, rfl, _⟩ := h
  obtain ⟨R, hR⟩ : ∃ R, countP ts 0 = R := ⟨_, rfl⟩
  have HR := Lib.hid hR
  obtain ⟨n, hn⟩ : ∃ n, n = ts.length := ⟨_, rfl⟩
  have HN := Lib.hid hn
  rw [hR]
  rw [← hn] at hl H ⊢
  have HB := Lib.hid ((Below.refl w.heap.size w).alloc (Nat.le_refl _) (.cells #[v0, .slice A n cap] 25))
  clear hR hn
  go_enter Tryz.func22, Tryz.ntmps22
  go_wp2_with fail
  go_loopw [4, 10] (fun v4 i wr => ∃ k c : Nat, k ≤ n ∧ v4 = .int .i64 c ∧ i = .int .i64 k ∧ Below w.heap.size w wr ∧ c ≤ 61 ∧ countP (ts.drop k) c = R) (fun v4 i _ => n - (intOf i).toNat)
  case atStart => exact ⟨0, 0, by omega, by first | rfl | trivial, by first | rfl | trivial, HB.out, by omega, by simpa using HR.out⟩
  case round =>
    obtain ⟨k, c, hk, rfl, rfl, hbel, hc, hrest⟩ := hrel
    by_cases hkn : k < n
    · have hkd : k < ts.length := by rw [← HN.out]; exact hkn
      have hkni : (k : Int) < (n : Int) := by omega
      obtain ⟨g, cap2, v2, v3, hag, hcp, hg, q0, q1, q2, q3, hsn, hss⟩ := SlT.at_ H.out k hkd
      injection hag with hag1 hag2 hag3
      subst hag1
      have hss2 := hss
      obtain ⟨a2, c2, rfl, _⟩ := hsn
      obtain ⟨a3, c3, rfl, _⟩ := hss
      have e0 := (hbel.cell (p := ⟨g, k * 4, none⟩) hg).trans q0
      have e1 := (hbel.cell (p := ⟨g, k * 4 + 1, none⟩) hg).trans q1
      have e2 := (hbel.cell (p := ⟨g, k * 4 + 2, none⟩) hg).trans q2
      have e3 := (hbel.cell (p := ⟨g, k * 4 + 3, none⟩) hg).trans q3
      have HBR := Lib.hid hbel
      have hst : countP (ts.drop k) c = countP (ts.drop (k + 1)) (countL ts[k].body c) := by
        rw [List.drop_eq_getElem_cons hkd]
        simp only [countP]
      rw [hst] at hrest
      obtain ⟨t, ht⟩ : ∃ t, t = ts[k] := ⟨_, rfl⟩
      rw [← ht] at e0 e1 e2 e3 hrest hss2
      have hle := countL_le t.body c hc
      have CC := Lib.hid (fun W (hb : Below w.heap.size w W) => count_any _ t.body (Nat.lt_succ_self _) W S _ c (SlS.below hss2 hb) hc)
      obtain ⟨q, hq⟩ : ∃ q, q = countL t.body c := ⟨_, rfl⟩
      rw [← hq] at hrest hle CC
      have HS := Lib.hid hrest
      clear q0 q1 q2 q3 hrest hst ht hss2 hbel hq hag2 hag3
      go_wp2_with (go_at_call 47; refine (CC.out _ ?_).mono ?_; exact HBR.out.alloc HBR.out.size _; rintro e w2 ⟨rfl, rfl⟩)
      go_roundw
      case rel => exact ⟨k + 1, q, by omega, by first | rfl | trivial, by go_num, HBR.out.alloc HBR.out.size _, hle, HS.out⟩
      case measure => simp [intOf]; omega
    · have hke : k = n := by omega
      subst hke
      have HS := Lib.hid (show R = c by
        rw [← hrest, HN.out, List.drop_length]
        rfl)
      clear hrest
      by_cases h60 : 60 < c
      · have hi : (60 : Int) < (c : Int) := by omega
        have HD := Lib.hid (show errIf (decide (60 < R)) 2 = errIf true 2 by rw [HS.out]; simp [h60])
        go_wp2_with (go_at_call 43; refine (errorIf_any _ _ _).mono ?_; rintro e w2 ⟨rfl, rfl⟩)
        refine bodyPost_ret (v := .tuple #[.int .i64 ((errIf true 2 : Nat) : Int), .int .i64 0]) ?_ rfl ⟨by rw [HD.out], hbel⟩
        simp [results, Tryz.results22, go_sem]
      · have hi : ¬ (60 : Int) < (c : Int) := by omega
        have HD := Lib.hid (show errIf (decide (60 < R)) 2 = errIf false 2 by rw [HS.out]; simp [h60])
        go_wp2_with (go_at_call 43; refine (errorIf_any _ _ _).mono ?_; rintro e w2 ⟨rfl, rfl⟩)
        refine bodyPost_ret (v := .tuple #[.int .i64 ((errIf false 2 : Nat) : Int), .int .i64 0]) ?_ rfl ⟨by rw [HD.out], hbel⟩
        simp [results, Tryz.results22, go_sem]
end Ck
end Go.Proofs.YtncflfadgcaldaaGreatDoor

namespace Go.Proofs.YtncflfadgcaldaaGreatDoor
open Go.RowKit
open Par Tok

namespace Ck
theorem SlN.ns {w : World} {S : Nat → Prop} {l : List Bs} {v : Value} (h : SlN w S l v) : NsAt w v l := by
  obtain ⟨a, cap, rfl, hl⟩ := h
  rcases hl with rfl | ⟨g, rfl, _, hc, hcp⟩
  · exact ⟨a, cap, rfl, Nat.zero_le _, fun k h => absurd h (by simp)⟩
  · refine ⟨_, cap, rfl, hcp, fun k h => ?_⟩
    have h0 := hc k (.string ⟨l[k].toArray⟩) (by simp [strs, h])
    exact ⟨g, rfl, block_lt_of_cell h0, h0⟩
theorem localsE_step {ds : List Dc} {ts l : List Th} {k : Nat} (hk : k < l.length) : localsE ds ts (l.drop k) = if 4 < l[k].locals.length then (2, l[k].line) else if localsL ds ts [] l[k].locals = true then (4, l[k].line) else localsE ds ts (l.drop (k + 1)) := by
  rw [List.drop_eq_getElem_cons hk]
  simp only [localsE]
theorem localsL_step {ds : List Dc} {ts : List Th} {l : List Bs} {k : Nat} (hk : k < l.length) : localsL ds ts (l.take k) (l.drop k) = if 0 ≤ idxD ds l[k] ∨ 0 ≤ idxT ts l[k] ∨ (l.take k).contains l[k] = true then true else localsL ds ts (l.take (k + 1)) (l.drop (k + 1)) := by
  rw [List.drop_eq_getElem_cons hk]
  simp only [localsL]
  rw [List.take_succ_eq_append_getElem hk]

set_option maxHeartbeats 4000000 in
set_option maxRecDepth 100000 in
theorem locals_any (w : World) (S : Nat → Prop) (v0 v1 : Value) (ds : List Dc) (ts : List Th) (hd : DsAt w v0 ds) (hv : TsAt w v1 ts) (h : SlT w S ts v1) (hdl : ds.length ≤ 100000) (hl : ts.length ≤ 100000) :
    Calls Tryz.prog 21 #[.agg #[v0, v1]] w fun x w' => x = .returned (.tuple #[.int .i64 ((localsE ds ts ts).1 : Nat), .int .i64 ((localsE ds ts ts).2 : Nat)]) ∧ Below w.heap.size w w' := by
  obtain ⟨R, hR⟩ : ∃ R, localsE ds ts ts = R := ⟨_, rfl⟩
  rw [hR]
  obtain ⟨R1, R2⟩ := R
  have H := Lib.hid h
  have HVT := Lib.hid hv
  have HDD := Lib.hid hd
  obtain ⟨A, cap, rfl, _⟩ := h
  have HR := Lib.hid hR
  obtain ⟨n, hn⟩ : ∃ n, n = ts.length := ⟨_, rfl⟩
  have HN := Lib.hid hn
  rw [← hn] at hl H HVT ⊢
  have HTL := Lib.hid (show ts.length ≤ 100000 by omega)
  clear hR hn hd hv
  go_enter Tryz.func21, Tryz.ntmps21
  go_wp2_with fail
  go_loopw [11] (fun i wr => ∃ k : Nat, k ≤ n ∧ i = .int .i64 k ∧ Below w.heap.size w wr ∧ wr.cell? ⟨w.heap.size, 0, none⟩ = some v0 ∧ wr.cell? ⟨w.heap.size, 1, none⟩ = some (.slice A n cap) ∧ localsE ds ts (ts.drop k) = (R1, R2)) (fun i _ => n - (intOf i).toNat)
  case atStart =>
    refine ⟨0, by omega, by first | rfl | trivial, ?_, ?_, ?_, by simpa using HR.out⟩
    · exact (Below.refl w.heap.size w).alloc (Nat.le_refl _) _
    · simp
    · simp
  case round =>
    obtain ⟨k, hk, rfl, hbel, hcell0, hcell, hrest⟩ := hrel
    by_cases hkn : k < n
    · have hkd : k < ts.length := by rw [← HN.out]; exact hkn
      have hkni : (k : Int) < (n : Int) := by omega
      obtain ⟨g, cap2, v2, v3, hag, hcp, hg, q0, q1, q2, q3, hsn, hss⟩ := SlT.at_ H.out k hkd
      injection hag with hag1 hag2 hag3
      subst hag1
      have hns := SlN.ns hsn
      obtain ⟨y2, c2, rfl, _⟩ := hsn
      obtain ⟨y3, c3, rfl, _⟩ := hss
      obtain ⟨l3, hl3⟩ : ∃ l3, l3 = ts[k].body.length := ⟨_, rfl⟩
      rw [← hl3] at q3
      have e0 := (hbel.cell (p := ⟨g, k * 4, none⟩) hg).trans q0
      have e1 := (hbel.cell (p := ⟨g, k * 4 + 1, none⟩) hg).trans q1
      have e2 := (hbel.cell (p := ⟨g, k * 4 + 2, none⟩) hg).trans q2
      have e3 := (hbel.cell (p := ⟨g, k * 4 + 3, none⟩) hg).trans q3
      have HB := Lib.hid hbel
      have hstep := localsE_step (ds := ds) (ts := ts) hkd
      rw [hrest] at hstep
      obtain ⟨t, ht⟩ : ∃ t, t = ts[k] := ⟨_, rfl⟩
      rw [← ht] at e0 e1 e2 hstep hns
      have HS := Lib.hid hstep
      have HNS := Lib.hid (hns.below hbel)
      obtain ⟨wq, hwq⟩ : ∃ wq, wq = wr := ⟨_, rfl⟩
      subst hwq
      clear q0 q1 q2 q3 hrest hbel hstep ht hag2 hag3 hns hl3
      by_cases h4 : 4 < t.locals.length
      · have h4i : (4 : Int) < (t.locals.length : Int) := by omega
        have HRR := Lib.hid (show (2, t.line) = (R1, R2) by have := HS.out; rw [if_pos h4] at this; exact this.symm)
        have z1 : (wq.alloc (.cells #[.string ⟨t.name.toArray⟩, .int .i64 t.line, .slice y2 t.locals.length c2, .slice y3 l3 c3] 56)).cell? ⟨wq.heap.size, 1, none⟩ = some (.int .i64 t.line) := by simp
        go_wp2_with fail
        go_quiet (fail)
        go_wp2_with fail
        have hrr := HRR.out
        injection hrr with hr1 hr2
        refine bodyPost_ret (v := .tuple #[.int .i64 2, .int .i64 (t.line : Nat)]) ?_ rfl ⟨by rw [← hr1, ← hr2]; rfl, below_drewN (HB.out.alloc HB.out.size _) _⟩
        clear hr1 hr2
        simp [results, Tryz.results21, go_sem]
      · have h4i : ¬ (4 : Int) < (t.locals.length : Int) := by omega
        have HSS := Lib.hid (show (R1, R2) = if localsL ds ts [] t.locals = true then (4, t.line) else localsE ds ts (ts.drop (k + 1)) by have := HS.out; rwa [if_neg h4] at this)
        go_wp2_with fail
        have hsz := HB.out.size
        obtain ⟨wx, hwx⟩ : ∃ wx, wx = wq.alloc (.cells #[.string ⟨t.name.toArray⟩, .int .i64 t.line, .slice y2 t.locals.length c2, .slice y3 l3 c3] 56) := ⟨_, rfl⟩
        have hb1 : Below wq.heap.size wq wx := by rw [hwx]; exact (Below.refl wq.heap.size wq).alloc (Nat.le_refl _) _
        have a1 : wx.cell? ⟨w.heap.size, 0, none⟩ = some v0 := (hb1.cell (p := ⟨w.heap.size, 0, none⟩) (block_lt_of_cell hcell0)).trans hcell0
        have b1 : wx.cell? ⟨w.heap.size, 1, none⟩ = some (.slice (some ⟨g, 0, none⟩) n cap) := (hb1.cell (p := ⟨w.heap.size, 1, none⟩) (block_lt_of_cell hcell)).trans hcell
        have y1 : wx.cell? ⟨wq.heap.size, 2, none⟩ = some (.slice y2 t.locals.length c2) := by rw [hwx]; simp
        have z1 : wx.cell? ⟨wq.heap.size, 1, none⟩ = some (.int .i64 t.line) := by rw [hwx]; simp
        rw [← hwx]
        have hlw : w.heap.size < wx.heap.size := block_lt_of_cell a1
        have hlB : wq.heap.size < wx.heap.size := block_lt_of_cell z1
        have HBX := Lib.hid (HB.out.trans (hb1.mono hsz))
        have HNX := Lib.hid (HNS.out.below hb1)
        obtain ⟨B, hBB⟩ : ∃ B, B = wq.heap.size := ⟨_, rfl⟩
        obtain ⟨p, hp⟩ : ∃ p, p = t.locals.length := ⟨_, rfl⟩
        have HP := Lib.hid hp
        rw [← hp] at y1 h4i HNX ⊢
        rw [← hBB] at y1 z1 hlB ⊢
        have hp4 : p ≤ 4 := by omega
        obtain ⟨cf, hcf⟩ : ∃ cf, localsL ds ts [] t.locals = cf := ⟨_, rfl⟩
        rw [hcf] at HSS
        have HCF := Lib.hid hcf
        have hpc : p ≤ c2 := by
          obtain ⟨_, _, hv, hc, _⟩ := HNX.out
          injection hv with _ _ hv
          omega
        clear hwx e0 e1 e2 e3 hcell0 hcell hb1 hp hBB hcf HNS
        go_loopw [24] (fun i wr => ∃ j : Nat, j ≤ p ∧ i = .int .i64 j ∧ Below wx.heap.size wx wr ∧ localsL ds ts (t.locals.take j) (t.locals.drop j) = cf) (fun i _ => p - (intOf i).toNat)
        case atStart => exact ⟨0, by omega, by first | rfl | trivial, Below.refl _ _, by simpa using HCF.out⟩
        case round =>
          obtain ⟨j, hj, rfl, hbi, hri⟩ := hrel
          have HBI := Lib.hid hbi
          have a5 := (hbi.cell (p := ⟨w.heap.size, 0, none⟩) hlw).trans a1
          by_cases hjp : j < p
          · have hjl : j < t.locals.length := by rw [← HP.out]; exact hjp
            have hjpi : (j : Int) < (p : Int) := by omega
            have hjc : (j : Int) ≤ (c2 : Int) := by omega
            have hnn := HNX.out
            obtain ⟨A3, cap3, hv3, _, hcn⟩ := hnn
            injection hv3 with hv31 hv32 hv33
            obtain ⟨g3, hA3, hg3, hn3⟩ := hcn j hjl
            rw [← hv31] at hA3
            subst hA3
            have n3 := (hbi.cell (p := ⟨g3, j, none⟩) hg3).trans hn3
            have hls := localsL_step (ds := ds) (ts := ts) hjl
            rw [hri] at hls
            obtain ⟨nm, hnm⟩ : ∃ nm, nm = t.locals[j] := ⟨_, rfl⟩
            rw [← hnm] at n3 hls
            obtain ⟨i1, hi1⟩ : ∃ i, idxD ds nm = i := ⟨_, rfl⟩
            obtain ⟨i2, hi2⟩ : ∃ i, idxT ts nm = i := ⟨_, rfl⟩
            obtain ⟨b3, hb3⟩ : ∃ b, (t.locals.take j).contains nm = b := ⟨_, rfl⟩
            rw [hi1, hi2, hb3] at hls
            have HLS := Lib.hid hls
            have C1 := Lib.hid (fun W (hb : Below wx.heap.size wx W) => declarationOf_at W v0 ds ⟨nm.toArray⟩ i1 hi1 (HDD.out.below (HBX.out.trans (hb.mono HBX.out.size))) hdl)
            have C2 := Lib.hid (fun W (hb : Below wx.heap.size wx W) => threadOf_at W (.slice (some ⟨g, 0, none⟩) n cap) ts ⟨nm.toArray⟩ i2 hi2 (HVT.out.below (HBX.out.trans (hb.mono HBX.out.size))) HTL.out)
            have C3 := Lib.hid (fun W (hb : Below wx.heap.size wx W) => containsS_at W (.slice (some ⟨g3, 0, none⟩) j c2) (t.locals.take j) ⟨nm.toArray⟩ b3 hb3 ((HNX.out.below hb).take j (by omega)) (by rw [List.length_take]; omega))
            clear hls hri hn3 hnm hi1 hi2 hb3 hbi hcn hv31 hv32 hv33
            by_cases h1 : 0 ≤ i1
            · have HRR := Lib.hid (show (4, t.line) = (R1, R2) by
                have hc : cf = true := by have := HLS.out; rwa [if_pos (Or.inl h1)] at this
                have := HSS.out
                rw [if_pos hc] at this
                exact this.symm)
              go_wp2_with (go_at_call 44; refine (C1.out _ HBI.out).mono ?_; rintro e w5 ⟨rfl, hb5⟩; have hb5' := HBI.out.trans (hb5.mono HBI.out.size); have u1 := (hb5'.cell (p := ⟨w.heap.size, 1, none⟩) hlw).trans b1; have z5 := (hb5'.cell (p := ⟨B, 1, none⟩) hlB).trans z1; have y5 := (hb5'.cell (p := ⟨B, 2, none⟩) hlB).trans y1)
              go_quiet (fail)
              go_wp2_with fail
              have hbz := hb5'
              have hrr := HRR.out
              injection hrr with hr1 hr2
              refine bodyPost_ret (v := .tuple #[.int .i64 4, .int .i64 (t.line : Nat)]) ?_ rfl ⟨by rw [← hr1, ← hr2]; rfl, below_drewN (HBX.out.trans (hbz.mono HBX.out.size)) _⟩
              clear hr1 hr2
              simp [results, Tryz.results21, go_sem]
            · have h1d : decide (0 ≤ i1) = false := by simpa using h1
              by_cases h2 : 0 ≤ i2
              · have HRR := Lib.hid (show (4, t.line) = (R1, R2) by
                  have hc : cf = true := by have := HLS.out; rwa [if_pos (Or.inr (Or.inl h2))] at this
                  have := HSS.out
                  rw [if_pos hc] at this
                  exact this.symm)
                go_wp2_with (first
                | (go_at_call 44; refine (C1.out _ HBI.out).mono ?_; rintro e w5 ⟨rfl, hb5⟩; have hb5' := HBI.out.trans (hb5.mono HBI.out.size); have u1 := (hb5'.cell (p := ⟨w.heap.size, 1, none⟩) hlw).trans b1; have z5 := (hb5'.cell (p := ⟨B, 1, none⟩) hlB).trans z1; have y5 := (hb5'.cell (p := ⟨B, 2, none⟩) hlB).trans y1)
                | (go_at_call 45; refine (C2.out _ hb5').mono ?_; rintro e w6 ⟨rfl, hb6⟩; have hb6' := hb5'.trans (hb6.mono hb5'.size); have z6 := (hb6'.cell (p := ⟨B, 1, none⟩) hlB).trans z1; have y6 := (hb6'.cell (p := ⟨B, 2, none⟩) hlB).trans y1))
                go_quiet (fail)
                go_wp2_with fail
                have hbz := hb6'
                have hrr := HRR.out
                injection hrr with hr1 hr2
                refine bodyPost_ret (v := .tuple #[.int .i64 4, .int .i64 (t.line : Nat)]) ?_ rfl ⟨by rw [← hr1, ← hr2]; rfl, below_drewN (HBX.out.trans (hbz.mono HBX.out.size)) _⟩
                clear hr1 hr2
                simp [results, Tryz.results21, go_sem]
              · have h2d : decide (0 ≤ i2) = false := by simpa using h2
                cases b3
                · have HCC := Lib.hid (show localsL ds ts (t.locals.take (j + 1)) (t.locals.drop (j + 1)) = cf by
                    have := HLS.out
                    rw [if_neg (by intro h; rcases h with h | h | h; exact h1 h; exact h2 h; exact absurd h (by decide))] at this
                    exact this.symm)
                  go_wp2_with (first
                | (go_at_call 44; refine (C1.out _ HBI.out).mono ?_; rintro e w5 ⟨rfl, hb5⟩; have hb5' := HBI.out.trans (hb5.mono HBI.out.size); have u1 := (hb5'.cell (p := ⟨w.heap.size, 1, none⟩) hlw).trans b1; have z5 := (hb5'.cell (p := ⟨B, 1, none⟩) hlB).trans z1; have y5 := (hb5'.cell (p := ⟨B, 2, none⟩) hlB).trans y1)
                | (go_at_call 45; refine (C2.out _ hb5').mono ?_; rintro e w6 ⟨rfl, hb6⟩; have hb6' := hb5'.trans (hb6.mono hb5'.size); have z6 := (hb6'.cell (p := ⟨B, 1, none⟩) hlB).trans z1; have y6 := (hb6'.cell (p := ⟨B, 2, none⟩) hlB).trans y1)
                | (go_at_call 46; refine (C3.out _ hb6').mono ?_; rintro e w7 ⟨rfl, hb7⟩; have hb7' := hb6'.trans (hb7.mono hb6'.size); have z7 := (hb7'.cell (p := ⟨B, 1, none⟩) hlB).trans z1))
                  go_roundw
                  case rel => exact ⟨j + 1, by omega, by go_num, hb7', HCC.out⟩
                  case measure => simp [intOf]; omega
                · have HRR := Lib.hid (show (4, t.line) = (R1, R2) by
                    have hc : cf = true := by have := HLS.out; rwa [if_pos (Or.inr (Or.inr rfl))] at this
                    have := HSS.out
                    rw [if_pos hc] at this
                    exact this.symm)
                  go_wp2_with (first
                | (go_at_call 44; refine (C1.out _ HBI.out).mono ?_; rintro e w5 ⟨rfl, hb5⟩; have hb5' := HBI.out.trans (hb5.mono HBI.out.size); have u1 := (hb5'.cell (p := ⟨w.heap.size, 1, none⟩) hlw).trans b1; have z5 := (hb5'.cell (p := ⟨B, 1, none⟩) hlB).trans z1; have y5 := (hb5'.cell (p := ⟨B, 2, none⟩) hlB).trans y1)
                | (go_at_call 45; refine (C2.out _ hb5').mono ?_; rintro e w6 ⟨rfl, hb6⟩; have hb6' := hb5'.trans (hb6.mono hb5'.size); have z6 := (hb6'.cell (p := ⟨B, 1, none⟩) hlB).trans z1; have y6 := (hb6'.cell (p := ⟨B, 2, none⟩) hlB).trans y1)
                | (go_at_call 46; refine (C3.out _ hb6').mono ?_; rintro e w7 ⟨rfl, hb7⟩; have hb7' := hb6'.trans (hb7.mono hb6'.size); have z7 := (hb7'.cell (p := ⟨B, 1, none⟩) hlB).trans z1))
                  go_quiet (fail)
                  go_wp2_with fail
                  have hbz := hb7'
                  have hrr := HRR.out
                  injection hrr with hr1 hr2
                  refine bodyPost_ret (v := .tuple #[.int .i64 4, .int .i64 (t.line : Nat)]) ?_ rfl ⟨by rw [← hr1, ← hr2]; rfl, below_drewN (HBX.out.trans (hbz.mono HBX.out.size)) _⟩
                  clear hr1 hr2
                  simp [results, Tryz.results21, go_sem]
          · have hje : j = p := by omega
            subst hje
            have HCC := Lib.hid (show cf = false by
              rw [← hri, HP.out, List.drop_length]
              rfl)
            have HNX2 := Lib.hid (show localsE ds ts (ts.drop (k + 1)) = (R1, R2) by
              have := HSS.out
              rw [HCC.out] at this
              simpa using this.symm)
            have c0 := (HBI.out.cell (p := ⟨w.heap.size, 0, none⟩) hlw).trans a1
            have c1 := (HBI.out.cell (p := ⟨w.heap.size, 1, none⟩) hlw).trans b1
            clear hri hbi
            go_wp2_with fail
            go_roundw
            case rel => exact ⟨k + 1, by omega, by go_num, HBX.out.trans (HBI.out.mono HBX.out.size), c0, c1, HNX2.out⟩
            case measure => simp [intOf]; omega
    · have hke : k = n := by omega
      subst hke
      have hrr : (0, 0) = (R1, R2) := by
        rw [← hrest, HN.out, List.drop_length]
        rfl
      injection hrr with hr1 hr2
      subst hr1 hr2
      clear hrest
      go_wp2_with fail
      refine bodyPost_ret (v := .tuple #[.int .i64 0, .int .i64 0]) ?_ rfl ⟨rfl, hbel⟩
      simp [results, Tryz.results21, go_sem]
end Ck
end Go.Proofs.YtncflfadgcaldaaGreatDoor

namespace Go.Proofs.YtncflfadgcaldaaGreatDoor
open Go.RowKit
open Par Tok

namespace Ck

theorem declE_ok {d : Dc} {e : List Dc} {t : Tot} (h : (declE d e t).1 = 0) : tooT (declE d e t).2 = false := by
  revert h
  unfold declE
  split
  · simp
  split
  · simp
  split
  · simp
  rename_i h
  have h : tooT (addT t d) = false := by simpa using h
  split
  · intro _
    exact h
  · intro _
    exact h
theorem declsE_step {ds : List Dc} {k : Nat} {t : Tot} (hk : k < ds.length) : declsE (ds.take k) (ds.drop k) t = if (declE ds[k] (ds.take k) t).1 = 0 then declsE (ds.take (k + 1)) (ds.drop (k + 1)) (declE ds[k] (ds.take k) t).2 else ((declE ds[k] (ds.take k) t).1, ds[k].line) := by
  rw [List.drop_eq_getElem_cons hk]
  simp only [declsE]
  rw [List.take_succ_eq_append_getElem hk]
theorem declsE_end {ds : List Dc} {t : Tot} : declsE (ds.take ds.length) (ds.drop ds.length) t = (0, 0) := by
  rw [List.drop_length]
  simp only [declsE]

theorem declaration_at (w : World) (vd : Value) (ds : List Dc) (d : Dc) (G : Nat) (t : Tot) (e : Nat) (t' : Tot) (he : declE d ds t = (e, t')) (hv : DsAt w vd ds) (hl : ds.length ≤ 100000) (hG : TotAt w G t) (ht : tooT t = false) (hne : vd.ownBlock ≠ some G) :
    Calls Tryz.prog 42 #[.agg #[.int .i64 d.kind, .int .i64 d.line, .string ⟨d.name.toArray⟩, .int .i64 d.size, .int .i64 d.init, .string ⟨d.on.toArray⟩], vd, .pointer (some ⟨G, 0, none⟩)] w fun x w' => x = .returned (.int .i64 (e : Nat)) ∧ Kept G w w' ∧ TotAt w' G t' := by
  have h := declaration_any w vd ds d G t hv hl hG ht hne
  rw [he] at h
  exact h

set_option maxHeartbeats 2000000 in
set_option maxRecDepth 100000 in
theorem declarations_any (w : World) (v0 v1 : Value) (ds : List Dc) (hv : DsAt w v0 ds) (hl : ds.length ≤ 100000) :
    Calls Tryz.prog 18 #[.agg #[v0, v1]] w fun x w' => x = .returned (.tuple #[.int .i64 ((declsE [] ds (0, 0, 0, 0)).1 : Nat), .int .i64 ((declsE [] ds (0, 0, 0, 0)).2 : Nat)]) ∧ Below w.heap.size w w' := by
  obtain ⟨R, hR⟩ : ∃ R, declsE [] ds (0, 0, 0, 0) = R := ⟨_, rfl⟩
  rw [hR]
  obtain ⟨R1, R2⟩ := R
  have hV := hv
  obtain ⟨A, cap, rfl, hcp, hc⟩ := hv
  have HV := Lib.hid hV
  have HC := Lib.hid hc
  have HR := Lib.hid hR
  obtain ⟨n, hn⟩ : ∃ n, n = ds.length := ⟨_, rfl⟩
  have HN := Lib.hid hn
  rw [← hn] at hl hcp HV ⊢
  clear hc hn hV hR
  go_enter Tryz.func18, Tryz.ntmps18
  go_wp2_with fail
  go_loopw [11] (fun i wr => ∃ (k : Nat) (t : Tot), k ≤ n ∧ i = .int .i64 k ∧ Below w.heap.size w wr ∧ wr.cell? ⟨w.heap.size, 0, none⟩ = some (.slice A n cap) ∧ TotAt wr (w.heap.size + 1) t ∧ tooT t = false ∧ declsE (ds.take k) (ds.drop k) t = (R1, R2)) (fun i _ => n - (intOf i).toNat)
  case atStart =>
    refine ⟨0, (0, 0, 0, 0), by omega, by first | rfl | trivial, ?_, ?_, ?_, rfl, by simpa using HR.out⟩
    · exact ((Below.refl w.heap.size w).alloc (Nat.le_refl _) _).alloc (by simp) _
    · simp
    · exact Box4.at (by simp)
  case round =>
    obtain ⟨k, t, hk, rfl, hbel, hcell, htot, hto, hrest⟩ := hrel
    by_cases hkn : k < n
    · have hkd : k < ds.length := by rw [← HN.out]; exact hkn
      have hkni : (k : Int) < (n : Int) := by omega
      obtain ⟨g, rfl, hg, q0, q1, q2, q3, q4, q5⟩ := HC.out k hkd
      have e0 := (hbel.cell (p := ⟨g, k * 6, none⟩) hg).trans q0
      have e1 := (hbel.cell (p := ⟨g, k * 6 + 1, none⟩) hg).trans q1
      have e2 := (hbel.cell (p := ⟨g, k * 6 + 2, none⟩) hg).trans q2
      have e3 := (hbel.cell (p := ⟨g, k * 6 + 3, none⟩) hg).trans q3
      have e4 := (hbel.cell (p := ⟨g, k * 6 + 4, none⟩) hg).trans q4
      have e5 := (hbel.cell (p := ⟨g, k * 6 + 5, none⟩) hg).trans q5
      have HD := Lib.hid (HV.out.below hbel)
      have HT := Lib.hid htot
      have HB := Lib.hid hbel
      have HREST := Lib.hid hrest
      have hstep := declsE_step (t := t) hkd
      obtain ⟨d, hd⟩ : ∃ d, d = ds[k] := ⟨_, rfl⟩
      rw [← hd] at e0 e1 e2 e3 e4 e5 hstep
      have HS := Lib.hid hstep
      clear q0 q1 q2 q3 q4 q5 hrest htot hbel hstep hd
      go_wp2_with fail
      have hsz := HB.out.size
      have htl := HT.out.lt
      have hkc : (k : Int) ≤ (cap : Int) := by omega
      obtain ⟨wx, hwx⟩ : ∃ wx, wx = wr.alloc (.cells #[.int .i64 d.kind, .int .i64 d.line, .string ⟨d.name.toArray⟩, .int .i64 d.size, .int .i64 d.init, .string ⟨d.on.toArray⟩] 71) := ⟨_, rfl⟩
      have hb1 : Below wr.heap.size wr wx := by rw [hwx]; exact (Below.refl wr.heap.size wr).alloc (Nat.le_refl _) _
      have hsx : wx.heap.size = wr.heap.size + 1 := by rw [hwx]; simp
      have x0 : wx.cell? ⟨w.heap.size, 0, none⟩ = some (.slice (some ⟨g, 0, none⟩) n cap) := (hb1.cell (p := ⟨w.heap.size, 0, none⟩) (block_lt_of_cell hcell)).trans hcell
      have u40 : wx.cell? ⟨wr.heap.size, 0, none⟩ = some (.int .i64 d.kind) := by rw [hwx]; simp
      have u41 : wx.cell? ⟨wr.heap.size, 1, none⟩ = some (.int .i64 d.line) := by rw [hwx]; simp
      have u42 : wx.cell? ⟨wr.heap.size, 2, none⟩ = some (.string ⟨d.name.toArray⟩) := by rw [hwx]; simp
      have u43 : wx.cell? ⟨wr.heap.size, 3, none⟩ = some (.int .i64 d.size) := by rw [hwx]; simp
      have u44 : wx.cell? ⟨wr.heap.size, 4, none⟩ = some (.int .i64 d.init) := by rw [hwx]; simp
      have u45 : wx.cell? ⟨wr.heap.size, 5, none⟩ = some (.string ⟨d.on.toArray⟩) := by rw [hwx]; simp
      rw [← hwx]
      clear hwx
      have hb2 : Below wr.heap.size wr wx.drew := hb1.drew
      have hsy : wx.drew.heap.size = wr.heap.size + 1 := hsx
      have y0 : wx.drew.cell? ⟨w.heap.size, 0, none⟩ = some (.slice (some ⟨g, 0, none⟩) n cap) := x0
      have z0 : wx.drew.cell? ⟨wr.heap.size, 0, none⟩ = some (.int .i64 d.kind) := u40
      have z1 : wx.drew.cell? ⟨wr.heap.size, 1, none⟩ = some (.int .i64 d.line) := u41
      have z2 : wx.drew.cell? ⟨wr.heap.size, 2, none⟩ = some (.string ⟨d.name.toArray⟩) := u42
      have z3 : wx.drew.cell? ⟨wr.heap.size, 3, none⟩ = some (.int .i64 d.size) := u43
      have z4 : wx.drew.cell? ⟨wr.heap.size, 4, none⟩ = some (.int .i64 d.init) := u44
      have z5 : wx.drew.cell? ⟨wr.heap.size, 5, none⟩ = some (.string ⟨d.on.toArray⟩) := u45
      go_still_tail 5, (by kernel_rfl)
      change wpList _ _ _ _ _ wx.drew
      clear x0 u40 u41 u42 u43 u44 u45 hb1 hsx
      generalize wx.drew = wy at hb2 y0 z0 z1 z2 z3 z4 z5 hsy ⊢
      obtain ⟨⟨q1, q2⟩, hq⟩ : ∃ q, declE d (ds.take k) t = q := ⟨_, rfl⟩
      have CD := Lib.hid (declaration_at wy (.slice (some ⟨g, 0, none⟩) k cap) (ds.take k) d (w.heap.size + 1) t q1 q2 hq ((HD.out.below hb2).take k (by omega)) (by rw [List.length_take]; omega) (HT.out.below hb2) hto (by simp [Value.ownBlock]; omega))
      have HQ := Lib.hid hq
      have hok := declE_ok (d := d) (e := ds.take k) (t := t)
      have hs := HS.out
      rw [hq] at hok hs
      have hrw := HREST.out
      rw [hs] at hrw
      simp only at hrw hok
      have HRW := Lib.hid hrw
      have HOK := Lib.hid hok
      clear hcell e0 e1 e2 e3 e4 e5 hok hs hrw hq
      by_cases h0 : q1 = 0
      · subst h0
        have HRW2 := Lib.hid (show declsE (ds.take (k + 1)) (ds.drop (k + 1)) q2 = (R1, R2) by simpa using HRW.out)
        have HTO := Lib.hid (HOK.out rfl)
        go_wp2_with (go_at_call 42; refine CD.out.mono ?_; rintro e w5 ⟨rfl, hk5, ht5⟩)
        have hcell5 := (hk5.cell (o := 0) (by omega : w.heap.size < wy.heap.size) (by omega)).trans y0
        have hb5 : Below w.heap.size w w5 := Kept.below (HB.out.trans (hb2.mono hsz)) hk5 (by omega) (by omega)
        go_roundw
        case rel => exact ⟨k + 1, q2, by omega, by go_num, hb5, hcell5, ht5, HTO.out, HRW2.out⟩
        case measure => simp [intOf]; omega
      · have h0i : ¬ ((q1 : Nat) : Int) = 0 := by omega
        have hrr : (q1, d.line) = (R1, R2) := by
          have := HRW.out
          rwa [if_neg h0] at this
        have HRR := Lib.hid hrr
        clear hrr
        go_wp2_with (go_at_call 42; refine CD.out.mono ?_; rintro e w5 ⟨rfl, hk5, ht5⟩; have zz5 := (hk5.cell (o := 1) (by omega : wr.heap.size < wy.heap.size) (by omega)).trans z1)
        go_quiet (fail)
        have hb5 : Below w.heap.size w w5 := Kept.below (HB.out.trans (hb2.mono hsz)) hk5 (by omega) (by omega)
        go_wp2_with fail
        have hrr := HRR.out
        injection hrr with hr1 hr2
        refine bodyPost_ret (v := .tuple #[.int .i64 (q1 : Nat), .int .i64 (d.line : Nat)]) ?_ rfl ⟨by rw [← hr1, ← hr2], below_drewN hb5 _⟩
        clear hr1 hr2
        simp [results, Tryz.results18, go_sem]
    · have hke : k = n := by omega
      subst hke
      have hrr : (0, 0) = (R1, R2) := by
        rw [← hrest, HN.out]
        exact declsE_end.symm
      injection hrr with hr1 hr2
      subst hr1 hr2
      clear hrest htot
      go_wp2_with fail
      refine bodyPost_ret (v := .tuple #[.int .i64 0, .int .i64 0]) ?_ rfl ⟨rfl, hbel⟩
      simp [results, Tryz.results18, go_sem]
end Ck
end Go.Proofs.YtncflfadgcaldaaGreatDoor

namespace Go.Proofs.YtncflfadgcaldaaGreatDoor
open Go.RowKit
open Par Tok

namespace Ck

theorem namesT_step {ds : List Dc} {ts : List Th} {k : Nat} (hk : k < ts.length) : namesT ds (ts.take k) (ts.drop k) = if 0 ≤ idxD ds ts[k].name ∨ 0 ≤ idxT (ts.take k) ts[k].name then (4, ts[k].line) else namesT ds (ts.take (k + 1)) (ts.drop (k + 1)) := by
  rw [List.drop_eq_getElem_cons hk]
  simp only [namesT]
  rw [List.take_succ_eq_append_getElem hk]
theorem namesT_end {ds : List Dc} {ts : List Th} : namesT ds (ts.take ts.length) (ts.drop ts.length) = (0, 0) := by
  rw [List.drop_length]
  simp only [namesT]

set_option maxHeartbeats 1000000 in
set_option maxRecDepth 100000 in
theorem threadCount_any (w : World) (v0 : Value) (A : Option Addr) (n cap : Nat) (hl : n ≤ 100000) :
    Calls Tryz.prog 19 #[.agg #[v0, .slice A n cap]] w fun x w' => x = .returned (.tuple #[.int .i64 ((errIf (decide (4 < n)) 2 : Nat) : Int), .int .i64 0]) ∧ Below w.heap.size w w' := by
  have HA := Lib.hid ((Below.refl w.heap.size w).alloc (Nat.le_refl _) (.cells #[v0, .slice A n cap] 25))
  by_cases h : 4 < n
  · have hi : (4 : Int) < (n : Int) := by omega
    have HD := Lib.hid (show errIf (decide (4 < n)) 2 = errIf true 2 by simp [h])
    rw [HD.out]
    go_enter Tryz.func19, Tryz.ntmps19
    go_wp2_with (go_at_call 43; refine (errorIf_any _ _ _).mono ?_; rintro e w2 ⟨rfl, rfl⟩)
    refine bodyPost_ret (v := .tuple #[.int .i64 ((errIf true 2 : Nat) : Int), .int .i64 0]) ?_ rfl ⟨rfl, HA.out⟩
    simp [results, Tryz.results19, go_sem]
  · have hi : ¬ (4 : Int) < (n : Int) := by omega
    have HD := Lib.hid (show errIf (decide (4 < n)) 2 = errIf false 2 by simp [h])
    rw [HD.out]
    go_enter Tryz.func19, Tryz.ntmps19
    go_wp2_with (go_at_call 43; refine (errorIf_any _ _ _).mono ?_; rintro e w2 ⟨rfl, rfl⟩)
    refine bodyPost_ret (v := .tuple #[.int .i64 ((errIf false 2 : Nat) : Int), .int .i64 0]) ?_ rfl ⟨rfl, HA.out⟩
    simp [results, Tryz.results19, go_sem]

set_option maxHeartbeats 40000000 in
set_option maxRecDepth 100000 in
theorem threadNames_any (w : World) (v0 v1 : Value) (ds : List Dc) (ts : List Th) (hd : DsAt w v0 ds) (hv : TsAt w v1 ts) (hdl : ds.length ≤ 100000) (hl : ts.length ≤ 100000) :
    Calls Tryz.prog 20 #[.agg #[v0, v1]] w fun x w' => x = .returned (.tuple #[.int .i64 ((namesT ds [] ts).1 : Nat), .int .i64 ((namesT ds [] ts).2 : Nat)]) ∧ Below w.heap.size w w' := by
  obtain ⟨R, hR⟩ : ∃ R, namesT ds [] ts = R := ⟨_, rfl⟩
  rw [hR]
  obtain ⟨R1, R2⟩ := R
  have hV := hv
  obtain ⟨A, cap, rfl, hcp, hc⟩ := hv
  have HV := Lib.hid hV
  have HDD := Lib.hid hd
  have HC := Lib.hid hc
  have HR := Lib.hid hR
  obtain ⟨n, hn⟩ : ∃ n, n = ts.length := ⟨_, rfl⟩
  have HN := Lib.hid hn
  rw [← hn] at hl hcp HV ⊢
  clear hc hn hV hR hd
  go_enter Tryz.func20, Tryz.ntmps20
  go_wp2_with fail
  go_loopw [9] (fun i wr => ∃ k : Nat, k ≤ n ∧ i = .int .i64 k ∧ Below w.heap.size w wr ∧ wr.cell? ⟨w.heap.size, 0, none⟩ = some v0 ∧ wr.cell? ⟨w.heap.size, 1, none⟩ = some (.slice A n cap) ∧ namesT ds (ts.take k) (ts.drop k) = (R1, R2)) (fun i _ => n - (intOf i).toNat)
  case atStart =>
    refine ⟨0, by omega, by first | rfl | trivial, ?_, ?_, ?_, by simpa using HR.out⟩
    · exact (Below.refl w.heap.size w).alloc (Nat.le_refl _) _
    · simp
    · simp
  case round =>
    obtain ⟨k, hk, rfl, hbel, hcell0, hcell, hrest⟩ := hrel
    by_cases hkn : k < n
    · have hkd : k < ts.length := by rw [← HN.out]; exact hkn
      have hkni : (k : Int) < (n : Int) := by omega
      obtain ⟨g, y2, l2, c2, y3, l3, c3, rfl, hg, q0, q1, q2, q3⟩ := HC.out k hkd
      have e0 := (hbel.cell (p := ⟨g, k * 4, none⟩) hg).trans q0
      have e1 := (hbel.cell (p := ⟨g, k * 4 + 1, none⟩) hg).trans q1
      have e2 := (hbel.cell (p := ⟨g, k * 4 + 2, none⟩) hg).trans q2
      have e3 := (hbel.cell (p := ⟨g, k * 4 + 3, none⟩) hg).trans q3
      have HT := Lib.hid ((HV.out.below hbel).take k (by omega))
      have HD := Lib.hid (HDD.out.below hbel)
      have HB := Lib.hid hbel
      have hstep := namesT_step (ds := ds) hkd
      rw [hrest] at hstep
      obtain ⟨t, ht⟩ : ∃ t, t = ts[k] := ⟨_, rfl⟩
      rw [← ht] at e0 e1 hstep
      have HS := Lib.hid hstep
      clear q0 q1 q2 q3 hrest hbel hstep ht
      go_wp2_with fail
      have hsz := HB.out.size
      have hkc : (k : Int) ≤ (cap : Int) := by omega
      have hk0 : 0 ≤ (k : Int) := by omega
      have hkt : ((k : Nat) : Int).toNat = k := Int.toNat_natCast k
      obtain ⟨wx, hwx⟩ : ∃ wx, wx = wr.alloc (.cells #[.string ⟨t.name.toArray⟩, .int .i64 t.line, .slice y2 l2 c2, .slice y3 l3 c3] 56) := ⟨_, rfl⟩
      have hb1 : Below wr.heap.size wr wx := by rw [hwx]; exact (Below.refl wr.heap.size wr).alloc (Nat.le_refl _) _
      have hsx : wx.heap.size = wr.heap.size + 1 := by rw [hwx]; simp
      have a1 : wx.cell? ⟨w.heap.size, 0, none⟩ = some v0 := (hb1.cell (p := ⟨w.heap.size, 0, none⟩) (block_lt_of_cell hcell0)).trans hcell0
      have b1 : wx.cell? ⟨w.heap.size, 1, none⟩ = some (.slice (some ⟨g, 0, none⟩) n cap) := (hb1.cell (p := ⟨w.heap.size, 1, none⟩) (block_lt_of_cell hcell)).trans hcell
      have c1 : wx.cell? ⟨wr.heap.size, 0, none⟩ = some (.string ⟨t.name.toArray⟩) := by rw [hwx]; simp
      have z1 : wx.cell? ⟨wr.heap.size, 1, none⟩ = some (.int .i64 t.line) := by rw [hwx]; simp
      rw [← hwx]
      have hlw : w.heap.size < wx.heap.size := block_lt_of_cell a1
      have hlr : wr.heap.size < wx.heap.size := block_lt_of_cell c1
      have HBX := Lib.hid (HB.out.trans (hb1.mono hsz))
      obtain ⟨i1, hi1⟩ : ∃ i, idxD ds t.name = i := ⟨_, rfl⟩
      obtain ⟨i2, hi2⟩ : ∃ i, idxT (ts.take k) t.name = i := ⟨_, rfl⟩
      rw [hi1, hi2] at HS
      have C1 := Lib.hid (fun W (hb : Below wx.heap.size wx W) => declarationOf_at W v0 ds ⟨t.name.toArray⟩ i1 hi1 ((HD.out.below hb1).below hb) hdl)
      have C2 := Lib.hid (fun W (hb : Below wx.heap.size wx W) => threadOf_at W (.slice (some ⟨g, 0, none⟩) k cap) (ts.take k) ⟨t.name.toArray⟩ i2 hi2 ((HT.out.below hb1).below hb) (by rw [List.length_take]; omega))
      clear hwx e0 e1 e2 e3 hcell0 hcell hb1 hsx hi1 hi2
      by_cases h1 : 0 ≤ i1
      · have HRR := Lib.hid (show (4, t.line) = (R1, R2) by have := HS.out; rw [if_pos (Or.inl h1)] at this; exact this.symm)
        first
          | (go_region_law (first
            | (go_simp; go_at_call 44; (with_reducible refine (C1.out _ ?_).mono ?_); (first | exact Below.refl _ _ | exact (Below.refl _ _).drew); rintro e w5 ⟨rfl, hb5'⟩; have hb5 : Below wx.heap.size wx w5 := (by first | exact hb5' | exact Below.trans (Below.drew (Below.refl _ wx)) hb5'); have a5 := (hb5.cell (p := ⟨w.heap.size, 0, none⟩) hlw).trans a1; have b5 := (hb5.cell (p := ⟨w.heap.size, 1, none⟩) hlw).trans b1; have c5 := (hb5.cell (p := ⟨wr.heap.size, 0, none⟩) hlr).trans c1)))
          | fail
        all_goals
          have z5 := (hb5.cell (p := ⟨wr.heap.size, 1, none⟩) hlr).trans z1
          clear a5 b5 c5 a1 b1 c1 hb5'
          go_wp2_with fail
          go_quiet (fail)
          go_wp2_with fail
          have hrr := HRR.out
          injection hrr with hr1 hr2
          refine bodyPost_ret (v := .tuple #[.int .i64 4, .int .i64 (t.line : Nat)]) ?_ rfl ⟨by rw [← hr1, ← hr2]; rfl, below_drewN (HBX.out.trans (hb5.mono HBX.out.size)) _⟩
          clear hr1 hr2
          simp [results, Tryz.results20, go_sem]
      · have h1d : decide (0 ≤ i1) = false := by simpa using h1
        by_cases h2 : 0 ≤ i2
        · have HRR := Lib.hid (show (4, t.line) = (R1, R2) by have := HS.out; rw [if_pos (Or.inr h2)] at this; exact this.symm)
          first
            | (go_region_held3 (fun x => x.cell? ⟨w.heap.size, 0, none⟩ = some v0 ∧ x.cell? ⟨w.heap.size, 1, none⟩ = some (.slice (some ⟨g, 0, none⟩) n cap) ∧ x.cell? ⟨wr.heap.size, 0, none⟩ = some (.string ⟨t.name.toArray⟩)) (first | exact ⟨a6, b6, c6⟩ | exact ⟨a5, b5, c5⟩ | exact ⟨a1, b1, c1⟩ | (simp [go_sem, *]; done) | go_keep) (first
            | (go_at_call 45; (with_reducible refine (C2.out _ ?_).mono ?_); (exact hb5); rintro e w6 ⟨rfl, hb6⟩; have a6 := (hb6.cell (p := ⟨w.heap.size, 0, none⟩) (Nat.lt_of_lt_of_le hlw hb5.size)).trans a5; have b6 := (hb6.cell (p := ⟨w.heap.size, 1, none⟩) (Nat.lt_of_lt_of_le hlw hb5.size)).trans b5; have c6 := (hb6.cell (p := ⟨wr.heap.size, 0, none⟩) (Nat.lt_of_lt_of_le hlr hb5.size)).trans c5)
            | (go_at_call 44; (with_reducible refine (C1.out _ ?_).mono ?_); (first | exact Below.refl _ _ | exact (Below.refl _ _).drew); rintro e w5 ⟨rfl, hb5'⟩; have hb5 : Below wx.heap.size wx w5 := (by first | exact hb5' | exact Below.trans (Below.drew (Below.refl _ wx)) hb5'); have a5 := (hb5.cell (p := ⟨w.heap.size, 0, none⟩) hlw).trans a1; have b5 := (hb5.cell (p := ⟨w.heap.size, 1, none⟩) hlw).trans b1; have c5 := (hb5.cell (p := ⟨wr.heap.size, 0, none⟩) hlr).trans c1)))
            | fail
          all_goals
            have z6 := (hb6.cell (p := ⟨wr.heap.size, 1, none⟩) (Nat.lt_of_lt_of_le hlr hb5.size)).trans ((hb5.cell (p := ⟨wr.heap.size, 1, none⟩) hlr).trans z1)
            go_wp2_with fail
            go_quiet (fail)
            go_wp2_with fail
            have hrr := HRR.out
            injection hrr with hr1 hr2
            refine bodyPost_ret (v := .tuple #[.int .i64 4, .int .i64 (t.line : Nat)]) ?_ rfl ⟨by rw [← hr1, ← hr2]; rfl, below_drewN (HBX.out.trans ((hb5.trans (hb6.mono hb5.size)).mono HBX.out.size)) _⟩
            clear hr1 hr2
            simp [results, Tryz.results20, go_sem]
        · have HRR := Lib.hid (show namesT ds (ts.take (k + 1)) (ts.drop (k + 1)) = (R1, R2) by have := HS.out; rw [if_neg (fun h => h.elim h1 h2)] at this; exact this.symm)
          first
            | (go_region_held3 (fun x => x.cell? ⟨w.heap.size, 0, none⟩ = some v0 ∧ x.cell? ⟨w.heap.size, 1, none⟩ = some (.slice (some ⟨g, 0, none⟩) n cap) ∧ x.cell? ⟨wr.heap.size, 0, none⟩ = some (.string ⟨t.name.toArray⟩)) (first | exact ⟨a6, b6, c6⟩ | exact ⟨a5, b5, c5⟩ | exact ⟨a1, b1, c1⟩ | (simp [go_sem, *]; done) | go_keep) (first
            | (go_at_call 45; (with_reducible refine (C2.out _ ?_).mono ?_); (exact hb5); rintro e w6 ⟨rfl, hb6⟩; have a6 := (hb6.cell (p := ⟨w.heap.size, 0, none⟩) (Nat.lt_of_lt_of_le hlw hb5.size)).trans a5; have b6 := (hb6.cell (p := ⟨w.heap.size, 1, none⟩) (Nat.lt_of_lt_of_le hlw hb5.size)).trans b5; have c6 := (hb6.cell (p := ⟨wr.heap.size, 0, none⟩) (Nat.lt_of_lt_of_le hlr hb5.size)).trans c5)
            | (go_at_call 44; (with_reducible refine (C1.out _ ?_).mono ?_); (first | exact Below.refl _ _ | exact (Below.refl _ _).drew); rintro e w5 ⟨rfl, hb5'⟩; have hb5 : Below wx.heap.size wx w5 := (by first | exact hb5' | exact Below.trans (Below.drew (Below.refl _ wx)) hb5'); have a5 := (hb5.cell (p := ⟨w.heap.size, 0, none⟩) hlw).trans a1; have b5 := (hb5.cell (p := ⟨w.heap.size, 1, none⟩) hlw).trans b1; have c5 := (hb5.cell (p := ⟨wr.heap.size, 0, none⟩) hlr).trans c1)))
            | fail
          all_goals
            go_wp2_with fail
            go_roundw
            case rel => exact ⟨k + 1, by omega, by go_num, HBX.out.trans ((hb5.trans (hb6.mono hb5.size)).mono HBX.out.size), a6, b6, HRR.out⟩
            case measure => simp [intOf]; omega
    · have hke : k = n := by omega
      subst hke
      have hrr : (0, 0) = (R1, R2) := by
        rw [← hrest, HN.out]
        exact namesT_end.symm
      injection hrr with hr1 hr2
      subst hr1 hr2
      clear hrest
      go_wp2_with fail
      refine bodyPost_ret (v := .tuple #[.int .i64 0, .int .i64 0]) ?_ rfl ⟨rfl, hbel⟩
      simp [results, Tryz.results20, go_sem]
end Ck
end Go.Proofs.YtncflfadgcaldaaGreatDoor
