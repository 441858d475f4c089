/-
  Package check: whether an expression keeps the limits of its nodes.
  Package check: the names of an expression.
  Package check: the first error of an expression.
  Package check: how many statements a program has.
  Package check: inside which statements a statement stands.
  Package check: inside which statements with a name a statement stands.
  Package check: what an earlier statement has spawned or set; the walk's state in memory.
-/
import Derived.Test.YtncflfadgcaldaaGreatDoorCkF
import Derived.Test.YtncflfadgcaldaaGreatDoorParM
import Derived.Deep.RegionHeld3
import Derived.Test.YtncflfadgcaldaaGreatDoorPstD
import Derived.Test.YtncflfadgcaldaaGreatDoorAwD
import Derived.OwnWalk
import Derived.Maps.OwnOps
import Derived.Maps.OwnSet
import Derived.Maps.Views
import Derived.StillTailTactics
namespace Go.Proofs.YtncflfadgcaldaaGreatDoor
open Go.RowKit
open Par Tok

namespace Ck

/-- The expression lies at this address. -/
def ExAt (w : World) (S : Nat → Prop) (g o : Nat) (e : E) : Prop := ∃ v0 v1 v2 v3, w.cell? ⟨g, o, none⟩ = some v0 ∧ w.cell? ⟨g, o + 1, none⟩ = some v1 ∧ w.cell? ⟨g, o + 2, none⟩ = some v2 ∧ w.cell? ⟨g, o + 3, none⟩ = some v3 ∧ RdE w S e (.agg #[v0, v1, v2, v3])
theorem ExAt.kept {C : Nat} {w w' : World} {S : Nat → Prop} {g o : Nat} {e : E} (hS : ∀ x, S x → x ≠ C) (hg : g ≠ C) (h : ExAt w S g o e) (k : Kept C w w') : ExAt w' S g o e := by
  obtain ⟨v0, v1, v2, v3, h0, h1, h2, h3, he⟩ := h
  have hl : g < w.heap.size := block_lt_of_cell h0
  exact ⟨v0, v1, v2, v3, (k.cell hl hg).trans h0, (k.cell hl hg).trans h1, (k.cell hl hg).trans h2, (k.cell hl hg).trans h3, RdE.turn (fun x _ _ hx hc => ⟨(k.cell (block_lt_of_cell hc) (hS x hx)).trans hc, hx⟩) _ _ he⟩
theorem smallE_le {op n : Int} {nm : ByteArray} {l : List E} {d c : Nat} (h : ¬ (24 < c + 1 ∨ 6 < d)) : smallE (.mk op n nm l) d c = smallL l (d + 1) (c + 1) := by
  simp only [smallE, if_neg h]
theorem smallE_no {op n : Int} {nm : ByteArray} {l : List E} {d c : Nat} (h : 24 < c + 1 ∨ 6 < d) : smallE (.mk op n nm l) d c = (false, c + 1) := by
  simp only [smallE, if_pos h]
theorem smallL_step {l : List E} {k D c : Nat} (h : k < l.length) : smallL (l.drop k) D c = if (smallE l[k] D c).1 = true then smallL (l.drop (k + 1)) D (smallE l[k] D c).2 else smallE l[k] D c := by
  rw [List.drop_eq_getElem_cons h]
  simp only [smallL]
mutual
theorem small_bnd : ∀ (e : E) (d c : Nat), (smallE e d c).1 = true → (smallE e d c).2 ≤ 24
  | .mk op n nm l, d, c, h => by
    by_cases hx : 24 < c + 1 ∨ 6 < d
    · rw [smallE_no hx] at h
      exact absurd h (by simp)
    · rw [smallE_le hx] at h ⊢
      exact smallL_bnd l (d + 1) (c + 1) (by omega) h
theorem smallL_bnd : ∀ (l : List E) (d c : Nat), c ≤ 24 → (smallL l d c).1 = true → (smallL l d c).2 ≤ 24
  | [], d, c, hc, _ => hc
  | e :: r, d, c, hc, h => by
    simp only [smallL] at h ⊢
    by_cases hx : (smallE e d c).1 = true
    · rw [if_pos hx] at h ⊢
      exact smallL_bnd r d _ (small_bnd e d c hx) h
    · rw [if_neg hx] at h ⊢
      exact absurd h hx
end

set_option maxHeartbeats 4000000 in
set_option maxRecDepth 100000 in
theorem small_any : ∀ (N : Nat) (e : E), e.ht ≤ N → ∀ (w : World) (S : Nat → Prop) (g o C d c : Nat), (∀ x, S x → x ≠ C) → g ≠ C → e.ok → ExAt w S g o e → c ≤ 24 → d ≤ 7 → w.cell? ⟨C, 0, none⟩ = some (.int .i64 c) → w.frozen? ⟨C, 0, none⟩ = false →
    Calls Tryz.prog 156 #[.pointer (some ⟨g, o, none⟩), .int .i64 d, .pointer (some ⟨C, 0, none⟩)] w fun x w' => x = .returned (.bool (smallE e d c).1) ∧ Kept C w w' ∧ w'.cell? ⟨C, 0, none⟩ = some (.int .i64 ((smallE e d c).2 : Nat)) ∧ w'.frozen? ⟨C, 0, none⟩ = false := by
  intro N
  induction N with
  | zero => intro e he; cases e; simp [E.ht] at he
  | succ N ih =>
    intro e he w S g o C d c hS hg hok hat hc hd cc fc
    obtain ⟨op, n, nm, l⟩ := e
    have HAT := Lib.hid hat
    obtain ⟨v0, v1, v2, v3, h0, h1, h2, h3, a, cap, hag, hl⟩ := hat
    injection hag with hag
    simp at hag
    obtain ⟨rfl, rfl, rfl, rfl⟩ := hag
    have hlC : C < w.heap.size := block_lt_of_cell cc
    have HKW : Hid (Kept C w (w.setCell ⟨C, 0, none⟩ (.int .i64 ((c : Int) + 1)))) := Lib.hid ((Kept.refl C w).setOwn 0 _)
    by_cases hx : 24 < c + 1 ∨ 6 < d
    · have HR := Lib.hid (smallE_no (op := op) (n := n) (nm := nm) (l := l) hx)
      rw [HR.out]
      by_cases h24 : 24 < c + 1
      · have hc1 : (24 : Int) < (c : Int) + 1 := by omega
        go_enter Tryz.func156, Tryz.ntmps156
        go_wp2_with fail
        go_ret
        exact ⟨rfl, HKW.out, by simp [go_sem, *], by simp [go_sem, *]⟩
      · have hc1 : ¬ (24 : Int) < (c : Int) + 1 := by omega
        have hd1 : (6 : Int) < (d : Int) := by omega
        go_enter Tryz.func156, Tryz.ntmps156
        go_wp2_with fail
        go_ret
        exact ⟨rfl, HKW.out, by simp [go_sem, *], by simp [go_sem, *]⟩
    · have HR := Lib.hid (smallE_le (op := op) (n := n) (nm := nm) (l := l) hx)
      rw [HR.out]
      have hc1 : ¬ (24 : Int) < (c : Int) + 1 := by omega
      have hd1 : ¬ (6 : Int) < (d : Int) := by omega
      have hml := hok.1
      have hokl := hok.2
      have HOK := Lib.hid hokl
      have HHT := Lib.hid (show htL l ≤ N by have := he; simp only [E.ht] at this; omega)
      have IH := Lib.hid ih
      obtain ⟨m, hm⟩ : ∃ m, m = l.length := ⟨_, rfl⟩
      have HM := Lib.hid hm
      rw [← hm] at h3 hml
      obtain ⟨R, hR⟩ : ∃ R, smallL l (d + 1) (c + 1) = R := ⟨_, rfl⟩
      have HRR := Lib.hid hR
      rw [hR]
      have HL := Lib.hid hl
      have hgl : g < w.heap.size := block_lt_of_cell h3
      have HSS := Lib.hid hS
      have k3 : (w.setCell ⟨C, 0, none⟩ (.int .i64 ((c : Int) + 1))).cell? ⟨g, o + 3, none⟩ = some (.slice a m cap) := (HKW.out.cell hgl hg).trans h3
      clear hm hR hl hok hokl he ih h0 h1 h2 hS hx
      go_enter Tryz.func156, Tryz.ntmps156
      go_wp2_with fail
      have k0 : (w.setCell ⟨C, 0, none⟩ (.int .i64 ((c : Int) + 1))).cell? ⟨C, 0, none⟩ = some (.int .i64 (((c + 1 : Nat)) : Int)) := by simp [go_sem, *]
      have kf : (w.setCell ⟨C, 0, none⟩ (.int .i64 ((c : Int) + 1))).frozen? ⟨C, 0, none⟩ = false := by simp [go_sem, *]
      go_loopw [26] (fun i wr => ∃ k c' : Nat, k ≤ m ∧ i = .int .i64 k ∧ Kept C w wr ∧ wr.cell? ⟨C, 0, none⟩ = some (.int .i64 c') ∧ wr.frozen? ⟨C, 0, none⟩ = false ∧ c' ≤ 24 ∧ smallL (l.drop k) (d + 1) c' = R) (fun i _ => m - (intOf i).toNat)
      case atStart => exact ⟨0, c + 1, by omega, by first | rfl | trivial, HKW.out, k0, kf, by omega, by simpa using HRR.out⟩
      case round =>
        obtain ⟨k, c', hk, rfl, hkw, hcc, hff, hc24, hrest⟩ := hrel
        have HK := Lib.hid hkw
        have e3 := (hkw.cell hgl hg).trans h3
        by_cases hkm : k < m
        · have hkl : k < l.length := by rw [← HM.out]; exact hkm
          have hkmi : (k : Int) < (m : Int) := by omega
          obtain ⟨g', rfl, hSg, hrl⟩ := HL.out.resolve_left (fun e => by rw [e] at hkl; simp at hkl)
          have hrat := rdL_at l 0 hrl k hkl
          simp only [Nat.zero_add] at hrat
          have hxa : ExAt wr S g' (k * 4) l[k] := ExAt.kept HSS.out (HSS.out _ hSg) hrat hkw
          have CI := IH.out l[k] (Nat.le_trans (ht_get l k hkl) HHT.out) wr S g' (k * 4) C (d + 1) c' HSS.out (HSS.out _ hSg) (ok_get l HOK.out k hkl) hxa hc24 (by omega) hcc hff
          have hst := smallL_step (D := d + 1) (c := c') hkl
          have hbd := small_bnd l[k] (d + 1) c'
          rw [hrest] at hst
          obtain ⟨⟨b, c2⟩, hb⟩ : ∃ q, smallE l[k] (d + 1) c' = q := ⟨_, rfl⟩
          rw [hb] at CI hst hbd
          simp only at CI hst hbd
          rw [show ((d + 1 : Nat) : Int) = (d : Int) + 1 by omega] at CI
          have HCI := Lib.hid CI
          clear hrat hxa CI hrest hb hrl
          cases b
          · have HS := Lib.hid (show R = (false, c2) by simpa using hst)
            clear hst hbd
            go_wp2_with (go_at_call 156; refine HCI.out.mono ?_; rintro e w2 ⟨rfl, hk2, hc2, hf2⟩)
            go_ret
            exact ⟨by rw [HS.out]; rfl, HK.out.trans hk2, by rw [HS.out]; exact hc2, hf2⟩
          · have HS := Lib.hid (show smallL (l.drop (k + 1)) (d + 1) c2 = R by simpa using hst.symm)
            have HBD := Lib.hid (hbd rfl)
            clear hst hbd
            go_wp2_with (go_at_call 156; refine HCI.out.mono ?_; rintro e w2 ⟨rfl, hk2, hc2, hf2⟩)
            go_roundw
            case rel => exact ⟨k + 1, c2, by omega, by go_num, HK.out.trans hk2, hc2, hf2, HBD.out, HS.out⟩
            case measure => simp [intOf]; omega
        · have hke : k = m := by omega
          subst hke
          have HS := Lib.hid (show R = (true, c') by
            rw [← hrest, HM.out, List.drop_length]
            rfl)
          clear hrest
          go_wp2_with fail
          go_ret
          exact ⟨by rw [HS.out]; rfl, HK.out, by rw [HS.out]; exact hcc, hff⟩
end Ck
end Go.Proofs.YtncflfadgcaldaaGreatDoor

namespace Go.Proofs.YtncflfadgcaldaaGreatDoor
open Go.RowKit
open Par Tok

namespace Ck
theorem ExAt.below {w w' : World} {S : Nat → Prop} {g o : Nat} {e : E} (h : ExAt w S g o e) (b : Below w.heap.size w w') : ExAt w' S g o e := by
  obtain ⟨v0, v1, v2, v3, h0, h1, h2, h3, he⟩ := h
  have hl : g < w.heap.size := block_lt_of_cell h0
  exact ⟨v0, v1, v2, v3, (b.cell (p := ⟨g, o, none⟩) hl).trans h0, (b.cell (p := ⟨g, o + 1, none⟩) hl).trans h1, (b.cell (p := ⟨g, o + 2, none⟩) hl).trans h2, (b.cell (p := ⟨g, o + 3, none⟩) hl).trans h3, RdE.turn (fun x _ _ hx hc => ⟨(b.cell (block_lt_of_cell hc)).trans hc, hx⟩) _ _ he⟩
theorem ZsAt.two (w : World) (a b : Nat) (t : TypeId) (x y : Int) (hx : x = (a : Int)) (hy : y = (b : Int)) : ZsAt (w.alloc (.cells #[.int .i64 x, .int .i64 y] t)) (.slice (some ⟨w.heap.size, 0, none⟩) 2 2) ([a, b].map fun n => ((n : Nat) : Int)) := by
  subst hx hy
  refine ⟨_, 2, rfl, fun k h => ?_⟩
  match k, h with
  | 0, _ => exact ⟨w.heap.size, rfl, by simp, by simp⟩
  | 1, _ => exact ⟨w.heap.size, rfl, by simp, by simp⟩

theorem ZsAt.two_at (w : World) (B : Nat) (a b : Nat) (t : TypeId) (x y : Int) (hx : x = (a : Int)) (hy : y = (b : Int)) (hB : B = w.heap.size) : ZsAt (w.alloc (.cells #[.int .i64 x, .int .i64 y] t)) (.slice (some ⟨B, 0, none⟩) 2 2) ([a, b].map fun n => ((n : Nat) : Int)) := hB ▸ ZsAt.two w a b t x y hx hy
theorem ZsAt.one_at (w : World) (B : Nat) (a : Nat) (t : TypeId) (x : Int) (hx : x = (a : Int)) (hB : B = w.heap.size) : ZsAt (w.alloc (.cells #[.int .i64 x] t)) (.slice (some ⟨B, 0, none⟩) 1 1) ([a].map fun n => ((n : Nat) : Int)) := hB ▸ ZsAt.one w a t x hx

set_option maxHeartbeats 4000000 in
set_option maxRecDepth 100000 in
theorem names_any (s : Sc) (ok : ScOk s) (vl vd vt : Value) : ∀ (N : Nat) (e : E), e.ht ≤ N → ∀ (w : World) (S : Nat → Prop) (g o : Nat), e.ok → ScAt w vl vd vt s → ExAt w S g o e →
    Calls Tryz.prog 157 #[.agg #[vl, vd, vt], .pointer (some ⟨g, o, none⟩)] w fun x w' => x = .returned (.int .i64 (namesE s e : Nat)) ∧ Below w.heap.size w w' := by
  intro N
  induction N with
  | zero => intro e he; cases e; simp [E.ht] at he
  | succ N ih =>
    intro e he w S g o hok hsc hat
    obtain ⟨op, n, nm, l⟩ := e
    obtain ⟨v0, v1, v2, v3, h0, h1, h2, h3, a, cap, hag, hl⟩ := hat
    injection hag with hag
    simp at hag
    obtain ⟨rfl, rfl, rfl, rfl⟩ := hag
    have IH := Lib.hid ih
    have HHT := Lib.hid (show htL l ≤ N by have := he; simp only [E.ht] at this; omega)
    have HOK := Lib.hid hok.2
    have hml := hok.1
    have SOK := Lib.hid ok
    obtain ⟨m, hm⟩ : ∃ m, m = l.length := ⟨_, rfl⟩
    have HM := Lib.hid hm
    have HL := Lib.hid hl
    rw [← hm] at h3 hml
    obtain ⟨wx, hwx⟩ : ∃ wx, wx = w.alloc (.cells #[vl, vd, vt] 113) := ⟨_, rfl⟩
    have hb0 : Below w.heap.size w wx := by rw [hwx]; exact (Below.refl _ w).alloc (Nat.le_refl _) _
    have HB0 := Lib.hid hb0
    have HSC := Lib.hid (hsc.below hb0)
    have a0 : wx.cell? ⟨w.heap.size, 0, none⟩ = some vl := by rw [hwx]; simp
    have a1 : wx.cell? ⟨w.heap.size, 1, none⟩ = some vd := by rw [hwx]; simp
    have a2 : wx.cell? ⟨w.heap.size, 2, none⟩ = some vt := by rw [hwx]; simp
    have b0 := (hb0.cell (p := ⟨g, o, none⟩) (block_lt_of_cell h0)).trans h0
    have b2 := (hb0.cell (p := ⟨g, o + 2, none⟩) (block_lt_of_cell h2)).trans h2
    have b3 := (hb0.cell (p := ⟨g, o + 3, none⟩) (block_lt_of_cell h3)).trans h3
    have hgx : g < wx.heap.size := block_lt_of_cell b3
    have hwl : w.heap.size < wx.heap.size := block_lt_of_cell a0
    have hgw : g < w.heap.size := block_lt_of_cell h2
    subst hwx
    clear hm hl hok he ih h0 h1 hsc hb0 ok
    by_cases h2o : op = 2
    · subst h2o
      obtain ⟨e0, he0⟩ : ∃ e0, kindE s nm.data.toList [1, 2] = e0 := ⟨_, rfl⟩
      obtain ⟨R, hR⟩ : ∃ R, namesE s (.mk 2 n nm l) = R := ⟨_, rfl⟩
      have HE0 := Lib.hid he0
      have HRR := Lib.hid (show (if e0 = 0 then namesL s l else e0) = R by rw [← he0, ← hR]; rfl)
      rw [hR]
      clear hR he0
      go_enter Tryz.func157, Tryz.ntmps157
      go_wp2_with fail
      go_region_held3 (fun x => x.cell? ⟨w.heap.size, 0, none⟩ = some vl ∧ x.cell? ⟨w.heap.size, 1, none⟩ = some vd ∧ x.cell? ⟨w.heap.size, 2, none⟩ = some vt ∧ x.cell? ⟨g, o + 2, none⟩ = some (.string nm)) (first | exact ⟨f0, f1, f2, f4⟩ | exact ⟨a0, a1, a2, b2⟩ | (simp [go_sem, *]; done) | go_keep) (first
        | (go_at_call 75; (with_reducible refine (kind_at _ _ _ _ _ s _ [1, 2] e0 HE0.out ?_ SOK.out ?_ (by simp)).mono ?_); (first | exact HSC.out.below (((Below.refl _ (w.alloc (.cells #[vl, vd, vt] 113))).alloc (Nat.le_refl _) _).drew) | exact HSC.out.below (((Below.refl _ (w.alloc (.cells #[vl, vd, vt] 113))).drew).alloc (Nat.le_refl _) _)); (exact (ZsAt.two_at (w.alloc (.cells #[vl, vd, vt] 113)) _ 1 2 _ 1 2 rfl rfl (by simp)).below ((Below.refl _ _).drew)); rintro x w4 ⟨rfl, hb4⟩; have hb4' : Below (w.alloc (.cells #[vl, vd, vt] 113)).heap.size (w.alloc (.cells #[vl, vd, vt] 113)) w4 := Below.trans (((Below.refl _ (w.alloc (.cells #[vl, vd, vt] 113))).alloc (Nat.le_refl _) _).drew) (hb4.mono (by simp)); have f0 := (hb4'.cell (p := ⟨w.heap.size, 0, none⟩) hwl).trans a0; have f1 := (hb4'.cell (p := ⟨w.heap.size, 1, none⟩) hwl).trans a1; have f2 := (hb4'.cell (p := ⟨w.heap.size, 2, none⟩) hwl).trans a2; have f4 := (hb4'.cell (p := ⟨g, o + 2, none⟩) hgx).trans b2))
      have HBL := Lib.hid hb4'
      clear f0 f1 f2 f4 hb4 hb4'
      go_wp2_with fail
      go_loopw [5, 6] (fun v5 v6 wr => ∃ k err : Nat, k ≤ m ∧ v5 = .int .i64 err ∧ v6 = .int .i64 k ∧ Below (w.alloc (.cells #[vl, vd, vt] 113)).heap.size (w.alloc (.cells #[vl, vd, vt] 113)) wr ∧ (if err = 0 then namesL s (l.drop k) else err) = R) (fun v5 v6 _ => m - (intOf v6).toNat)
      case atStart => exact ⟨0, e0, by omega, by first | rfl | trivial, by first | rfl | trivial, HBL.out, by simpa using HRR.out⟩
      case round =>
        obtain ⟨k, err, hk, rfl, rfl, hbr, hrest⟩ := hrel
        have HBR := Lib.hid hbr
        have r0 := (hbr.cell (p := ⟨w.heap.size, 0, none⟩) hwl).trans a0
        have r1 := (hbr.cell (p := ⟨w.heap.size, 1, none⟩) hwl).trans a1
        have r2 := (hbr.cell (p := ⟨w.heap.size, 2, none⟩) hwl).trans a2
        have r3 := (hbr.cell (p := ⟨g, o + 3, none⟩) hgx).trans b3
        by_cases hz : err = 0
        · subst hz
          by_cases hkm : k < m
          · have hkl : k < l.length := by rw [← HM.out]; exact hkm
            have hkmi : (k : Int) < (m : Int) := by omega
            have hki : (0 : Int) ≤ (k : Int) := by omega
            obtain ⟨g', rfl, hSg, hrl⟩ := HL.out.resolve_left (fun e => by rw [e] at hkl; simp at hkl)
            have hrat := rdL_at l 0 hrl k hkl
            simp only [Nat.zero_add] at hrat
            have hxa : ExAt (w.alloc (.cells #[vl, vd, vt] 113)) S g' (k * 4) l[k] := ExAt.below hrat HB0.out
            have CI := Lib.hid (fun W (hb : Below (w.alloc (.cells #[vl, vd, vt] 113)).heap.size (w.alloc (.cells #[vl, vd, vt] 113)) W) => IH.out l[k] (Nat.le_trans (ht_get l k hkl) HHT.out) W S g' (k * 4) (ok_get l HOK.out k hkl) (HSC.out.below hb) (hxa.below hb))
            have hst : namesL s (l.drop k) = if namesE s l[k] = 0 then namesL s (l.drop (k + 1)) else namesE s l[k] := by
              rw [List.drop_eq_getElem_cons hkl]
              simp only [namesL]
            simp only [if_true] at hrest
            rw [hst] at hrest
            obtain ⟨e1, he1⟩ : ∃ e1, e1 = namesE s l[k] := ⟨_, rfl⟩
            rw [← he1] at hrest CI
            have HS := Lib.hid hrest
            clear hrat hxa hrest hst he1 hrl hbr
            go_wp2_with fail
            go_region_held3 (fun x => x.cell? ⟨w.heap.size, 0, none⟩ = some vl ∧ x.cell? ⟨w.heap.size, 1, none⟩ = some vd ∧ x.cell? ⟨w.heap.size, 2, none⟩ = some vt ∧ x.cell? ⟨g, o + 3, none⟩ = some (.slice (some ⟨g', 0, none⟩) m cap)) (first | exact ⟨t0, t1, t2, t3⟩ | exact ⟨r0, r1, r2, r3⟩ | (simp [go_sem, *]; done) | go_keep) (first
              | (go_at_call 157; (with_reducible refine (CI.out _ ?_).mono ?_); (first | exact HBR.out.drew | exact HBR.out); rintro x w5 ⟨rfl, hb5⟩; have hb5' : Below (w.alloc (.cells #[vl, vd, vt] 113)).heap.size (w.alloc (.cells #[vl, vd, vt] 113)) w5 := (by first | exact Below.trans HBR.out.drew (hb5.mono HBR.out.size) | exact Below.trans HBR.out (hb5.mono HBR.out.size)); have t0 := (hb5'.cell (p := ⟨w.heap.size, 0, none⟩) hwl).trans a0; have t1 := (hb5'.cell (p := ⟨w.heap.size, 1, none⟩) hwl).trans a1; have t2 := (hb5'.cell (p := ⟨w.heap.size, 2, none⟩) hwl).trans a2; have t3 := (hb5'.cell (p := ⟨g, o + 3, none⟩) hgx).trans b3))
            go_wp2_with fail
            go_roundw
            case rel => exact ⟨k + 1, e1, by omega, by first | rfl | trivial, by go_num, hb5', HS.out⟩
            case measure => simp [intOf]; omega
          · have hke : k = m := by omega
            subst hke
            have HS := Lib.hid (show R = 0 by
              rw [← hrest, HM.out, List.drop_length]
              rfl)
            clear hrest hbr
            go_wp2_with fail
            go_ret
            exact ⟨by rw [HS.out]; rfl, HB0.out.trans (HBR.out.mono HB0.out.size)⟩
        · have HS := Lib.hid (show R = err by rw [← hrest, if_neg hz])
          have hzi : ¬ ((err : Nat) : Int) = 0 := by omega
          clear hrest hbr hz
          by_cases hkm : (k : Int) < (m : Int)
          all_goals
            go_wp2_with fail
            go_ret
            exact ⟨by rw [HS.out]; rfl, HB0.out.trans (HBR.out.mono HB0.out.size)⟩
    · by_cases h3o : op = 3
      · subst h3o
        obtain ⟨e0, he0⟩ : ∃ e0, kindE s nm.data.toList [3] = e0 := ⟨_, rfl⟩
        obtain ⟨R, hR⟩ : ∃ R, namesE s (.mk 3 n nm l) = R := ⟨_, rfl⟩
        have HE0 := Lib.hid he0
        have HRR := Lib.hid (show (if e0 = 0 then namesL s l else e0) = R by rw [← he0, ← hR]; rfl)
        rw [hR]
        clear hR he0
        go_enter Tryz.func157, Tryz.ntmps157
        go_wp2_with fail
        go_region_held3 (fun x => x.cell? ⟨w.heap.size, 0, none⟩ = some vl ∧ x.cell? ⟨w.heap.size, 1, none⟩ = some vd ∧ x.cell? ⟨w.heap.size, 2, none⟩ = some vt ∧ x.cell? ⟨g, o + 2, none⟩ = some (.string nm)) (first | exact ⟨f0, f1, f2, f4⟩ | exact ⟨a0, a1, a2, b2⟩ | (simp [go_sem, *]; done) | go_keep) (first
          | (go_at_call 75; (with_reducible refine (kind_at _ _ _ _ _ s _ [3] e0 HE0.out ?_ SOK.out ?_ (by simp)).mono ?_); (first | exact HSC.out.below (((Below.refl _ (w.alloc (.cells #[vl, vd, vt] 113))).alloc (Nat.le_refl _) _).drew) | exact HSC.out.below (((Below.refl _ (w.alloc (.cells #[vl, vd, vt] 113))).drew).alloc (Nat.le_refl _) _)); (exact (ZsAt.one_at (w.alloc (.cells #[vl, vd, vt] 113)) _ 3 _ 3 rfl (by simp)).below ((Below.refl _ _).drew)); rintro x w4 ⟨rfl, hb4⟩; have hb4' : Below (w.alloc (.cells #[vl, vd, vt] 113)).heap.size (w.alloc (.cells #[vl, vd, vt] 113)) w4 := Below.trans (((Below.refl _ (w.alloc (.cells #[vl, vd, vt] 113))).alloc (Nat.le_refl _) _).drew) (hb4.mono (by simp)); have f0 := (hb4'.cell (p := ⟨w.heap.size, 0, none⟩) hwl).trans a0; have f1 := (hb4'.cell (p := ⟨w.heap.size, 1, none⟩) hwl).trans a1; have f2 := (hb4'.cell (p := ⟨w.heap.size, 2, none⟩) hwl).trans a2; have f4 := (hb4'.cell (p := ⟨g, o + 2, none⟩) hgx).trans b2))
        have HBL := Lib.hid hb4'
        clear f0 f1 f2 f4 hb4 hb4'
        go_wp2_with fail
        go_loopw [5, 6] (fun v5 v6 wr => ∃ k err : Nat, k ≤ m ∧ v5 = .int .i64 err ∧ v6 = .int .i64 k ∧ Below (w.alloc (.cells #[vl, vd, vt] 113)).heap.size (w.alloc (.cells #[vl, vd, vt] 113)) wr ∧ (if err = 0 then namesL s (l.drop k) else err) = R) (fun v5 v6 _ => m - (intOf v6).toNat)
        case atStart => exact ⟨0, e0, by omega, by first | rfl | trivial, by first | rfl | trivial, HBL.out, by simpa using HRR.out⟩
        case round =>
          obtain ⟨k, err, hk, rfl, rfl, hbr, hrest⟩ := hrel
          have HBR := Lib.hid hbr
          have r0 := (hbr.cell (p := ⟨w.heap.size, 0, none⟩) hwl).trans a0
          have r1 := (hbr.cell (p := ⟨w.heap.size, 1, none⟩) hwl).trans a1
          have r2 := (hbr.cell (p := ⟨w.heap.size, 2, none⟩) hwl).trans a2
          have r3 := (hbr.cell (p := ⟨g, o + 3, none⟩) hgx).trans b3
          by_cases hz : err = 0
          · subst hz
            by_cases hkm : k < m
            · have hkl : k < l.length := by rw [← HM.out]; exact hkm
              have hkmi : (k : Int) < (m : Int) := by omega
              have hki : (0 : Int) ≤ (k : Int) := by omega
              obtain ⟨g', rfl, hSg, hrl⟩ := HL.out.resolve_left (fun e => by rw [e] at hkl; simp at hkl)
              have hrat := rdL_at l 0 hrl k hkl
              simp only [Nat.zero_add] at hrat
              have hxa : ExAt (w.alloc (.cells #[vl, vd, vt] 113)) S g' (k * 4) l[k] := ExAt.below hrat HB0.out
              have CI := Lib.hid (fun W (hb : Below (w.alloc (.cells #[vl, vd, vt] 113)).heap.size (w.alloc (.cells #[vl, vd, vt] 113)) W) => IH.out l[k] (Nat.le_trans (ht_get l k hkl) HHT.out) W S g' (k * 4) (ok_get l HOK.out k hkl) (HSC.out.below hb) (hxa.below hb))
              have hst : namesL s (l.drop k) = if namesE s l[k] = 0 then namesL s (l.drop (k + 1)) else namesE s l[k] := by
                rw [List.drop_eq_getElem_cons hkl]
                simp only [namesL]
              simp only [if_true] at hrest
              rw [hst] at hrest
              obtain ⟨e1, he1⟩ : ∃ e1, e1 = namesE s l[k] := ⟨_, rfl⟩
              rw [← he1] at hrest CI
              have HS := Lib.hid hrest
              clear hrat hxa hrest hst he1 hrl hbr
              go_wp2_with fail
              go_region_held3 (fun x => x.cell? ⟨w.heap.size, 0, none⟩ = some vl ∧ x.cell? ⟨w.heap.size, 1, none⟩ = some vd ∧ x.cell? ⟨w.heap.size, 2, none⟩ = some vt ∧ x.cell? ⟨g, o + 3, none⟩ = some (.slice (some ⟨g', 0, none⟩) m cap)) (first | exact ⟨t0, t1, t2, t3⟩ | exact ⟨r0, r1, r2, r3⟩ | (simp [go_sem, *]; done) | go_keep) (first
                | (go_at_call 157; (with_reducible refine (CI.out _ ?_).mono ?_); (first | exact HBR.out.drew | exact HBR.out); rintro x w5 ⟨rfl, hb5⟩; have hb5' : Below (w.alloc (.cells #[vl, vd, vt] 113)).heap.size (w.alloc (.cells #[vl, vd, vt] 113)) w5 := (by first | exact Below.trans HBR.out.drew (hb5.mono HBR.out.size) | exact Below.trans HBR.out (hb5.mono HBR.out.size)); have t0 := (hb5'.cell (p := ⟨w.heap.size, 0, none⟩) hwl).trans a0; have t1 := (hb5'.cell (p := ⟨w.heap.size, 1, none⟩) hwl).trans a1; have t2 := (hb5'.cell (p := ⟨w.heap.size, 2, none⟩) hwl).trans a2; have t3 := (hb5'.cell (p := ⟨g, o + 3, none⟩) hgx).trans b3))
              go_wp2_with fail
              go_roundw
              case rel => exact ⟨k + 1, e1, by omega, by first | rfl | trivial, by go_num, hb5', HS.out⟩
              case measure => simp [intOf]; omega
            · have hke : k = m := by omega
              subst hke
              have HS := Lib.hid (show R = 0 by
                rw [← hrest, HM.out, List.drop_length]
                rfl)
              clear hrest hbr
              go_wp2_with fail
              go_ret
              exact ⟨by rw [HS.out]; rfl, HB0.out.trans (HBR.out.mono HB0.out.size)⟩
          · have HS := Lib.hid (show R = err by rw [← hrest, if_neg hz])
            have hzi : ¬ ((err : Nat) : Int) = 0 := by omega
            clear hrest hbr hz
            by_cases hkm : (k : Int) < (m : Int)
            all_goals
              go_wp2_with fail
              go_ret
              exact ⟨by rw [HS.out]; rfl, HB0.out.trans (HBR.out.mono HB0.out.size)⟩
      · have h2i : ¬ op = 2 := h2o
        have h3i : ¬ op = 3 := h3o
        obtain ⟨R, hR⟩ : ∃ R, namesE s (.mk op n nm l) = R := ⟨_, rfl⟩
        have HRR := Lib.hid (show (if (0 : Nat) = 0 then namesL s l else 0) = R by rw [← hR]; simp only [namesE, if_neg h2o, if_neg h3o, if_true])
        rw [hR]
        clear hR
        go_enter Tryz.func157, Tryz.ntmps157
        go_wp2_with fail
        have HBL := Lib.hid (Below.refl (w.alloc (.cells #[vl, vd, vt] 113)).heap.size (w.alloc (.cells #[vl, vd, vt] 113)))
        go_wp2_with fail
        go_loopw [5, 6] (fun v5 v6 wr => ∃ k err : Nat, k ≤ m ∧ v5 = .int .i64 err ∧ v6 = .int .i64 k ∧ Below (w.alloc (.cells #[vl, vd, vt] 113)).heap.size (w.alloc (.cells #[vl, vd, vt] 113)) wr ∧ (if err = 0 then namesL s (l.drop k) else err) = R) (fun v5 v6 _ => m - (intOf v6).toNat)
        case atStart => exact ⟨0, 0, by omega, by first | rfl | trivial, by first | rfl | trivial, HBL.out, by simpa using HRR.out⟩
        case round =>
          obtain ⟨k, err, hk, rfl, rfl, hbr, hrest⟩ := hrel
          have HBR := Lib.hid hbr
          have r0 := (hbr.cell (p := ⟨w.heap.size, 0, none⟩) hwl).trans a0
          have r1 := (hbr.cell (p := ⟨w.heap.size, 1, none⟩) hwl).trans a1
          have r2 := (hbr.cell (p := ⟨w.heap.size, 2, none⟩) hwl).trans a2
          have r3 := (hbr.cell (p := ⟨g, o + 3, none⟩) hgx).trans b3
          by_cases hz : err = 0
          · subst hz
            by_cases hkm : k < m
            · have hkl : k < l.length := by rw [← HM.out]; exact hkm
              have hkmi : (k : Int) < (m : Int) := by omega
              have hki : (0 : Int) ≤ (k : Int) := by omega
              obtain ⟨g', rfl, hSg, hrl⟩ := HL.out.resolve_left (fun e => by rw [e] at hkl; simp at hkl)
              have hrat := rdL_at l 0 hrl k hkl
              simp only [Nat.zero_add] at hrat
              have hxa : ExAt (w.alloc (.cells #[vl, vd, vt] 113)) S g' (k * 4) l[k] := ExAt.below hrat HB0.out
              have CI := Lib.hid (fun W (hb : Below (w.alloc (.cells #[vl, vd, vt] 113)).heap.size (w.alloc (.cells #[vl, vd, vt] 113)) W) => IH.out l[k] (Nat.le_trans (ht_get l k hkl) HHT.out) W S g' (k * 4) (ok_get l HOK.out k hkl) (HSC.out.below hb) (hxa.below hb))
              have hst : namesL s (l.drop k) = if namesE s l[k] = 0 then namesL s (l.drop (k + 1)) else namesE s l[k] := by
                rw [List.drop_eq_getElem_cons hkl]
                simp only [namesL]
              simp only [if_true] at hrest
              rw [hst] at hrest
              obtain ⟨e1, he1⟩ : ∃ e1, e1 = namesE s l[k] := ⟨_, rfl⟩
              rw [← he1] at hrest CI
              have HS := Lib.hid hrest
              clear hrat hxa hrest hst he1 hrl hbr
              go_wp2_with fail
              go_region_held3 (fun x => x.cell? ⟨w.heap.size, 0, none⟩ = some vl ∧ x.cell? ⟨w.heap.size, 1, none⟩ = some vd ∧ x.cell? ⟨w.heap.size, 2, none⟩ = some vt ∧ x.cell? ⟨g, o + 3, none⟩ = some (.slice (some ⟨g', 0, none⟩) m cap)) (first | exact ⟨t0, t1, t2, t3⟩ | exact ⟨r0, r1, r2, r3⟩ | (simp [go_sem, *]; done) | go_keep) (first
                | (go_at_call 157; (with_reducible refine (CI.out _ ?_).mono ?_); (first | exact HBR.out.drew | exact HBR.out); rintro x w5 ⟨rfl, hb5⟩; have hb5' : Below (w.alloc (.cells #[vl, vd, vt] 113)).heap.size (w.alloc (.cells #[vl, vd, vt] 113)) w5 := (by first | exact Below.trans HBR.out.drew (hb5.mono HBR.out.size) | exact Below.trans HBR.out (hb5.mono HBR.out.size)); have t0 := (hb5'.cell (p := ⟨w.heap.size, 0, none⟩) hwl).trans a0; have t1 := (hb5'.cell (p := ⟨w.heap.size, 1, none⟩) hwl).trans a1; have t2 := (hb5'.cell (p := ⟨w.heap.size, 2, none⟩) hwl).trans a2; have t3 := (hb5'.cell (p := ⟨g, o + 3, none⟩) hgx).trans b3))
              go_wp2_with fail
              go_roundw
              case rel => exact ⟨k + 1, e1, by omega, by first | rfl | trivial, by go_num, hb5', HS.out⟩
              case measure => simp [intOf]; omega
            · have hke : k = m := by omega
              subst hke
              have HS := Lib.hid (show R = 0 by
                rw [← hrest, HM.out, List.drop_length]
                rfl)
              clear hrest hbr
              go_wp2_with fail
              go_ret
              exact ⟨by rw [HS.out]; rfl, HB0.out.trans (HBR.out.mono HB0.out.size)⟩
          · have HS := Lib.hid (show R = err by rw [← hrest, if_neg hz])
            have hzi : ¬ ((err : Nat) : Int) = 0 := by omega
            clear hrest hbr hz
            by_cases hkm : (k : Int) < (m : Int)
            all_goals
              go_wp2_with fail
              go_ret
              exact ⟨by rw [HS.out]; rfl, HB0.out.trans (HBR.out.mono HB0.out.size)⟩
end Ck
end Go.Proofs.YtncflfadgcaldaaGreatDoor

namespace Go.Proofs.YtncflfadgcaldaaGreatDoor
open Go.RowKit
open Par Tok

namespace Ck
set_option maxHeartbeats 4000000 in
set_option maxRecDepth 100000 in
theorem expression_any (s : Sc) (ok : ScOk s) (vl vd vt : Value) (e : E) (w : World) (S : Nat → Prop) (g o : Nat) (hS : ∀ x, S x → x < w.heap.size) (hok : e.ok) (hsc : ScAt w vl vd vt s) (hat : ExAt w S g o e) :
    Calls Tryz.prog 135 #[.agg #[vl, vd, vt], .pointer (some ⟨g, o, none⟩)] w fun x w' => x = .returned (.int .i64 (exprE s e : Nat)) ∧ Below w.heap.size w w' := by
  have hgl : g < w.heap.size := by obtain ⟨_, _, _, _, h0, _⟩ := hat; exact block_lt_of_cell h0
  obtain ⟨W, hW⟩ : ∃ W, W = (w.alloc (.cells #[vl, vd, vt] 113)).alloc (.cells #[.int .i64 0] 3) := ⟨_, rfl⟩
  have hb : Below w.heap.size w W := by rw [hW]; exact ((Below.refl _ w).alloc (Nat.le_refl _) _).alloc (by simp) _
  have hWs : W.heap.size = w.heap.size + 2 := by rw [hW]; simp
  have c0 : W.cell? ⟨w.heap.size + 1, 0, none⟩ = some (.int .i64 ((0 : Nat) : Int)) := by rw [hW]; simp
  have f0 : W.frozen? ⟨w.heap.size + 1, 0, none⟩ = false := by rw [hW]; simp
  have a0 : W.cell? ⟨w.heap.size, 0, none⟩ = some vl := by rw [hW]; simp
  have a1 : W.cell? ⟨w.heap.size, 1, none⟩ = some vd := by rw [hW]; simp
  have a2 : W.cell? ⟨w.heap.size, 2, none⟩ = some vt := by rw [hW]; simp
  have CS : Hid (Calls Tryz.prog 156 #[.pointer (some ⟨g, o, none⟩), .int .i64 1, .pointer (some ⟨w.heap.size + 1, 0, none⟩)] W fun x w' => x = .returned (.bool (smallE e 1 0).1) ∧ Kept (w.heap.size + 1) W w' ∧ w'.cell? ⟨w.heap.size + 1, 0, none⟩ = some (.int .i64 ((smallE e 1 0).2 : Nat)) ∧ w'.frozen? ⟨w.heap.size + 1, 0, none⟩ = false) :=
    Lib.hid (small_any e.ht e (Nat.le_refl _) W S g o (w.heap.size + 1) 1 0 (fun x hx => by have := hS x hx; omega) (by omega) hok (hat.below hb) (by omega) (by omega) c0 f0)
  have CN := Lib.hid (fun W2 (h2 : Below w.heap.size w W2) => names_any s ok vl vd vt e.ht e (Nat.le_refl _) W2 S g o hok (hsc.below h2) (hat.below h2))
  have HB := Lib.hid hb
  obtain ⟨b, hbb⟩ : ∃ b, (smallE e 1 0).1 = b := ⟨_, rfl⟩
  rw [hbb] at CS
  clear c0 f0 hsc hat hok ok hS hb
  cases b
  · have HE := Lib.hid (show exprE s e = 2 by unfold exprE; rw [hbb]; rfl)
    clear hbb
    go_enter Tryz.func135, Tryz.ntmps135
    go_wp2_with (go_at_call 156; rw [← hW]; refine CS.out.mono ?_; rintro x w2 ⟨rfl, hk2, _, _⟩)
    go_ret
    exact ⟨by rw [HE.out]; rfl, Kept.below HB.out hk2 (by omega) (by omega)⟩
  · have HE := Lib.hid (show exprE s e = namesE s e by unfold exprE; rw [hbb]; rfl)
    clear hbb
    go_enter Tryz.func135, Tryz.ntmps135
    go_wp2_with (first
      | (go_at_call 156; rw [← hW]; refine CS.out.mono ?_; rintro x w2 ⟨rfl, hk2, _, _⟩; have hb2 : Below w.heap.size w w2 := Kept.below HB.out hk2 (by omega) (by omega); have r0 := (hk2.cell (o := 0) (by omega : w.heap.size < W.heap.size) (by omega)).trans a0; have r1 := (hk2.cell (o := 1) (by omega : w.heap.size < W.heap.size) (by omega)).trans a1; have r2 := (hk2.cell (o := 2) (by omega : w.heap.size < W.heap.size) (by omega)).trans a2)
      | (go_at_call 157; refine (CN.out _ hb2).mono ?_; rintro x w3 ⟨rfl, hb3⟩))
    go_ret
    exact ⟨by rw [HE.out]; rfl, hb2.trans (hb3.mono hb2.size)⟩
end Ck
end Go.Proofs.YtncflfadgcaldaaGreatDoor

namespace Go.Proofs.YtncflfadgcaldaaGreatDoor
open Go.RowKit
open Par Tok

namespace Ck
theorem vss_at {w : World} {S : Nat → Prop} : ∀ (l : List Sm) (xs : List Value), VSs w S l xs → ∀ (k : Nat) (h : k < l.length), ∃ cs, RdS w S l[k] cs ∧ ∀ j u, cs[j]? = some u → xs[k * 11 + j]? = some u
  | [], _, _, k, h => absurd h (by simp)
  | s :: r, _, hx, 0, _ => by
    obtain ⟨cs, rest, rfl, hs, _⟩ := hx
    refine ⟨cs, hs, fun j u hj => ?_⟩
    have hlt : j < cs.length := (List.getElem?_eq_some_iff.1 hj).1
    rw [Nat.zero_mul, Nat.zero_add, List.getElem?_append_left hlt]
    exact hj
  | s :: r, _, hx, k + 1, h => by
    obtain ⟨cs, rest, rfl, hs, hr⟩ := hx
    obtain ⟨cs2, h2, hat⟩ := vss_at r rest hr k (by simpa using h)
    refine ⟨cs2, h2, fun j u hj => ?_⟩
    have hlen : cs.length = 11 := hs.len
    rw [List.getElem?_append_right (by omega), hlen, show (k + 1) * 11 + j - 11 = k * 11 + j by omega]
    exact hat j u hj
mutual
theorem countS_ge : ∀ (x : Sm) (c : Nat), c + 1 ≤ countS x c
  | .mk _ _ _ _ _ _ body els, c => by
    simp only [countS]
    exact Nat.le_trans (countL_ge body (c + 1)) (countL_ge els _)
theorem countL_ge : ∀ (l : List Sm) (c : Nat), c ≤ countL l c
  | [], c => Nat.le_refl _
  | x :: r, c => by
    simp only [countL]
    split
    · exact Nat.le_trans (Nat.le_trans (Nat.le_succ c) (countS_ge x c)) (countL_ge r _)
    · exact Nat.le_refl _
end
mutual
theorem countS_le : ∀ (x : Sm) (c : Nat), c ≤ 60 → countS x c ≤ 61
  | .mk _ _ _ _ _ _ body els, c, h => by
    simp only [countS]
    exact countL_le els _ (countL_le body _ (by omega))
theorem countL_le : ∀ (l : List Sm) (c : Nat), c ≤ 61 → countL l c ≤ 61
  | [], c, h => h
  | x :: r, c, h => by
    simp only [countL]
    split
    · rename_i hc
      exact countL_le r _ (countS_le x c hc)
    · exact h
end

set_option maxHeartbeats 4000000 in
set_option maxRecDepth 100000 in
theorem count_any : ∀ (N : Nat) (l : List Sm), SizeOf.sizeOf l < N → ∀ (w : World) (S : Nat → Prop) (v : Value) (c : Nat), SlS w S l v → c ≤ 61 →
    Calls Tryz.prog 47 #[v, .int .i64 c] w fun x w' => x = .returned (.int .i64 (countL l c : Nat)) ∧ w' = w := by
  intro N
  induction N with
  | zero => intro l h; exact absurd h (by omega)
  | succ N ih =>
    intro l hN w S v c hv hc
    obtain ⟨a, cap, rfl, hl⟩ := hv
    have IH := Lib.hid ih
    have HN := Lib.hid hN
    have HL := Lib.hid hl
    obtain ⟨R, hR⟩ : ∃ R, countL l c = R := ⟨_, rfl⟩
    have HR := Lib.hid hR
    obtain ⟨m, hm⟩ : ∃ m, m = l.length := ⟨_, rfl⟩
    have HM := Lib.hid hm
    rw [hR, ← hm]
    clear ih hN hl hR hm
    go_enter Tryz.func47, Tryz.ntmps47
    go_wp2_with fail
    go_loopw [1, 5] (fun v1 v5 wr => ∃ k c' : Nat, k ≤ m ∧ v1 = .int .i64 c' ∧ v5 = .int .i64 k ∧ wr = w ∧ k ≤ c' ∧ c' ≤ 61 ∧ countL (l.drop k) c' = R) (fun v1 v5 _ => m - (intOf v5).toNat)
    case atStart => exact ⟨0, c, by omega, by first | rfl | trivial, by first | rfl | trivial, by first | rfl | trivial, by omega, by omega, by simpa using HR.out⟩
    case round =>
      obtain ⟨k, c', hk, rfl, rfl, rfl, hkc, hc', hrest⟩ := hrel
      by_cases hkm : k < m
      · have hkl : k < l.length := by rw [← HM.out]; exact hkm
        have hkmi : (k : Int) < (m : Int) := by omega
        by_cases h60 : c' ≤ 60
        · have h60i : (c' : Int) ≤ 60 := by omega
          obtain ⟨g, xs, rfl, hSg, hvs, hcell⟩ := HL.out.resolve_left (fun e => by rw [e] at hkl; simp at hkl)
          obtain ⟨cs, hrd, hcs⟩ := vss_at l xs hvs k hkl
          obtain ⟨x, hx⟩ : ∃ x, x = l[k] := ⟨_, rfl⟩
          have hmem : x ∈ l := by rw [hx]; exact List.getElem_mem hkl
          have hsz : SizeOf.sizeOf x < SizeOf.sizeOf l := List.sizeOf_lt_of_mem hmem
          have hst : countL (l.drop k) c' = countL (l.drop (k + 1)) (countS x c') := by
            rw [List.drop_eq_getElem_cons hkl, ← hx]
            simp only [countL, if_pos h60]
          rw [← hx] at hrd
          obtain ⟨op, line, name, arg, ix, ex, body, els⟩ := x
          obtain ⟨v4, e0, e1, e2, e3, a9, c9, a10, c10, rfl, _, _, hb9, hb10⟩ := hrd
          have k9 := hcell _ _ (hcs 9 _ rfl)
          have k10 := hcell _ _ (hcs 10 _ rfl)
          simp only [Sm.mk.sizeOf_spec] at hsz
          have hNN := HN.out
          have CB := Lib.hid (IH.out body (by omega) wr S (.slice a9 body.length c9) (c' + 1) ⟨a9, c9, rfl, hb9⟩ (by omega))
          have hle := countL_le body (c' + 1) (by omega)
          have hge := countL_ge body (c' + 1)
          have CE := Lib.hid (IH.out els (by omega) wr S (.slice a10 els.length c10) (countL body (c' + 1)) ⟨a10, c10, rfl, hb10⟩ hle)
          have hle2 := countL_le els _ hle
          have hge2 := countL_ge els (countL body (c' + 1))
          simp only [countS] at hst
          rw [hst] at hrest
          obtain ⟨q1, hq1⟩ : ∃ q, q = countL body (c' + 1) := ⟨_, rfl⟩
          rw [← hq1] at CB CE hle hge hle2 hge2 hrest
          obtain ⟨q2, hq2⟩ : ∃ q, q = countL els q1 := ⟨_, rfl⟩
          rw [← hq2] at CE hle2 hge2 hrest
          rw [show ((c' + 1 : Nat) : Int) = (c' : Int) + 1 by omega] at CB
          have HS := Lib.hid hrest
          clear hrest hst hq1 hq2 hsz hNN hmem hx hb9 hb10 hcs hcell hvs
          go_wp2_with (first
            | (go_at_call 47; (with_reducible refine CB.out.mono ?_); rintro e w2 ⟨rfl, rfl⟩)
            | (go_at_call 47; (with_reducible refine CE.out.mono ?_); rintro e w2 ⟨rfl, rfl⟩))
          go_roundw
          case rel => exact ⟨k + 1, q2, by omega, by first | rfl | trivial, by go_num, by first | rfl | trivial, by omega, by omega, HS.out⟩
          case measure => simp [intOf]; omega
        · have h60i : ¬ (c' : Int) ≤ 60 := by omega
          have HS := Lib.hid (show R = c' by
            rw [← hrest, List.drop_eq_getElem_cons hkl]
            simp only [countL, if_neg h60])
          clear hrest
          go_wp2_with fail
          go_ret
          exact ⟨by rw [HS.out]; rfl, by first | rfl | trivial⟩
      · have hke : k = m := by omega
        subst hke
        have HS := Lib.hid (show R = c' by
          rw [← hrest, HM.out, List.drop_length]
          rfl)
        clear hrest
        go_wp2_with fail
        go_ret
        exact ⟨by rw [HS.out]; rfl, by first | rfl | trivial⟩
end Ck
end Go.Proofs.YtncflfadgcaldaaGreatDoor

namespace Go.Proofs.YtncflfadgcaldaaGreatDoor
open Go.RowKit
open Par Tok

namespace Ck
/-- The value is a slice of pointers to statements with these kinds and names. -/
def ArAt (w : World) (v : Value) (ar : Ar) : Prop := ∃ A cap, v = .slice A ar.length cap ∧ ∀ k (h : k < ar.length), ∃ g gs os, A = some ⟨g, 0, none⟩ ∧ g < w.heap.size ∧ w.cell? ⟨g, k, none⟩ = some (.pointer (some ⟨gs, os, none⟩)) ∧ w.cell? ⟨gs, os, none⟩ = some (.int .i64 ar[k].1) ∧ w.cell? ⟨gs, os + 2, none⟩ = some (.string ⟨ar[k].2.toArray⟩)
theorem ArAt.below {w w' : World} {v : Value} {ar : Ar} (h : ArAt w v ar) (b : Below w.heap.size w w') : ArAt w' v ar := by
  obtain ⟨A, cap, hv, hc⟩ := h
  refine ⟨A, cap, hv, fun k hk => ?_⟩
  obtain ⟨g, gs, os, ha, hg, h0, h1, h2⟩ := hc k hk
  exact ⟨g, gs, os, ha, Nat.lt_of_lt_of_le hg b.size, (b.cell (p := ⟨g, k, none⟩) hg).trans h0, (b.cell (p := ⟨gs, os, none⟩) (block_lt_of_cell h1)).trans h1, (b.cell (p := ⟨gs, os + 2, none⟩) (block_lt_of_cell h2)).trans h2⟩

set_option maxHeartbeats 2000000 in
set_option maxRecDepth 100000 in
theorem insideClo_any (w : World) (gs os B : Nat) (op : Int) (vk : Value) (ks : List Int) (h0 : w.cell? ⟨gs, os, none⟩ = some (.int .i64 op)) (hB : w.cell? ⟨B, 0, none⟩ = some vk) (hk : ZsAt w vk ks) (hl : ks.length ≤ 100000) :
    Calls Tryz.prog 159 #[.pointer (some ⟨gs, os, none⟩), .pointer (some ⟨B, 0, none⟩)] w fun x w' => x = .returned (.bool (ks.contains op)) ∧ Below w.heap.size w w' := by
  have k0 : w.drew.cell? ⟨gs, os, none⟩ = some (.int .i64 op) := h0
  have kB : w.drew.cell? ⟨B, 0, none⟩ = some vk := hB
  have HB := Lib.hid (show Below w.heap.size w w.drew from (Below.refl _ w).drew)
  have CC := Lib.hid (containsI_any w.drew vk ks op (hk.below HB.out) hl)
  obtain ⟨b, hb⟩ : ∃ b, ks.contains op = b := ⟨_, rfl⟩
  rw [hb] at CC ⊢
  clear hb
  go_enter Tryz.func159, Tryz.ntmps159
  go_wp2_with fail
  go_still_tail 5, (by kernel_rfl)
  change wpList _ _ _ _ _ w.drew
  clear h0 hB hk
  generalize w.drew = w1 at HB CC k0 kB ⊢
  go_wp2_with (go_at_call 160; refine CC.out.mono ?_; rintro e w2 ⟨rfl, hb2⟩)
  go_ret
  exact ⟨rfl, HB.out.trans (hb2.mono HB.out.size)⟩

set_option maxHeartbeats 2000000 in
set_option maxRecDepth 100000 in
theorem idxInI_any (w : World) (v : Value) (ar : Ar) (B : Nat) (vk : Value) (ks : List Int) (hv : ArAt w v ar) (hB : w.cell? ⟨B, 0, none⟩ = some vk) (hks : ZsAt w vk ks) (hl : ks.length ≤ 100000) (hal : ar.length ≤ 100000) :
    Calls Tryz.prog 169 #[v, .func (.func 159) #[] #[.pointer (some ⟨B, 0, none⟩)]] w fun x w' => x = .returned (.int .i64 (idx (fun p : Int × Bs => ks.contains p.1) ar 0)) ∧ Below w.heap.size w w' := by
  obtain ⟨A, cap, rfl, hc⟩ := hv
  have HC := Lib.hid hc
  obtain ⟨z, hz⟩ : ∃ z, idx (fun p : Int × Bs => ks.contains p.1) ar 0 = z := ⟨_, rfl⟩
  have HZ := Lib.hid hz
  rw [hz]
  clear hz
  have HBB := Lib.hid hB
  have HKS := Lib.hid hks
  clear hB hks
  obtain ⟨n, hn⟩ : ∃ n, n = ar.length := ⟨_, rfl⟩
  have HN := Lib.hid hn
  rw [← hn] at hal ⊢
  clear hc hn
  go_enter Tryz.func169, Tryz.ntmps169
  go_wp2_with fail
  go_loopw [8] (fun i wr => ∃ k : Nat, k ≤ n ∧ i = .int .i64 k ∧ Below w.heap.size w wr ∧ ∀ j (h : j < ar.length), j < k → (fun p : Int × Bs => ks.contains p.1) ar[j] = false) (fun i _ => n - (intOf i).toNat)
  case atStart => exact ⟨0, by omega, by first | rfl | trivial, Below.refl _ _, fun j _ h => absurd h (by omega)⟩
  case round =>
    obtain ⟨k, hk, rfl, hbel, hne⟩ := hrel
    have HB := Lib.hid hbel
    have HNE := Lib.hid hne
    by_cases hkn : k < n
    · have hkd : k < ar.length := by rw [← HN.out]; exact hkn
      have hkni : (k : Int) < (n : Int) := by omega
      obtain ⟨g, gs, os, rfl, hg, q0, q1, q2⟩ := HC.out k hkd
      have e0 := (hbel.cell (p := ⟨g, k, none⟩) hg).trans q0
      have d0 := (hbel.cell (p := ⟨gs, os, none⟩) (block_lt_of_cell q1)).trans q1
      have d2 := (hbel.cell (p := ⟨gs, os + 2, none⟩) (block_lt_of_cell q2)).trans q2
      obtain ⟨r, hr⟩ : ∃ r, r = (fun p : Int × Bs => ks.contains p.1) ar[k] := ⟨_, rfl⟩
      have CC := Lib.hid (insideClo_any wr gs os B ar[k].1 vk ks d0 ((hbel.cell (p := ⟨B, 0, none⟩) (block_lt_of_cell HBB.out)).trans HBB.out) (HKS.out.below hbel) hl)
      have CC := Lib.hid (show Calls Tryz.prog 159 #[.pointer (some ⟨gs, os, none⟩), .pointer (some ⟨B, 0, none⟩)] wr fun x w' => x = .returned (.bool r) ∧ Below wr.heap.size wr w' from hr ▸ CC.out)
      have HR := Lib.hid hr
      clear q0 q1 q2 d0 d2
      cases r
      · have HNE2 : Hid (∀ j (h : j < ar.length), j < k + 1 → (fun p : Int × Bs => ks.contains p.1) ar[j] = false) := Lib.hid (fun j h hj => by
          by_cases e : j = k
          · subst e
            exact HR.out.symm
          · exact hne j h (by omega))
        clear hbel hne hr
        go_wp2_with (go_at_call 159; refine CC.out.mono ?_; rintro e w2 ⟨rfl, hb2⟩)
        go_roundw
        case rel => exact ⟨k + 1, by omega, by go_num, HB.out.trans (hb2.mono HB.out.size), HNE2.out⟩
        case measure => simp [intOf]; omega
      · have HI := Lib.hid (show idx (fun p : Int × Bs => ks.contains p.1) ar 0 = (k : Int) by
          rw [idx_hit ar 0 k hkd (fun i hi => hne i (by omega) hi) HR.out.symm]
          omega)
        clear hbel hne hr
        go_wp2_with (go_at_call 159; refine CC.out.mono ?_; rintro e w2 ⟨rfl, hb2⟩)
        go_ret
        exact ⟨by rw [← HZ.out, HI.out]; rfl, HB.out.trans (hb2.mono HB.out.size)⟩
    · have hke : k = n := by omega
      subst hke
      have HI := Lib.hid (show idx (fun p : Int × Bs => ks.contains p.1) ar 0 = -1 by
        refine idx_none ar 0 (fun d hd => ?_)
        obtain ⟨j, hj, rfl⟩ := List.getElem_of_mem hd
        exact hne j hj (by rw [HN.out]; exact hj))
      clear hbel hne
      go_wp2_with fail
      go_ret
      exact ⟨by rw [← HZ.out, HI.out]; rfl, HB.out⟩

theorem hasInI_any (w : World) (v : Value) (ar : Ar) (B : Nat) (vk : Value) (ks : List Int) (hv : ArAt w v ar) (hB : w.cell? ⟨B, 0, none⟩ = some vk) (hks : ZsAt w vk ks) (hl : ks.length ≤ 100000) (hal : ar.length ≤ 100000) :
    Calls Tryz.prog 158 #[v, .func (.func 159) #[] #[.pointer (some ⟨B, 0, none⟩)]] w fun x w' => x = .returned (.bool (ar.any fun p => ks.contains p.1)) ∧ Below w.heap.size w w' := by
  obtain ⟨i, hi⟩ : ∃ i, i = idx (fun p : Int × Bs => ks.contains p.1) ar 0 := ⟨_, rfl⟩
  have C := Lib.hid (idxInI_any w v ar B vk ks hv hB hks hl hal)
  have H := Lib.hid (any_idx (fun p : Int × Bs => ks.contains p.1) ar)
  rw [← hi] at C H
  clear hi
  obtain ⟨bb, hbb⟩ : ∃ b, (ar.any fun p : Int × Bs => ks.contains p.1) = b := ⟨_, rfl⟩
  rw [hbb] at H ⊢
  clear hbb
  by_cases h0 : 0 ≤ i
  all_goals
    go_enter Tryz.func158, Tryz.ntmps158
    go_wp2_with (go_at_call 169; refine C.out.mono ?_; rintro e w2 ⟨rfl, hb2⟩)
    go_ret
    exact ⟨by rw [← H.out]; simp [h0], hb2⟩

set_option maxHeartbeats 2000000 in
set_option maxRecDepth 100000 in
theorem inside_any (w : World) (G : Nat) (va vk : Value) (ar : Ar) (ks : List Int) (hG : w.cell? ⟨G, 4, none⟩ = some va) (hv : ArAt w va ar) (hks : ZsAt w vk ks) (hl : ks.length ≤ 100000) (hal : ar.length ≤ 100000) :
    Calls Tryz.prog 137 #[.pointer (some ⟨G, 0, none⟩), vk] w fun x w' => x = .returned (.bool (inside ar ks)) ∧ Below w.heap.size w w' := by
  obtain ⟨ka, kc, hvk⟩ : ∃ A cap, vk = .slice A ks.length cap := ⟨_, _, hks.choose_spec.choose_spec.1⟩
  subst hvk
  have hal2 := (Below.refl w.heap.size w).alloc (Nat.le_refl _) (.cells #[.slice ka ks.length kc] 89)
  have C := Lib.hid (hasInI_any _ va ar w.heap.size (.slice ka ks.length kc) ks (hv.below hal2) (show (w.alloc (.cells #[.slice ka ks.length kc] 89)).cell? ⟨w.heap.size, 0, none⟩ = some (.slice ka ks.length kc) by simp) (hks.below hal2) hl hal)
  have HA := Lib.hid hal2
  have g4 : (w.alloc (.cells #[.slice ka ks.length kc] 89)).cell? ⟨G, 4, none⟩ = some va := (hal2.cell (p := ⟨G, 4, none⟩) (block_lt_of_cell hG)).trans hG
  have hmf : ∀ (fn : Fn) (first cap : Array Value) (w : World), (Instr.makeFunc fn first cap).run Tryz.prog w = .ok (.func fn first cap) w := fun _ _ _ _ => rfl
  obtain ⟨bb, hbb⟩ : ∃ b, (ar.any fun p : Int × Bs => ks.contains p.1) = b := ⟨_, rfl⟩
  have HI : Hid (inside ar ks = bb) := Lib.hid hbb
  rw [hbb] at C
  rw [HI.out]
  clear hv hks hal2 hG hbb
  go_enter Tryz.func137, Tryz.ntmps137
  go_wp2_with (go_at_call 158; refine C.out.mono ?_; rintro e w2 ⟨rfl, hb2⟩)
  go_ret
  exact ⟨rfl, HA.out.trans (hb2.mono (by simp))⟩
end Ck
end Go.Proofs.YtncflfadgcaldaaGreatDoor

namespace Go.Proofs.YtncflfadgcaldaaGreatDoor
open Go.RowKit
open Par Tok

namespace Ck
theorem name_yes {n : Bs} {nm : ByteArray} (h : (n == nm.data.toList) = true) : (n == nm.toList) = true := by
  rw [ByteArray.toList_eq]
  exact h
theorem name_no {n : Bs} {nm : ByteArray} (h : (n == nm.data.toList) = false) : (n == nm.toList) = false := by
  rw [ByteArray.toList_eq]
  exact h

set_option maxHeartbeats 2000000 in
set_option maxRecDepth 100000 in
theorem insideOfClo_any (w : World) (gs os B C : Nat) (op : Int) (n : Bs) (nm : ByteArray) (vk : Value) (ks : List Int) (h0 : w.cell? ⟨gs, os, none⟩ = some (.int .i64 op)) (h2 : w.cell? ⟨gs, os + 2, none⟩ = some (.string ⟨n.toArray⟩)) (hN : w.cell? ⟨B, 0, none⟩ = some (.string nm)) (hB : w.cell? ⟨C, 0, none⟩ = some vk) (hk : ZsAt w vk ks) (hl : ks.length ≤ 100000) :
    Calls Tryz.prog 161 #[.pointer (some ⟨gs, os, none⟩), .pointer (some ⟨B, 0, none⟩), .pointer (some ⟨C, 0, none⟩)] w fun x w' => x = .returned (.bool (n == nm.data.toList && ks.contains op)) ∧ Below w.heap.size w w' := by
  have HX : Hid (∀ (x : In (Below w.heap.size w)) (y : World), Below x.x.heap.size x.x y → Below w.heap.size w y) := Lib.hid (fun x y hy => x.h.trans (hy.mono x.h.size))
  have p0 : ∀ x : In (Below w.heap.size w), x.x.cell? ⟨gs, os, none⟩ = some (.int .i64 op) := fun x => (x.h.cell (p := ⟨gs, os, none⟩) (block_lt_of_cell h0)).trans h0
  have p2 : ∀ x : In (Below w.heap.size w), x.x.cell? ⟨gs, os + 2, none⟩ = some (.string ⟨n.toArray⟩) := fun x => (x.h.cell (p := ⟨gs, os + 2, none⟩) (block_lt_of_cell h2)).trans h2
  have pN : ∀ x : In (Below w.heap.size w), x.x.cell? ⟨B, 0, none⟩ = some (.string nm) := fun x => (x.h.cell (p := ⟨B, 0, none⟩) (block_lt_of_cell hN)).trans hN
  have pB : ∀ x : In (Below w.heap.size w), x.x.cell? ⟨C, 0, none⟩ = some vk := fun x => (x.h.cell (p := ⟨C, 0, none⟩) (block_lt_of_cell hB)).trans hB
  have CC := Lib.hid (fun x : In (Below w.heap.size w) => containsI_any x.x vk ks op (hk.below x.h) hl)
  obtain ⟨q, hq⟩ : ∃ q, ks.contains op = q := ⟨_, rfl⟩
  rw [hq] at CC ⊢
  haveI : Nonempty (In (Below w.heap.size w)) := ⟨⟨w, Below.refl _ _⟩⟩
  obtain ⟨c, hc⟩ : ∃ c, (n == nm.data.toList) = c := ⟨_, rfl⟩
  cases c
  case false =>
    have hqq := name_no hc
    rw [hc, Bool.false_and]
    clear hc hk hq h0 h2 hN hB
    go_enter Tryz.func161, Tryz.ntmps161
    go_wp2_with fail
    refine wp_region_class (I := In (Below w.heap.size w)) (fun x => x.x) (by kernel_rfl) (by kernel_rfl) ⟨⟨_, (Below.refl _ _).drew⟩, rfl⟩ ?_
    repeat (go_big_quiet_step (fail))
    refine wpQuiet_nil ?_
    rintro _ ⟨x, rfl⟩
    have hx := x.h
    go_wp2_with fail
    go_ret
    exact ⟨rfl, hx⟩
  case true =>
    have hqq := name_yes hc
    rw [hc, Bool.true_and]
    clear hc hk hq h0 h2 hN hB
    go_enter Tryz.func161, Tryz.ntmps161
    go_wp2_with fail
    refine wp_region_class (I := In (Below w.heap.size w)) (fun x => x.x) (by kernel_rfl) (by kernel_rfl) ⟨⟨_, (Below.refl _ _).drew⟩, rfl⟩ ?_
    repeat (go_big_quiet_step ((go_at_call 160; (with_reducible refine (CC.out _).mono ?_); rintro e w2 ⟨rfl, hb2⟩; exact ⟨rfl, ⟨_, HX.out _ _ hb2⟩, rfl⟩)))
    refine wpQuiet_nil ?_
    rintro _ ⟨x, rfl⟩
    have hx := x.h
    go_wp2_with fail
    go_ret
    exact ⟨rfl, hx⟩

set_option maxHeartbeats 2000000 in
set_option maxRecDepth 100000 in
theorem idxInO_any (w : World) (v : Value) (ar : Ar) (B C : Nat) (nm : ByteArray) (vk : Value) (ks : List Int) (hv : ArAt w v ar) (hN : w.cell? ⟨B, 0, none⟩ = some (.string nm)) (hB : w.cell? ⟨C, 0, none⟩ = some vk) (hks : ZsAt w vk ks) (hl : ks.length ≤ 100000) (hal : ar.length ≤ 100000) :
    Calls Tryz.prog 169 #[v, .func (.func 161) #[] #[.pointer (some ⟨B, 0, none⟩), .pointer (some ⟨C, 0, none⟩)]] w fun x w' => x = .returned (.int .i64 (idx (fun p : Int × Bs => p.2 == nm.data.toList && ks.contains p.1) ar 0)) ∧ Below w.heap.size w w' := by
  obtain ⟨A, cap, rfl, hc⟩ := hv
  have HC := Lib.hid hc
  obtain ⟨z, hz⟩ : ∃ z, idx (fun p : Int × Bs => p.2 == nm.data.toList && ks.contains p.1) ar 0 = z := ⟨_, rfl⟩
  have HZ := Lib.hid hz
  rw [hz]
  clear hz
  have HBB := Lib.hid hB
  have HNN := Lib.hid hN
  have HKS := Lib.hid hks
  clear hB hN hks
  obtain ⟨n, hn⟩ : ∃ n, n = ar.length := ⟨_, rfl⟩
  have HN := Lib.hid hn
  rw [← hn] at hal ⊢
  clear hc hn
  go_enter Tryz.func169, Tryz.ntmps169
  go_wp2_with fail
  go_loopw [8] (fun i wr => ∃ k : Nat, k ≤ n ∧ i = .int .i64 k ∧ Below w.heap.size w wr ∧ ∀ j (h : j < ar.length), j < k → (fun p : Int × Bs => p.2 == nm.data.toList && ks.contains p.1) ar[j] = false) (fun i _ => n - (intOf i).toNat)
  case atStart => exact ⟨0, by omega, by first | rfl | trivial, Below.refl _ _, fun j _ h => absurd h (by omega)⟩
  case round =>
    obtain ⟨k, hk, rfl, hbel, hne⟩ := hrel
    have HB := Lib.hid hbel
    have HNE := Lib.hid hne
    by_cases hkn : k < n
    · have hkd : k < ar.length := by rw [← HN.out]; exact hkn
      have hkni : (k : Int) < (n : Int) := by omega
      obtain ⟨g, gs, os, rfl, hg, q0, q1, q2⟩ := HC.out k hkd
      have e0 := (hbel.cell (p := ⟨g, k, none⟩) hg).trans q0
      have d0 := (hbel.cell (p := ⟨gs, os, none⟩) (block_lt_of_cell q1)).trans q1
      have d2 := (hbel.cell (p := ⟨gs, os + 2, none⟩) (block_lt_of_cell q2)).trans q2
      obtain ⟨r, hr⟩ : ∃ r, r = (fun p : Int × Bs => p.2 == nm.data.toList && ks.contains p.1) ar[k] := ⟨_, rfl⟩
      have CC := Lib.hid (insideOfClo_any wr gs os B C ar[k].1 ar[k].2 nm vk ks d0 d2 ((hbel.cell (p := ⟨B, 0, none⟩) (block_lt_of_cell HNN.out)).trans HNN.out) ((hbel.cell (p := ⟨C, 0, none⟩) (block_lt_of_cell HBB.out)).trans HBB.out) (HKS.out.below hbel) hl)
      have CC := Lib.hid (show Calls Tryz.prog 161 #[.pointer (some ⟨gs, os, none⟩), .pointer (some ⟨B, 0, none⟩), .pointer (some ⟨C, 0, none⟩)] wr fun x w' => x = .returned (.bool r) ∧ Below wr.heap.size wr w' from hr ▸ CC.out)
      have HR := Lib.hid hr
      clear q0 q1 q2 d0 d2
      cases r
      · have HNE2 : Hid (∀ j (h : j < ar.length), j < k + 1 → (fun p : Int × Bs => p.2 == nm.data.toList && ks.contains p.1) ar[j] = false) := Lib.hid (fun j h hj => by
          by_cases e : j = k
          · subst e
            exact HR.out.symm
          · exact hne j h (by omega))
        clear hbel hne hr
        go_wp2_with (go_at_call 161; refine CC.out.mono ?_; rintro e w2 ⟨rfl, hb2⟩)
        go_roundw
        case rel => exact ⟨k + 1, by omega, by go_num, HB.out.trans (hb2.mono HB.out.size), HNE2.out⟩
        case measure => simp [intOf]; omega
      · have HI := Lib.hid (show idx (fun p : Int × Bs => p.2 == nm.data.toList && ks.contains p.1) ar 0 = (k : Int) by
          rw [idx_hit ar 0 k hkd (fun i hi => hne i (by omega) hi) HR.out.symm]
          omega)
        clear hbel hne hr
        go_wp2_with (go_at_call 161; refine CC.out.mono ?_; rintro e w2 ⟨rfl, hb2⟩)
        go_ret
        exact ⟨by rw [← HZ.out, HI.out]; rfl, HB.out.trans (hb2.mono HB.out.size)⟩
    · have hke : k = n := by omega
      subst hke
      have HI := Lib.hid (show idx (fun p : Int × Bs => p.2 == nm.data.toList && ks.contains p.1) ar 0 = -1 by
        refine idx_none ar 0 (fun d hd => ?_)
        obtain ⟨j, hj, rfl⟩ := List.getElem_of_mem hd
        exact hne j hj (by rw [HN.out]; exact hj))
      clear hbel hne
      go_wp2_with fail
      go_ret
      exact ⟨by rw [← HZ.out, HI.out]; rfl, HB.out⟩

theorem hasInO_any (w : World) (v : Value) (ar : Ar) (B C : Nat) (nm : ByteArray) (vk : Value) (ks : List Int) (hv : ArAt w v ar) (hN : w.cell? ⟨B, 0, none⟩ = some (.string nm)) (hB : w.cell? ⟨C, 0, none⟩ = some vk) (hks : ZsAt w vk ks) (hl : ks.length ≤ 100000) (hal : ar.length ≤ 100000) :
    Calls Tryz.prog 158 #[v, .func (.func 161) #[] #[.pointer (some ⟨B, 0, none⟩), .pointer (some ⟨C, 0, none⟩)]] w fun x w' => x = .returned (.bool (ar.any fun p => p.2 == nm.data.toList && ks.contains p.1)) ∧ Below w.heap.size w w' := by
  obtain ⟨i, hi⟩ : ∃ i, i = idx (fun p : Int × Bs => p.2 == nm.data.toList && ks.contains p.1) ar 0 := ⟨_, rfl⟩
  have C := Lib.hid (idxInO_any w v ar B C nm vk ks hv hN hB hks hl hal)
  have H := Lib.hid (any_idx (fun p : Int × Bs => p.2 == nm.data.toList && ks.contains p.1) ar)
  rw [← hi] at C H
  clear hi
  obtain ⟨bb, hbb⟩ : ∃ b, (ar.any fun p : Int × Bs => p.2 == nm.data.toList && ks.contains p.1) = b := ⟨_, rfl⟩
  rw [hbb] at H ⊢
  clear hbb
  by_cases h0 : 0 ≤ i
  all_goals
    go_enter Tryz.func158, Tryz.ntmps158
    go_wp2_with (go_at_call 169; refine C.out.mono ?_; rintro e w2 ⟨rfl, hb2⟩)
    go_ret
    exact ⟨by rw [← H.out]; simp [h0], hb2⟩

set_option maxHeartbeats 2000000 in
set_option maxRecDepth 100000 in
theorem insideOf_any (w : World) (G : Nat) (nm : ByteArray) (va vk : Value) (ar : Ar) (ks : List Int) (hG : w.cell? ⟨G, 4, none⟩ = some va) (hv : ArAt w va ar) (hks : ZsAt w vk ks) (hl : ks.length ≤ 100000) (hal : ar.length ≤ 100000) :
    Calls Tryz.prog 138 #[.pointer (some ⟨G, 0, none⟩), .string nm, vk] w fun x w' => x = .returned (.bool (insideOf ar nm.data.toList ks)) ∧ Below w.heap.size w w' := by
  obtain ⟨ka, kc, hvk⟩ : ∃ A cap, vk = .slice A ks.length cap := ⟨_, _, hks.choose_spec.choose_spec.1⟩
  subst hvk
  have hal2 := ((Below.refl w.heap.size w).alloc (Nat.le_refl _) (.cells #[.string nm] 9)).alloc (by simp) (.cells #[.slice ka ks.length kc] 89)
  have C := Lib.hid (hasInO_any _ va ar w.heap.size (w.heap.size + 1) nm (.slice ka ks.length kc) ks (hv.below hal2) (show ((w.alloc (.cells #[.string nm] 9)).alloc (.cells #[.slice ka ks.length kc] 89)).cell? ⟨w.heap.size, 0, none⟩ = some (.string nm) by simp) (show ((w.alloc (.cells #[.string nm] 9)).alloc (.cells #[.slice ka ks.length kc] 89)).cell? ⟨w.heap.size + 1, 0, none⟩ = some (.slice ka ks.length kc) by simp) (hks.below hal2) hl hal)
  have HA := Lib.hid hal2
  have g4 : ((w.alloc (.cells #[.string nm] 9)).alloc (.cells #[.slice ka ks.length kc] 89)).cell? ⟨G, 4, none⟩ = some va := (hal2.cell (p := ⟨G, 4, none⟩) (block_lt_of_cell hG)).trans hG
  have hmf : ∀ (fn : Fn) (first cap : Array Value) (w : World), (Instr.makeFunc fn first cap).run Tryz.prog w = .ok (.func fn first cap) w := fun _ _ _ _ => rfl
  obtain ⟨bb, hbb⟩ : ∃ b, (ar.any fun p : Int × Bs => p.2 == nm.data.toList && ks.contains p.1) = b := ⟨_, rfl⟩
  have HI : Hid (insideOf ar nm.data.toList ks = bb) := Lib.hid hbb
  rw [hbb] at C
  rw [HI.out]
  clear hv hks hal2 hG hbb
  go_enter Tryz.func138, Tryz.ntmps138
  go_wp2_with (go_at_call 158; refine C.out.mono ?_; rintro e w2 ⟨rfl, hb2⟩)
  go_ret
  exact ⟨rfl, HA.out.trans (hb2.mono (by simp; omega))⟩
end Ck
end Go.Proofs.YtncflfadgcaldaaGreatDoor

namespace Go.Proofs.YtncflfadgcaldaaGreatDoor
open Go.RowKit
open Go.Maps
open Par Tok

namespace Ck
theorem lawS : Keyed Tryz.prog 9 := string_keyed Tryz.underlying9
theorem zeroBo (w : World) : (zeroValue 4).run Tryz.prog w = .ok (.bool false) w := by kernel_rfl
theorem plainElem_bool_inv {P : Program} {e : TypeId} (he : P.underlying e = some .bool) {v : Value} {z : DataW Unit × List MemPlace} (h : plainElem P e v = some z) : ∃ a, v = .bool a ∧ z = (.lit (.bool a), []) := by
  unfold plainElem at h
  rw [he] at h
  cases v <;> simp at h
  exact ⟨_, rfl, h.symm⟩
/-- The datum says of each name whether it is in the list. -/
def Says (D : DataW Unit) (dn : List Bs) : Prop := ∀ nm : Bs, D.atKey (.string nm) (.lit (.bool false)) = .lit (.bool (dn.contains nm))
theorem says_nil : Says (.map []) [] := fun _ => rfl
theorem says_put {D : DataW Unit} (hD : IsMap D) {dn : List Bs} (h : Says D dn) (n : Bs) : Says (D.put (.string n) (.lit (.bool true))) (n :: dn) := by
  intro nm
  by_cases hc : n = nm
  · subst hc
    rw [atKey_put_same hD (by simp [WideAt.IsKeyLit]) _ _]
    simp
  · have hne : Lit.string nm ≠ Lit.string n := fun e => hc (by
      injection e with e
      exact e.symm)
    rw [atKey_put_other hne, h nm]
    congr 2
    rw [List.contains_cons]
    have : (nm == n) = false := by simpa using fun e => hc e.symm
    rw [this, Bool.false_or]
/-- The map of what has been done. -/
def DoneAt (w : World) (b n : Nat) (dn : List Bs) : Prop := ∃ D : DataW Unit, w.ownsMap Tryz.prog 9 (plainElem Tryz.prog 4) b n D ∧ Says D dn
theorem DoneAt.lt {w : World} {b n : Nat} {dn : List Bs} (h : DoneAt w b n dn) : b < w.heap.size := by
  obtain ⟨D, h1, _⟩ := h
  exact h1.lt
theorem DoneAt.of_block {w w' : World} {b n : Nat} {dn : List Bs} (h : DoneAt w b n dn) (hb : w'.heap[b]? = w.heap[b]?) : DoneAt w' b n dn := by
  obtain ⟨D, ⟨es, clock, h1, h2⟩, h3⟩ := h
  exact ⟨D, ⟨es, clock, hb.trans h1, h2⟩, h3⟩
theorem DoneAt.below {w w' : World} {b n : Nat} {dn : List Bs} (h : DoneAt w b n dn) (k : Below w.heap.size w w') : DoneAt w' b n dn := h.of_block (k.block b h.lt)
theorem DoneAt.made (w : World) : DoneAt (w.alloc (.map #[] 0)) w.heap.size 0 [] := ⟨_, World.ownsMap_made _ _ _ _, says_nil⟩
theorem kept_of_grown {w w' : World} {b : Nat} (h : w.grownBy w' (some b)) : Kept b w w' := ⟨h.os, h.tape, h.output, h.size, fun i hi hp => h.block i hi (by intro e; cases e; exact hp rfl)⟩

set_option maxHeartbeats 2000000 in
set_option maxRecDepth 100000 in
theorem repeated_any (w : World) (G b n : Nat) (dn : List Bs) (nm : ByteArray) (hG : w.cell? ⟨G, 5, none⟩ = some (.map (some b))) (hd : DoneAt w b n dn) (hn : n ≤ 1000000) (hs : nm.size ≤ maxLen) :
    Calls Tryz.prog 162 #[.pointer (some ⟨G, 0, none⟩), .string nm] w fun x w' => x = .returned (.bool (dn.contains nm.data.toList)) ∧ Kept b w w' ∧ DoneAt w' b (n + 1) (nm.data.toList :: dn) := by
  obtain ⟨D, hown, hsay⟩ := hd
  have HKEY := Lib.hid (WideMaps.keyOf_string_mk (P := Tryz.prog) Tryz.underlying9 hs)
  obtain ⟨v, ps, hrun, hv⟩ := hown.lookup (t := 111) lawS Tryz.underlying111 (zeroBo w) (plainElem_bool Tryz.underlying4 false) HKEY.out
  rw [hsay] at hv
  obtain ⟨r, rfl, hvr⟩ := plainElem_bool_inv Tryz.underlying4 hv
  simp only [Prod.mk.injEq] at hvr
  obtain ⟨hvr, _⟩ := hvr
  injection hvr with hvr
  injection hvr with hvr
  have HR := Lib.hid hvr
  have HOWN := Lib.hid hown
  have HSAY := Lib.hid hsay
  rw [hvr]
  clear hown hsay hv hvr hs
  go_enter Tryz.func162, Tryz.ntmps162
  go_wp2_with (at_mapUpdate; refine wpList_mapUpdate_own _ rfl _ _ _ 111 rfl 9 4 lawS Tryz.underlying111 _ b n D rfl HOWN.out (by unfold maxLen; omega) _ _ _ rfl rfl HKEY.out _ [] (plainElem_bool Tryz.underlying4 true) ?_; intro w3 hown3 hgrow3)
  go_ret
  exact ⟨rfl, kept_of_grown hgrow3, _, hown3, says_put HOWN.out.isMap HSAY.out _⟩

/-- The walk in block G, over a program that lies in W0: a scope, a thread's name, the statements around, what has been done (the map in block b). -/
structure WkAt (W0 : World) (G b : Nat) (s : Sc) (vl vd vt : Value) (own : Bs) (ar : Ar) (dn : List Bs) (n : Nat) (va : Value) (w : World) : Prop where
  c0 : w.cell? ⟨G, 0, none⟩ = some vl
  c1 : w.cell? ⟨G, 1, none⟩ = some vd
  c2 : w.cell? ⟨G, 2, none⟩ = some vt
  c3 : w.cell? ⟨G, 3, none⟩ = some (.string ⟨own.toArray⟩)
  c4 : w.cell? ⟨G, 4, none⟩ = some va
  c5 : w.cell? ⟨G, 5, none⟩ = some (.map (some b))
  fz : ∀ j, w.frozen? ⟨G, j, none⟩ = false
  hG : W0.heap.size ≤ G
  hb : W0.heap.size ≤ b
  hne : G ≠ b
  gG : va.ownBlock ≠ some G
  gb : va.ownBlock ≠ some b
  up : ∀ g, va.ownBlock = some g → G < g ∧ b < g
  row : ∃ L : List (Nat × Nat × Int × Bs), ar = L.map (fun x => x.2.2) ∧ w.ownsRow W0.heap.size 146 1 va L.length (L.map fun x => .pointer (some ⟨x.1, x.2.1, none⟩)) ∧
    ∀ x ∈ L, W0.cell? ⟨x.1, x.2.1, none⟩ = some (.int .i64 x.2.2.1) ∧ W0.cell? ⟨x.1, x.2.1 + 2, none⟩ = some (.string ⟨x.2.2.2.toArray⟩)
  done : DoneAt w b n dn
  bel : Below W0.heap.size W0 w
  sc : ScAt W0 vl vd vt s
theorem ownsRow_of_blocks {w w' : World} {base : Nat} {e : TypeId} {size n : Nat} {v : Value} {xs : List Value} (h : w.ownsRow base e size v n xs) (k : ∀ g, v.ownBlock = some g → g < w.heap.size → w'.heap[g]? = w.heap[g]?) : w'.ownsRow base e size v n xs := by
  refine ⟨h.1, ?_⟩
  rcases h.2 with hn | ⟨g, cap, cur, rfl, hg, hgg, rest⟩
  · exact .inl hn
  · exact .inr ⟨g, cap, cur, rfl, hg, by rw [k g rfl (Array.getElem?_eq_some_iff.1 hgg).1]; exact hgg, rest⟩
section
variable {W0 w w' : World} {G b n : Nat} {s : Sc} {vl vd vt va : Value} {own : Bs} {ar : Ar} {dn : List Bs}
theorem WkAt.lt (h : WkAt W0 G b s vl vd vt own ar dn n va w) : G < w.heap.size := block_lt_of_cell h.c0
theorem WkAt.below (h : WkAt W0 G b s vl vd vt own ar dn n va w) (k : Below w.heap.size w w') : WkAt W0 G b s vl vd vt own ar dn n va w' := by
  have hl := h.lt
  have cl : ∀ j, w'.cell? ⟨G, j, none⟩ = w.cell? ⟨G, j, none⟩ := fun j => k.cell (p := ⟨G, j, none⟩) hl
  obtain ⟨L, h1, h2, h3⟩ := h.row
  exact ⟨(cl 0).trans h.c0, (cl 1).trans h.c1, (cl 2).trans h.c2, (cl 3).trans h.c3, (cl 4).trans h.c4, (cl 5).trans h.c5, fun j => (k.frozen (p := ⟨G, j, none⟩) hl).trans (h.fz j), h.hG, h.hb, h.hne, h.gG, h.gb, h.up,
    ⟨L, h1, ownsRow_of_blocks h2 (fun g _ hg => k.block g hg), h3⟩, h.done.below k, h.bel.trans (k.mono h.bel.size), h.sc⟩
theorem WkAt.mark (h : WkAt W0 G b s vl vd vt own ar dn n va w) {dn' : List Bs} {n' : Nat} (k : Kept b w w') (hd : DoneAt w' b n' dn') : WkAt W0 G b s vl vd vt own ar dn' n' va w' := by
  have hl := h.lt
  have cl : ∀ j, w'.cell? ⟨G, j, none⟩ = w.cell? ⟨G, j, none⟩ := fun j => k.cell hl h.hne
  obtain ⟨L, h1, h2, h3⟩ := h.row
  exact ⟨(cl 0).trans h.c0, (cl 1).trans h.c1, (cl 2).trans h.c2, (cl 3).trans h.c3, (cl 4).trans h.c4, (cl 5).trans h.c5, fun j => (k.frozen hl h.hne).trans (h.fz j), h.hG, h.hb, h.hne, h.gG, h.gb, h.up,
    ⟨L, h1, ownsRow_of_blocks h2 (fun g he hg => k.block g hg (fun e => h.gb (by rw [he, e]))), h3⟩, hd, Kept.below h.bel k h.hb h.bel.size, h.sc⟩
theorem WkAt.mono (h : WkAt W0 G b s vl vd vt own ar dn n va w) {n' : Nat} (hn : n ≤ n') : WkAt W0 G b s vl vd vt own ar dn n' va w := by
  obtain ⟨D, h1, h2⟩ := h.done
  exact ⟨h.c0, h.c1, h.c2, h.c3, h.c4, h.c5, h.fz, h.hG, h.hb, h.hne, h.gG, h.gb, h.up, h.row, ⟨D, h1.mono hn, h2⟩, h.bel, h.sc⟩
theorem WkAt.arAt (h : WkAt W0 G b s vl vd vt own ar dn n va w) : ArAt w va ar := by
  obtain ⟨L, rfl, h2, h3⟩ := h.row
  have hrow := h2
  rcases h2.2 with ⟨rfl, h0⟩ | ⟨g, cap, cur, rfl, hg, hgg, hc, rest⟩
  · have hL : L = [] := List.eq_nil_of_length_eq_zero h0
    subst hL
    exact ⟨none, 0, rfl, fun k hk => absurd hk (by simp)⟩
  · refine ⟨some ⟨g, 0, none⟩, cap, by rw [List.length_map], fun k hk => ?_⟩
    have hk2 : k < L.length := by rw [List.length_map] at hk; exact hk
    have hcell := hrow.cellAt k (by omega)
    obtain ⟨q1, q2⟩ := h3 _ (List.getElem_mem hk2)
    have hgl := (Array.getElem?_eq_some_iff.1 hgg).1
    refine ⟨g, L[k].1, L[k].2.1, rfl, hgl, ?_, ?_, ?_⟩
    · rw [hcell]
      simp [hk2]
    · rw [List.getElem_map]
      exact (h.bel.cell (p := ⟨L[k].1, L[k].2.1, none⟩) (block_lt_of_cell q1)).trans q1
    · rw [List.getElem_map]
      exact (h.bel.cell (p := ⟨L[k].1, L[k].2.1 + 2, none⟩) (block_lt_of_cell q2)).trans q2
theorem WkAt.scAt (h : WkAt W0 G b s vl vd vt own ar dn n va w) : ScAt w vl vd vt s := h.sc.below h.bel
end
end Ck
end Go.Proofs.YtncflfadgcaldaaGreatDoor
