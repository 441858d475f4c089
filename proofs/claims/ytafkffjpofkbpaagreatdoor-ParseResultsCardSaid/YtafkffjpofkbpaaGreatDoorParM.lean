/-
  The contract of the reference's SameExpr at two values that are the same expression: true.
-/
import Derived.Test.YtafkffjpofkbpaaGreatDoorParMem
import Derived.Test.YtafkffjpofkbpaaGreatDoorTokE
import Derived.WalkSpells
import Derived.WalkSmall
import Derived.Deep.RegionWith
namespace Go.Proofs.YtafkffjpofkbpaaGreatDoor
open Go.RowKit
open Par

namespace Par
open Tok (T Bs)
mutual
def E.ht : E → Nat
  | .mk _ _ _ l => htL l + 1
def htL : List E → Nat
  | [] => 0
  | e :: r => max e.ht (htL r)
end
mutual
/-- No list of operands is as long as an int. -/
def E.ok : E → Prop
  | .mk _ _ _ l => l.length ≤ 4611686018427387904 ∧ okL l
def okL : List E → Prop
  | [] => True
  | e :: r => e.ok ∧ okL r
end
theorem ok_get : ∀ (l : List E), okL l → ∀ (k : Nat) (h : k < l.length), l[k].ok
  | [], _, k, h => absurd h (by simp)
  | e :: r, ho, 0, _ => ho.1
  | e :: r, ho, k + 1, h => ok_get r ho.2 k (by simpa using h)
theorem ht_get : ∀ (l : List E) (k : Nat) (h : k < l.length), l[k].ht ≤ htL l
  | [], k, h => absurd h (by simp)
  | e :: r, 0, _ => by simp only [htL, List.getElem_cons_zero]; omega
  | e :: r, k + 1, h => by
    have := ht_get r k (by simpa using h)
    simp only [htL, List.getElem_cons_succ]
    omega
theorem rdL_at {w : World} {S : Nat → Prop} {g : Nat} : ∀ (l : List E) (o : Nat), RdL w S g o l → ∀ k (h : k < l.length), ∃ v0 v1 v2 v3,
    w.cell? ⟨g, o + k * 4, none⟩ = some v0 ∧ w.cell? ⟨g, o + k * 4 + 1, none⟩ = some v1 ∧ w.cell? ⟨g, o + k * 4 + 2, none⟩ = some v2 ∧ w.cell? ⟨g, o + k * 4 + 3, none⟩ = some v3 ∧ RdE w S l[k] (.agg #[v0, v1, v2, v3])
  | [], o, _, k, h => absurd h (by simp)
  | e :: r, o, hl, 0, _ => by
    obtain ⟨⟨v0, v1, v2, v3, h0, h1, h2, h3, he⟩, _⟩ := hl
    exact ⟨v0, v1, v2, v3, by simpa using h0, by simpa using h1, by simpa using h2, by simpa using h3, he⟩
  | e :: r, o, hl, k + 1, h => by
    obtain ⟨_, hr⟩ := hl
    obtain ⟨v0, v1, v2, v3, h0, h1, h2, h3, he⟩ := rdL_at r (o + 4) hr k (by simpa using h)
    rw [show o + 4 + k * 4 = o + (k + 1) * 4 by omega] at h0 h1 h2 h3
    exact ⟨v0, v1, v2, v3, h0, h1, h2, h3, he⟩
theorem RdE.shape {w : World} {S : Nat → Prop} {e : E} {v0 v1 v2 v3 : Value} (h : RdE w S e (.agg #[v0, v1, v2, v3])) : ∃ op n nm a len cap, v0 = .int .i64 op ∧ v1 = .int .i64 n ∧ v2 = .string nm ∧ v3 = .slice a len cap := by
  obtain ⟨op, n, nm, l⟩ := e
  obtain ⟨a, cap, h, _⟩ := h
  injection h with h
  simp at h
  exact ⟨_, _, _, _, _, _, h.1, h.2.1, h.2.2.1, h.2.2.2⟩
end Par

set_option maxHeartbeats 4000000 in
set_option maxRecDepth 100000 in
theorem same_any (S1 S2 : Nat → Prop) : ∀ (N : Nat) (x : E) (v1 v2 : Value) (w : World), x.ht ≤ N → x.ok → RdE w S1 x v1 → RdE w S2 x v2 →
    Calls Tryz.prog 14 #[v1, v2] w fun e w' => e = .returned (.bool true) ∧ Below w.heap.size w w'
  | 0, .mk op n nm l, v1, v2, w, hN, ho, h1, h2 => by simp [E.ht] at hN
  | N + 1, .mk op n nm l, v1, v2, w, hN, ho, h1, h2 => by
    have ih := Lib.hid (same_any S1 S2 N)
    obtain ⟨hlen, hoL⟩ := ho
    have hN2 : htL l ≤ N := by simp only [E.ht] at hN; omega
    obtain ⟨a1, cap1, rfl, hl1⟩ := h1
    obtain ⟨a2, cap2, rfl, hl2⟩ := h2
    have H1 := Lib.hid hl1
    have H2 := Lib.hid hl2
    clear hl1 hl2 hN
    obtain ⟨m, hm⟩ : ∃ m, m = l.length := ⟨_, rfl⟩
    rw [← hm] at hlen ⊢
    have HM := Lib.hid hm
    clear hm
    go_enter Tryz.func14, Tryz.ntmps14
    go_wp2_with fail
    go_loopw [5] (fun iv wr => ∃ k : Nat, k ≤ m ∧ iv = .int .i64 k ∧ Below (w.heap.size + 2) ((w.alloc (.cells #[.int .i64 op, .int .i64 n, .string nm, .slice a1 m cap1] 36)).alloc (.cells #[.int .i64 op, .int .i64 n, .string nm, .slice a2 m cap2] 36)) wr) (fun iv _ => m - (intOf iv).toNat)
    case atStart => exact ⟨0, by omega, rfl, Below.refl _ _⟩
    case round =>
      obtain ⟨k, hk, rfl, hbel⟩ := hrel
      have hbw : Below w.heap.size w wr := (((Below.refl _ _).alloc (Nat.le_refl _) _).alloc (by simp) _).trans (hbel.mono (by omega))
      have x3 : wr.cell? ⟨w.heap.size, 3, none⟩ = some (.slice a1 m cap1) := (hbel.cell (p := ⟨w.heap.size, 3, none⟩) (by simp)).trans (by simp)
      have y3 : wr.cell? ⟨w.heap.size + 1, 3, none⟩ = some (.slice a2 m cap2) := (hbel.cell (p := ⟨w.heap.size + 1, 3, none⟩) (by simp)).trans (by simp)
      by_cases hlt : k < m
      · have hkl : k < l.length := by have := HM.out; omega
        obtain ⟨g1, rfl, _, hr1⟩ := H1.out.resolve_left (by rintro rfl; simp at hkl)
        obtain ⟨g2, rfl, _, hr2⟩ := H2.out.resolve_left (by rintro rfl; simp at hkl)
        obtain ⟨v0, v1, v2, v3, c0, c1, c2, c3, he1⟩ := rdL_at l 0 hr1 k hkl
        obtain ⟨u0, u1, u2, u3, d0, d1, d2, d3, he2⟩ := rdL_at l 0 hr2 k hkl
        rw [Nat.zero_add] at c0 c1 c2 c3 d0 d1 d2 d3
        obtain ⟨op1, n1, nm1, b1, len1, cp1, rfl, rfl, rfl, rfl⟩ := he1.shape
        obtain ⟨op2, n2, nm2, b2, len2, cp2, rfl, rfl, rfl, rfl⟩ := he2.shape
        have e0 := (hbw.cell (p := ⟨g1, k * 4, none⟩) (block_lt_of_cell c0)).trans c0
        have e1 := (hbw.cell (p := ⟨g1, k * 4 + 1, none⟩) (block_lt_of_cell c1)).trans c1
        have e2 := (hbw.cell (p := ⟨g1, k * 4 + 2, none⟩) (block_lt_of_cell c2)).trans c2
        have e3 := (hbw.cell (p := ⟨g1, k * 4 + 3, none⟩) (block_lt_of_cell c3)).trans c3
        have f0 := (hbw.cell (p := ⟨g2, k * 4, none⟩) (block_lt_of_cell d0)).trans d0
        have f1 := (hbw.cell (p := ⟨g2, k * 4 + 1, none⟩) (block_lt_of_cell d1)).trans d1
        have f2 := (hbw.cell (p := ⟨g2, k * 4 + 2, none⟩) (block_lt_of_cell d2)).trans d2
        have f3 := (hbw.cell (p := ⟨g2, k * 4 + 3, none⟩) (block_lt_of_cell d3)).trans d3
        have CI : Hid (∀ W, Below w.heap.size w W → Calls Tryz.prog 14 #[.agg #[.int .i64 op1, .int .i64 n1, .string nm1, .slice b1 len1 cp1], .agg #[.int .i64 op2, .int .i64 n2, .string nm2, .slice b2 len2 cp2]] W fun e w' => e = .returned (.bool true) ∧ Below W.heap.size W w') :=
          Lib.hid (fun W hb => ih.out l[k] _ _ W (by have := ht_get l k hkl; omega) (ok_get l hoL k hkl) (he1.below hb) (he2.below hb))
        clear c0 c1 c2 c3 d0 d1 d2 d3 he1 he2 hr1 hr2 hkl hN2 hoL
        have hk1 : (0 : Int) ≤ k := by omega
        go_wp2_with fail
        go_region_with (go_at_call 14; refine (CI.out _ ?_).mono ?_; first | exact hbw | exact hbw.drew; rintro e w3 ⟨rfl, hb3⟩)
        all_goals
          have hsz := hbel.size
          have hb4 : Below (w.heap.size + 2) wr w3 := (Below.trans ((Below.refl _ wr).drew) hb3).mono (by simp at hsz; show w.heap.size + 2 ≤ wr.heap.size; omega)
          go_wp2_with fail
          go_roundw
          case rel => exact ⟨k + 1, by omega, by go_num, hbel.trans hb4⟩
          case measure => simp [intOf]; omega
      · go_wp2_with fail
        go_ret
        exact ⟨rfl, hbw⟩
end Go.Proofs.YtafkffjpofkbpaaGreatDoor
