/-
  The contract of the reference's SameTokens at two slices that hold the same tokens: true.
-/
import Derived.Test.YtjinbmemflgkoaaDoorTokH
namespace Go.Proofs.YtjinbmemflgkoaaDoor
open Go.RowKit
open Tok

namespace Tok
/-- The value is a slice that holds these tokens. -/
def Toks (w : World) (v : Value) (ts : List T) : Prop :=
  ∃ ad cap, v = .slice ad ts.length cap ∧ (0 < ts.length → ∃ g, ad = some ⟨g, 0, none⟩ ∧ g < w.heap.size ∧ ∀ j u, (cells ts)[j]? = some u → w.cell? ⟨g, j, none⟩ = some u)
theorem Toks.of_own {w : World} {B : Nat} {v : Value} {ts : List T} (h : w.ownsRow B 30 3 v ts.length (cells ts)) : Toks w v ts := by
  rcases Nat.eq_zero_or_pos ts.length with h0 | h0
  · obtain ⟨ad, cap, hv⟩ := toks_len h
    exact ⟨ad, cap, hv, fun hp => absurd hp (by omega)⟩
  · obtain ⟨g, cap, hv, _, hlt, hc⟩ := toks_form h h0
    exact ⟨_, cap, hv, fun _ => ⟨g, rfl, hlt, hc⟩⟩
theorem Toks.below {w w' : World} {v : Value} {ts : List T} (h : Toks w v ts) (hb : Below w.heap.size w w') : Toks w' v ts := by
  obtain ⟨ad, cap, hv, hc⟩ := h
  refine ⟨ad, cap, hv, fun hp => ?_⟩
  obtain ⟨g, ha, hg, hcell⟩ := hc hp
  exact ⟨g, ha, Nat.lt_of_lt_of_le hg hb.size, fun j u hj => (hb.cell (p := ⟨g, j, none⟩) hg).trans (hcell j u hj)⟩
theorem cells_at : ∀ (ts : List T) (k : Nat) (h : k < ts.length), (cells ts)[k * 3]? = some (.int .i64 ts[k].1) ∧ (cells ts)[k * 3 + 1]? = some (.string ⟨ts[k].2.1.toArray⟩) ∧ (cells ts)[k * 3 + 2]? = some (.int .i64 ts[k].2.2)
  | [], k, h => absurd h (by simp)
  | t :: r, 0, _ => by simp [cells]
  | t :: r, k + 1, h => by
    have ih := cells_at r k (by simpa using h)
    have e : cells (t :: r) = .int .i64 t.1 :: .string ⟨t.2.1.toArray⟩ :: .int .i64 t.2.2 :: cells r := by simp [cells]
    rw [e, show (k + 1) * 3 = k * 3 + 3 by omega]
    simpa using ih
/-- The k-th token's three cells. -/
theorem Toks.at_ {w : World} {v : Value} {ts : List T} (h : Toks w v ts) (k : Nat) (hk : k < ts.length) :
    ∃ g cap, v = .slice (some ⟨g, 0, none⟩) ts.length cap ∧ g < w.heap.size ∧ w.cell? ⟨g, k * 3, none⟩ = some (.int .i64 ts[k].1) ∧ w.cell? ⟨g, k * 3 + 1, none⟩ = some (.string ⟨ts[k].2.1.toArray⟩) ∧ w.cell? ⟨g, k * 3 + 2, none⟩ = some (.int .i64 ts[k].2.2) := by
  obtain ⟨ad, cap, hv, hc⟩ := h
  obtain ⟨g, rfl, hg, hcell⟩ := hc (by omega)
  obtain ⟨h1, h2, h3⟩ := cells_at ts k hk
  exact ⟨g, cap, hv, hg, hcell _ _ h1, hcell _ _ h2, hcell _ _ h3⟩
theorem tokEq_same (k l : Int) (s : ByteArray) : tokEq k l s k l s = true := by simp [tokEq]
end Tok

set_option maxHeartbeats 1000000 in
theorem same_any (ts : List T) (va vb : Value) (w : World) (ha : Toks w va ts) (hb : Toks w vb ts) (hn : ts.length ≤ 1000000) :
    Calls Tryd.prog 13 #[va, vb] w fun e w' => e = .returned (.bool true) ∧ Below w.heap.size w w' := by
  have HA := Lib.hid ha
  have HB := Lib.hid hb
  obtain ⟨ad, cap, rfl, _⟩ := ha
  obtain ⟨bd, cbp, rfl, _⟩ := hb
  obtain ⟨n, hnn⟩ : ∃ n, n = ts.length := ⟨_, rfl⟩
  rw [← hnn] at HA HB hn ⊢
  have HN := Lib.hid hnn
  clear hnn
  go_enter Tryd.func13, Tryd.ntmps13
  go_wp2_with fail
  go_loopw [5] (fun iv wr => ∃ k : Nat, k ≤ n ∧ iv = .int .i64 k ∧ Below w.heap.size w wr) (fun iv _ => n - (intOf iv).toNat)
  case atStart => exact ⟨0, by omega, rfl, Below.refl _ _⟩
  case round =>
    obtain ⟨k, hk, rfl, hbel⟩ := hrel
    by_cases hlt : k < n
    · have hkt : k < ts.length := by have := HN.out; omega
      obtain ⟨g, cap1, e1, hg, a0, a1, a2⟩ := Toks.at_ HA.out k hkt
      obtain ⟨g2, cap2, e2, hg2, b0, b1, b2⟩ := Toks.at_ HB.out k hkt
      injection e1 with e1
      injection e2 with e2
      subst e1 e2
      have c0 := (hbel.cell (p := ⟨g, k * 3, none⟩) hg).trans a0
      have c1 := (hbel.cell (p := ⟨g, k * 3 + 1, none⟩) hg).trans a1
      have c2 := (hbel.cell (p := ⟨g, k * 3 + 2, none⟩) hg).trans a2
      have d0 := (hbel.cell (p := ⟨g2, k * 3, none⟩) hg2).trans b0
      have d1 := (hbel.cell (p := ⟨g2, k * 3 + 1, none⟩) hg2).trans b1
      have d2 := (hbel.cell (p := ⟨g2, k * 3 + 2, none⟩) hg2).trans b2
      clear a0 a1 a2 b0 b1 b2
      generalize ts[k].1 = x at *
      generalize (⟨ts[k].2.1.toArray⟩ : ByteArray) = y at *
      generalize ts[k].2.2 = z at *
      clear hkt
      have hte := tok_equal
      have hng := no_guard
      have hsm := tokEq_same (x : Nat) (z : Nat) y
      have hk1 : (0 : Int) ≤ k := by omega
      go_wp2_with fail
      go_quiet (fail)
      go_wp2_with fail
      go_roundw
      case rel => exact ⟨k + 1, by omega, by go_num, below_drewN hbel _⟩
      case measure => simp [intOf]; omega
    · go_wp2_with fail
      go_ret
      exact ⟨ret_bool rfl, hbel⟩
end Go.Proofs.YtjinbmemflgkoaaDoor
