/-
  Has of the reference; slices of numbers that came in.
-/
import Derived.Test.YtdibfpjhmfkbkaaSlU
import Derived.ProofKit
import Derived.Carry
import Derived.ChangeSame
import Derived.Deep.QuietTactic
namespace Go.Proofs.Ytdibfpjhmfkbkaa
open Go.ChangeShapes Go.WideShapes Go.ChangeAt Go.RowKit

set_option maxRecDepth 100000 in
theorem has_any (w : World) (N : List Nat) (v : Value) (zs : List Int) (x : Int) (h : Sl.IntsAt N w v zs) :
    Calls Try.prog 7 #[v, .int .i64 x] w fun e w' => e = .returned (.bool (decide (x ∈ zs))) ∧ w' = w := by
  have H := Lib.hid h
  obtain ⟨A, cap, rfl, h1, h2⟩ := Sl.IntsAt.form h
  obtain ⟨n, hn⟩ : ∃ n, n = zs.length := ⟨_, rfl⟩
  rw [← hn] at H h1 ⊢
  have HN := Lib.hid hn
  have hn63 : n ≤ 9223372036854775807 := by unfold maxLen at h2; omega
  clear h hn
  go_enter Try.func7, Try.ntmps7
  go_wp2_with fail
  go_loopw [5] (fun i wr => ∃ k : Nat, k ≤ n ∧ i = .int .i64 k ∧ w = wr ∧ ∀ j (hj : j < zs.length), j < k → zs[j] ≠ x) (fun i _ => n - (intOf i).toNat)
  case atStart => exact ⟨0, by omega, by first | rfl | trivial, rfl, fun j _ h => absurd h (by omega)⟩
  case round =>
    obtain ⟨k, hk, rfl, rfl, hne⟩ := hrel
    have HNE := Lib.hid hne
    clear hne
    by_cases hkn : k < n
    · have hkz : k < zs.length := by rw [← HN.out]; exact hkn
      obtain ⟨b, off, cap2, hv, _, _, _, hb, hc⟩ := Sl.IntsAt.at_ H.out hkz
      injection hv with e1 e2 e3
      subst e1 e3
      obtain ⟨y, hy⟩ : ∃ y, y = zs[k] := ⟨_, rfl⟩
      rw [← hy] at hc
      have HY := Lib.hid hy
      have hki : (k : Int) < n := by omega
      clear hy e2
      by_cases hyx : y = x
      · have HM := Lib.hid (show x ∈ zs by rw [← hyx, HY.out]; exact List.getElem_mem hkz)
        subst hyx
        go_wp2_with fail
        go_ret
        exact ⟨by simp [HM.out], rfl⟩
      · go_wp2_with fail
        go_roundw
        case rel =>
          refine ⟨k + 1, by omega, by go_num, by first | rfl | trivial, fun j hj hjk => ?_⟩
          rcases Nat.lt_or_ge j k with h | h
          · exact HNE.out j hj h
          · obtain rfl : j = k := by omega
            rw [← HY.out]
            exact hyx
        case measure => simp [intOf]; omega
    · have hki : ¬ ((k : Int) < n) := by omega
      have HM := Lib.hid (show x ∉ zs by
        intro hx
        obtain ⟨j, hj, e⟩ := List.getElem_of_mem hx
        have := HN.out
        exact HNE.out j hj (by omega) e)
      go_wp2_with fail
      go_ret
      exact ⟨by simp [HM.out], rfl⟩
theorem has_at (w : World) (N : List Nat) (v : Value) (zs : List Int) (x : Int) (r : Bool) (hr : decide (x ∈ zs) = r) (h : Sl.IntsAt N w v zs) :
    Calls Try.prog 7 #[v, .int .i64 x] w fun e w' => e = .returned (.bool r) ∧ w' = w := hr ▸ has_any w N v zs x h
theorem own : ownKnob Try.prog.godebug = none := by kernel_rfl
theorem laidOut : laidOutB Try.prog = true := by kernel_rfl
section
variable {H : Type} {enc : TypeId × Value → H} {W : World} {fuel : Nat} {a : Option Addr} {len cap : Nat} {x : DataW H × List MemPlace}
/-- A slice of numbers that came in. -/
theorem ints_of {t e : TypeId} (ht : Try.prog.underlying t = some (.slice e)) (he : Try.prog.underlying e = some (.int .i64)) (hc : Try.prog.cellsOf e = 1)
    (hf : DataW.trod enc Try.prog W 0 (fun _ => true) true fuel t [.slice a len cap] = some x) : ∃ zs : List Int, zs.length = len ∧ Sl.IntsAt [] W (.slice a len cap) zs := by
  rcases open_ints ht he hc hf with ⟨hcs, _⟩ | ⟨ad, len', cap', zs, hcs, _, hl, hm, hz, _, hcell, _⟩
  · simp only [List.cons.injEq, and_true, Value.slice.injEq] at hcs
    obtain ⟨rfl, rfl, rfl⟩ := hcs
    exact ⟨[], rfl, Sl.Vals.nil [] W⟩
  · simp only [List.cons.injEq, and_true, Value.slice.injEq] at hcs
    obtain ⟨rfl, rfl, rfl⟩ := hcs
    simp only [if_true] at hz
    have hlt : (zs.take len).length = len := by simp; omega
    refine ⟨zs.take len, hlt, some ad, cap, by simp; omega, by simp; omega, hm, (fun e => by cases e), fun j u hj => ?_⟩
    obtain ⟨hjl, hju⟩ := List.getElem?_eq_some_iff.1 hj
    simp only [List.length_map] at hjl
    have hjz : j < zs.length := by omega
    obtain ⟨b, off, rfl, hcb⟩ := ints_at hcell (by omega)
    have hcj := hcb j hjz
    refine ⟨b, off, rfl, by simp, block_lt_of_cell hcj, ?_⟩
    rw [hcj, ← hju]
    simp [hjz]
end
end Go.Proofs.Ytdibfpjhmfkbkaa
