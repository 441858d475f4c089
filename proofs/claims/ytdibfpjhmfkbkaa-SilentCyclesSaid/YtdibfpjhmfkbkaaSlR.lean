/-
  Package silent: the value and the taint that a silent instruction gives.
-/
import Derived.Test.YtdibfpjhmfkbkaaSlU
import Derived.Test.YtdibfpjhmfkbkaaGd
import Derived.Deep.QuietTactic
namespace Go.Proofs.Ytdibfpjhmfkbkaa
open Go.RowKit
open Vl

namespace Sl
theorem Vals.open_ {N : List Nat} {w : World} {v : Value} {ys : List Value} (h : Vals N w v ys) (h0 : 0 < ys.length) :
    ∃ b off cap, v = .slice (some ⟨b, off, none⟩) ys.length cap ∧ ys.length ≤ cap ∧ cap ≤ maxLen ∧ b ∉ N ∧ b < w.heap.size ∧ ∀ j u, ys[j]? = some u → w.cell? ⟨b, off + j, none⟩ = some u := by
  obtain ⟨A, cap, hv, h1, h2, h3, hc⟩ := h
  obtain ⟨b, off, rfl, hn, hlt, _⟩ := hc 0 (ys[0]) (by simp [h0])
  refine ⟨b, off, cap, hv, h1, h2, hn, hlt, fun j u hj => ?_⟩
  obtain ⟨b', off', he, _, _, hu⟩ := hc j u hj
  injection he with he
  injection he with e1 e2
  subst e1 e2
  exact hu
def val2 (i : I) (s : S) : Option (Int × List Int) := if ins i.a s.regs.length then val i s else none
/-- What result returns. -/
def RPost (N : List Nat) (o : Option (Int × List Int)) (x : Ending) (w' : World) : Prop :=
  ∃ v tv, x = .returned (.tuple #[.int .i64 v, tv, .bool o.isSome]) ∧ (∃ A n c, tv = .slice A n c) ∧ ∀ p, o = some p → v = p.1 ∧ IntsAt N w' tv p.2
theorem Vals.drewN {N : List Nat} {w : World} {v : Value} {ys : List Value} (h : Vals N w v ys) (n : Nat) : Vals N (w.drewN n) v ys := h
theorem below_drewN {B : Nat} {a w : World} (h : Below B a w) (n : Nat) : Below B a (w.drewN n) := ⟨h.os, h.tape, h.output, h.size, h.block⟩
/-- A value of a region: a slice of these numbers. -/
def gU (N : List Nat) (us : List Int) : Gd.Cond := fun v x => (∃ A n c, v = .slice A n c) ∧ IntsAt N x v us
theorem gU_stable (N : List Nat) (us : List Int) : ∀ v x y, Below x.heap.size x y → gU N us v x → gU N us v y := fun _ _ _ b h => ⟨h.1, IntsAt.below h.2 b⟩
theorem ins_nat {r : Int} {n : Nat} (h : ins r n = true) : ∃ k : Nat, r = (k : Int) ∧ k < n := by
  have h2 : 0 ≤ r ∧ r < n := of_decide_eq_true h
  exact ⟨r.toNat, by omega, by omega⟩
end Sl

theorem isIndex_any (w : World) (i : Int) (n : Nat) :
    Calls Try.prog 17 #[.int .i64 i, .int .i64 n] w fun x w' => x = .returned (.bool (Sl.ins i n)) ∧ w' = w := by
  by_cases h1 : i ≥ 0
  · by_cases h2 : i < n
    · go_enter Try.func17, Try.ntmps17
      go_wp2_with fail
      go_ret
      exact ⟨by simp [Sl.ins]; omega, rfl⟩
    · go_enter Try.func17, Try.ntmps17
      go_wp2_with fail
      go_ret
      exact ⟨by simp [Sl.ins]; omega, rfl⟩
  · go_enter Try.func17, Try.ntmps17
    go_wp2_with fail
    go_ret
    exact ⟨by simp [Sl.ins]; omega, rfl⟩
theorem isIndex_at (w : World) (i : Int) (n : Nat) (r : Bool) (hr : Sl.ins i n = r) :
    Calls Try.prog 17 #[.int .i64 i, .int .i64 n] w fun x w' => x = .returned (.bool r) ∧ w' = w := hr ▸ isIndex_any w i n
theorem isSilent_any (w : World) (op : Int) :
    Calls Try.prog 18 #[.int .i64 op] w fun x w' => x = .returned (.bool (Sl.sil op)) ∧ w' = w := by
  by_cases h1 : op ≥ 1
  · by_cases h2 : op ≤ 5
    · go_enter Try.func18, Try.ntmps18
      go_wp2_with fail
      go_ret
      exact ⟨by simp [Sl.sil]; omega, rfl⟩
    · go_enter Try.func18, Try.ntmps18
      go_wp2_with fail
      go_ret
      exact ⟨by simp [Sl.sil]; omega, rfl⟩
  · go_enter Try.func18, Try.ntmps18
    go_wp2_with fail
    go_ret
    exact ⟨by simp [Sl.sil]; omega, rfl⟩
theorem isSilent_at (w : World) (op : Int) (r : Bool) (hr : Sl.sil op = r) :
    Calls Try.prog 18 #[.int .i64 op] w fun x w' => x = .returned (.bool r) ∧ w' = w := hr ▸ isSilent_any w op
theorem exists_at (w : World) (p B : Nat) (r : Int) (A : Option Addr) (n c : Nat) (b : Bool) (hb : Sl.ins r n = b) (hp : w.cell? ⟨p, 0, none⟩ = some (.pointer (some ⟨B, 0, none⟩))) (h1 : w.cell? ⟨B, 1, none⟩ = some (.slice A n c)) :
    Calls Try.prog 46 #[.int .i64 r, .pointer (some ⟨p, 0, none⟩)] w fun x w' => x = .returned (.bool b) ∧ w = w' := by
  go_enter Try.func46, Try.ntmps46
  go_wp2_with (go_at_call 17; refine (isIndex_at _ _ _ _ hb).mono ?_; rintro x w' ⟨rfl, rfl⟩)
  go_ret
  exact ⟨rfl, rfl⟩
end Go.Proofs.Ytdibfpjhmfkbkaa
