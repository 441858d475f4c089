/-
  The walk of ParseExprReads.
-/
import Derived.Test.YteekcepbogndlaaGreatDoorRfG
import Derived.Test.YteekcepbogndlaaGreatDoorParM
import Derived.Test.YteekcepbogndlaaGreatDoorAwF
namespace Go.Proofs.YteekcepbogndlaaGreatDoor
open Go.RowKit
open Par

namespace Par
open Tok (T Bs)
/-- What a reader makes has lists of operands that are no longer than an int. -/
def Ok (f : Pa E) : Prop := ∀ ts x r, f ts = .ok (x, r) → x.ok
theorem ok_binary {o : Int} {a b : E} (ha : a.ok) (hb : b.ok) : (binary o a b).ok := ⟨by simp, ha, hb, trivial⟩
theorem seriesL_ok {f : Pa E} {ops : List (Bs × Int)} (hf : Ok f) : ∀ n e ts x r, e.ok → seriesL f ops n e ts = .ok (x, r) → x.ok
  | 0, e, ts, x, r, he, h => by simp only [seriesL] at h; cases h; exact he
  | n + 1, e, ts, x, r, he, h => by
    simp only [seriesL] at h
    split at h
    · cases h; exact he
    · rename_i o q hq
      split at h
      · cases h
      · rename_i y q2 h2
        exact seriesL_ok hf n _ _ _ _ (ok_binary he (hf _ _ _ h2)) h
theorem series_ok {f : Pa E} {ops : List (Bs × Int)} (hf : Ok f) : Ok (series f ops) := by
  intro ts x r h
  simp only [series] at h
  split at h
  · cases h
  · rename_i e q h1
    exact seriesL_ok hf _ _ _ _ _ (hf _ _ _ h1) h
theorem cmp_ok {f : Pa E} (hf : Ok f) : Ok (cmp f) := by
  intro ts x r h
  simp only [cmp] at h
  split at h
  · cases h
  · rename_i e q h1
    split at h
    · cases h; exact hf _ _ _ h1
    · rename_i o q2 h3
      split at h
      · cases h
      · rename_i y q3 h5
        cases h
        exact ok_binary (hf _ _ _ h1) (hf _ _ _ h5)
theorem exprP_ok {u : Pa E} (h : Ok u) : Ok (exprP u) := series_ok (series_ok (cmp_ok (series_ok (series_ok h))))
theorem closed_ok {f : Pa E} {s : Bs} (hf : Ok f) : Ok (closed f s) := by
  intro ts x r h
  simp only [closed] at h
  split at h
  · cases h
  · rename_i e q h1
    split at h
    · cases h
    · cases h
      exact hf _ _ _ h1
theorem primary_ok {f : Pa E} (hf : Ok f) : Ok (primary f) := by
  intro ts x r h
  simp only [primary] at h
  split at h
  · simp only [named] at h
    split at h
    · cases h
    · rename_i l q h1
      simp only [index] at h1
      split at h1
      · split at h1
        · cases h1
        · rename_i e q2 h2
          cases h1
          cases h
          exact ⟨by simp, closed_ok hf _ _ _ h2, trivial⟩
      · cases h1
        cases h
        exact ⟨by simp, trivial⟩
  · split at h
    · exact closed_ok hf _ _ _ h
    · split at h
      · cases h
      · cases h
        exact ⟨by simp, trivial⟩
theorem signed_ok {f : Pa E} {o : Int} (hf : Ok f) : Ok (signed f o) := by
  intro ts x r h
  simp only [signed] at h
  split at h
  · cases h
  · rename_i e q h1
    cases h
    exact ⟨by simp, hf _ _ _ h1, trivial⟩
theorem unaryF_ok : ∀ n, Ok (unaryF n)
  | 0 => by intro ts x r h; simp [unaryF] at h
  | n + 1 => by
    have ih := unaryF_ok n
    intro ts x r h
    simp only [unaryF] at h
    split at h
    · exact signed_ok ih _ _ _ h
    · split at h
      · exact signed_ok ih _ _ _ h
      · exact primary_ok (exprP_ok ih) _ _ _ h
theorem exprOut_ok (s : Bs) : (exprOut s).1.ok := by
  have h0 : E0.ok := ⟨by simp, trivial⟩
  unfold exprOut
  split
  · unfold allOf
    split
    · exact h0
    · rename_i x q hx
      split
      · exact exprP_ok (unaryF_ok _) _ _ _ hx
      · exact h0
  · exact h0
end Par

set_option maxHeartbeats 4000000 in
set_option maxRecDepth 100000 in
theorem parseExprReads_any (s : ByteArray) (w : World) (hv : Two w ∧ FieldsOf w) (hs : s.size ≤ maxLen) : Calls Tryz.prog 4 #[.string s] w fun e w' => e = .returned (.bool true) ∧ Below w.heap.size w w' := by
  have hs0 := hs
  unfold maxLen at hs0
  by_cases hbig : 1000 < s.size
  · go_enter Tryz.func4, Tryz.ntmps4
    go_wp2_with fail
    go_ret
    exact ⟨rfl, Below.refl _ _⟩
  · have HV := Lib.hid hv.1
    have HF := Lib.hid hv.2
    have C1 := Lib.hid (fun w h => expr_any s w h hs)
    have C2 := Lib.hid (fun w => refExpr_any s w hs)
    have hok := Lib.hid (exprOut_ok s.data.toList)
    obtain ⟨out, hout⟩ : ∃ out, out = exprOut s.data.toList := ⟨_, rfl⟩
    unfold PostX at C1 C2
    rw [← hout] at C1 C2 hok
    obtain ⟨x, er, ln⟩ := out
    clear hv hout hs
    go_enter Tryz.func4, Tryz.ntmps4
    go_wp2_with (first
      | (go_at_call 18; refine (C1.out _ HV.out).mono ?_; rintro e w1 ⟨op1, n1, nm1, a1, len1, cap1, rfl, hb1, hr1⟩; have z1 := hb1.size)
      | (go_at_call 19; refine (C2.out _).mono ?_; rintro e w2 ⟨op2, n2, nm2, a2, len2, cap2, rfl, hb2, hr2⟩; have z2 := hb2.size; simp at z2; have hal := (Below.refl w2.heap.size w2).alloc (Nat.le_refl _) (.cells #[.int .i64 op2, .int .i64 n2, .string nm2, .slice a2 len2 cap2] 34); have hal1 := (Below.refl w1.heap.size w1).alloc (Nat.le_refl _) (.cells #[.int .i64 op1, .int .i64 n1, .string nm1, .slice a1 len1 cap1] 34); have hb12 := hal1.trans (hb2.mono (by simp)); have hb22 := hb12.trans (hal.mono hb12.size); have x0 := (hal.cell (p := ⟨w1.heap.size, 0, none⟩) (by show w1.heap.size < w2.heap.size; omega)).trans ((hb2.cell (p := ⟨w1.heap.size, 0, none⟩) (by simp)).trans (World.cell?_alloc_at _ _ _ _ (by simp))); have x1 := (hal.cell (p := ⟨w1.heap.size, 1, none⟩) (by show w1.heap.size < w2.heap.size; omega)).trans ((hb2.cell (p := ⟨w1.heap.size, 1, none⟩) (by simp)).trans (World.cell?_alloc_at _ _ _ _ (by simp))); have x2 := (hal.cell (p := ⟨w1.heap.size, 2, none⟩) (by show w1.heap.size < w2.heap.size; omega)).trans ((hb2.cell (p := ⟨w1.heap.size, 2, none⟩) (by simp)).trans (World.cell?_alloc_at _ _ _ _ (by simp))); have x3 := (hal.cell (p := ⟨w1.heap.size, 3, none⟩) (by show w1.heap.size < w2.heap.size; omega)).trans ((hb2.cell (p := ⟨w1.heap.size, 3, none⟩) (by simp)).trans (World.cell?_alloc_at _ _ _ _ (by simp))); simp at x0 x1 x2 x3)
      | (go_at_call 20; refine (same_any _ _ x.ht x _ _ _ (Nat.le_refl _) hok.out (hr1.below hb22) (hr2.below hal)).mono ?_; rintro e w3 ⟨rfl, hb3⟩)
      | (go_at_call 17; refine (awake_any _ (((HV.out.below hb1).below hb22).below hb3) (((HF.out.below hb1).below hb22).below hb3)).mono ?_; rintro e w4 ⟨rfl, hb4⟩))
    go_ret
    have z3 := hb3.size
    simp at z3
    refine ⟨rfl, hb1.trans (Below.mono (B := w1.heap.size) ?_ z1)⟩
    exact (hb22.trans (hb3.mono (by simp; omega))).trans (hb4.mono (by omega))
end Go.Proofs.YteekcepbogndlaaGreatDoor
