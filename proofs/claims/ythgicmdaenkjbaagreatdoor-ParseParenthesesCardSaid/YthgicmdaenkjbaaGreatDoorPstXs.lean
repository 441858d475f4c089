/-
  What the parser of expressions makes has lists of operands that are no longer than an int.
  A text changed at one place (interleavescene.Spoil): some text, no longer than twice as long and a byte.
  What interleavemade.Expr makes of any bytes: a shaped expression of a bounded text, in new blocks.
  The walk of ParseExprSpoilt.
-/
import Derived.Test.YthgicmdaenkjbaaGreatDoorParL
import Derived.Test.YthgicmdaenkjbaaGreatDoorParM
import Derived.Test.YthgicmdaenkjbaaGreatDoorParE
import Derived.Laws.IdiomStrings
import Derived.Test.YthgicmdaenkjbaaGreatDoorMkD
import Derived.Test.YthgicmdaenkjbaaGreatDoorRfG
import Derived.Test.YthgicmdaenkjbaaGreatDoorAwF
import Derived.Test.YthgicmdaenkjbaaGreatDoorRxB
namespace Go.Proofs.YthgicmdaenkjbaaGreatDoor
open Go.RowKit
open Par

namespace Par
open Tok (T Bs)
/-- What a reader makes has lists of operands that are no longer than an int. -/
def Ok (f : Pa E) : Prop := ∀ ts x r, f ts = .ok (x, r) → x.ok
theorem ok_binary {o : Int} {a b : E} (ha : a.ok) (hb : b.ok) : (binary o a b).ok := ⟨by simp, ha, hb, trivial⟩
theorem seriesL_ok {f : Pa E} {ops : List (Bs × Int)} (hf : Ok f) : ∀ n e ts x r, e.ok → seriesL f ops n e ts = .ok (x, r) → x.ok
  | 0, e, ts, x, r, he, h => by simp only [seriesL] at h; cases h; exact he
  | n + 1, e, ts, x, r, he, h => by
    simp only [seriesL] at h
    split at h
    · cases h; exact he
    · rename_i o q hq
      split at h
      · cases h
      · rename_i y q2 h2
        exact seriesL_ok hf n _ _ _ _ (ok_binary he (hf _ _ _ h2)) h
theorem series_ok {f : Pa E} {ops : List (Bs × Int)} (hf : Ok f) : Ok (series f ops) := by
  intro ts x r h
  simp only [series] at h
  split at h
  · cases h
  · rename_i e q h1
    exact seriesL_ok hf _ _ _ _ _ (hf _ _ _ h1) h
theorem cmp_ok {f : Pa E} (hf : Ok f) : Ok (cmp f) := by
  intro ts x r h
  simp only [cmp] at h
  split at h
  · cases h
  · rename_i e q h1
    split at h
    · cases h; exact hf _ _ _ h1
    · rename_i o q2 h3
      split at h
      · cases h
      · rename_i y q3 h5
        cases h
        exact ok_binary (hf _ _ _ h1) (hf _ _ _ h5)
theorem exprP_ok {u : Pa E} (h : Ok u) : Ok (exprP u) := series_ok (series_ok (cmp_ok (series_ok (series_ok h))))
theorem closed_ok {f : Pa E} {s : Bs} (hf : Ok f) : Ok (closed f s) := by
  intro ts x r h
  simp only [closed] at h
  split at h
  · cases h
  · rename_i e q h1
    split at h
    · cases h
    · cases h
      exact hf _ _ _ h1
theorem primary_ok {f : Pa E} (hf : Ok f) : Ok (primary f) := by
  intro ts x r h
  simp only [primary] at h
  split at h
  · simp only [named] at h
    split at h
    · cases h
    · rename_i l q h1
      simp only [index] at h1
      split at h1
      · split at h1
        · cases h1
        · rename_i e q2 h2
          cases h1
          cases h
          exact ⟨by simp, closed_ok hf _ _ _ h2, trivial⟩
      · cases h1
        cases h
        exact ⟨by simp, trivial⟩
  · split at h
    · exact closed_ok hf _ _ _ h
    · split at h
      · cases h
      · cases h
        exact ⟨by simp, trivial⟩
theorem signed_ok {f : Pa E} {o : Int} (hf : Ok f) : Ok (signed f o) := by
  intro ts x r h
  simp only [signed] at h
  split at h
  · cases h
  · rename_i e q h1
    cases h
    exact ⟨by simp, hf _ _ _ h1, trivial⟩
theorem unaryF_ok : ∀ n, Ok (unaryF n)
  | 0 => by intro ts x r h; simp [unaryF] at h
  | n + 1 => by
    have ih := unaryF_ok n
    intro ts x r h
    simp only [unaryF] at h
    split at h
    · exact signed_ok ih _ _ _ h
    · split at h
      · exact signed_ok ih _ _ _ h
      · exact primary_ok (exprP_ok ih) _ _ _ h
theorem exprOut_ok (s : Bs) : (exprOut s).1.ok := by
  have h0 : E0.ok := ⟨by simp, trivial⟩
  unfold exprOut
  split
  · unfold allOf
    split
    · exact h0
    · rename_i x q hx
      split
      · exact exprP_ok (unaryF_ok _) _ _ _ hx
      · exact h0
  · exact h0
end Par

end Go.Proofs.YthgicmdaenkjbaaGreatDoor

namespace Go.Proofs.YthgicmdaenkjbaaGreatDoor
open Go.RowKit
open Par

namespace Par
def PostTx (n : Nat) (w : World) (e : Ending) (w' : World) : Prop := ∃ t : ByteArray, t.size ≤ n ∧ e = .returned (.string t) ∧ Below w.heap.size w w'
theorem conv_one (w : World) (b : UInt8) (g : Nat) (h : w.cell? ⟨g, 0, none⟩ = some (.int .u8 (b.toNat : Int))) :
    (convert 32 9 (.slice (some ⟨g, 0, none⟩) 1 1)).run Tryz.prog w = .ok (.string ⟨#[b]⟩) w :=
  run_convert_bytes_back w 32 9 5 ⟨g, 0, none⟩ 1 [b] Tryz.underlying32 Tryz.underlying5 Tryz.underlying9 (fun j hj => by
    have : j = 0 := by simpa using hj
    subst this
    simpa [Addr.add] using h)
theorem ex_size (s : ByteArray) (i j : Nat) : (s.extract i j).size ≤ s.size := by
  simp
  omega
end Par

set_option maxHeartbeats 2000000 in
set_option maxRecDepth 100000 in
theorem spoil_nil (a h : Nat) (b : UInt8) (w : World) :
    Calls Tryz.prog 19 #[.string ⟨#[]⟩, .int .u16 a, .int .u16 h, .int .u8 (b.toNat : Int)] w (PostTx 1 w) := by
  have hc := conv_one (w.alloc (.cells #[.int .u8 (b.toNat : Int)] 5)) b w.heap.size (by simp)
  go_enter Tryz.func19, Tryz.ntmps19
  go_wp2_with fail
  go_ret
  exact ⟨⟨#[b]⟩, Nat.le_refl 1, rfl, (Below.refl _ _).alloc (Nat.le_refl _) _⟩

set_option maxHeartbeats 4000000 in
set_option maxRecDepth 100000 in
theorem spoil_some (s : ByteArray) (a h : Nat) (b : UInt8) (ha : a ≤ 65535) (hh : h ≤ 65535) (hs : s.size ≤ 100000) (h0 : 0 < s.size) (w : World) :
    Calls Tryz.prog 19 #[.string s, .int .u16 a, .int .u16 h, .int .u8 (b.toNat : Int)] w (PostTx (2 * s.size + 1) w) := by
  obtain ⟨i, hi, hie, hil⟩ : ∃ i : Nat, (a : Int).tmod (s.size : Int) = (i : Int) ∧ (a : Int) % (s.size : Int) = (i : Int) ∧ i < s.size := ⟨a % s.size, by rw [Int.tmod_eq_emod_of_nonneg (by omega)]; norm_cast, by norm_cast, Nat.mod_lt _ h0⟩
  obtain ⟨q, hq, hqe, hq6⟩ : ∃ q : Nat, (h : Int).tmod 6 = (q : Int) ∧ (h : Int) % 6 = (q : Int) ∧ q < 6 := ⟨h % 6, by rw [Int.tmod_eq_emod_of_nonneg (by omega)]; norm_cast, by norm_cast, Nat.mod_lt _ (by omega)⟩
  have hne2 : (s.toList == []) = false := by
    have hne : s.toList ≠ [] := by
      intro e
      rw [Lib.toList_data] at e
      have e2 : s.data.toList.length = s.size := by simp
      have e3 : s.data.toList.length = 0 := by rw [e]; rfl
      omega
    simpa using hne
  have hsz : ¬ (s.size : Int) = 0 := by omega
  have hai : (a : Int) ≤ 65535 := by omega
  have hhi : (h : Int) ≤ 65535 := by omega
  have hwi : IntKind.i64.wrap ((i : Int) + 1) = (i : Int) + 1 := IntWalk.i64_in _ (by omega)
  have hii : (i : Int) < (s.size : Int) := by omega
  have hi1 : ((i : Int) + 1).toNat = i + 1 := by omega
  have e1 := ex_size s 0 i
  have e2 := ex_size s (i + 1) s.size
  have e3 := ex_size s i s.size
  have hc := conv_one (w.alloc (.cells #[.int .u8 (b.toNat : Int)] 5)) b w.heap.size (by simp)
  have hc2 := conv_one (w.alloc (.cells #[.int .u8 (b.toNat : Int)] 5)).drew b w.heap.size (by simp)
  rcases (show q = 0 ∨ q = 1 ∨ q = 2 ∨ q = 3 ∨ q = 4 ∨ q = 5 by omega) with rfl | rfl | rfl | rfl | rfl | rfl
  all_goals
    clear hq6
    go_enter Tryz.func19, Tryz.ntmps19
    go_wp2_with fail
  · go_region
    all_goals
      go_wp2_with fail
      go_ret
      refine ⟨_, ?_, rfl, ((Below.refl _ _).alloc (Nat.le_refl _) _).drew⟩
      have hb1 : (⟨#[b]⟩ : ByteArray).size = 1 := rfl
      simp
      omega
  · go_region
    all_goals
      go_wp2_with fail
      go_ret
      refine ⟨_, ?_, rfl, ((Below.refl _ _).alloc (Nat.le_refl _) _).drew⟩
      have hb1 : (⟨#[b]⟩ : ByteArray).size = 1 := rfl
      simp
      omega
  · go_quiet (fail)
    go_wp2_with fail
    go_ret
    refine ⟨_, ?_, rfl, below_drewN (Below.refl _ _) _⟩
    simp
    omega
  all_goals
    go_ret
    refine ⟨_, ?_, rfl, Below.refl _ _⟩
    first
      | omega
      | (simp; omega)
theorem spoil_any (s : ByteArray) (a h : Nat) (b : UInt8) (ha : a ≤ 65535) (hh : h ≤ 65535) (hs : s.size ≤ 100000) (w : World) :
    Calls Tryz.prog 19 #[.string s, .int .u16 a, .int .u16 h, .int .u8 (b.toNat : Int)] w (PostTx (2 * s.size + 1) w) := by
  by_cases h0 : 0 < s.size
  · exact spoil_some s a h b ha hh hs h0 w
  · have : s = ⟨#[]⟩ := by
      apply ByteArray.ext
      have h1 : s.size = 0 := by omega
      exact Array.eq_empty_of_size_eq_zero h1
    subst this
    exact spoil_nil a h b w
end Go.Proofs.YthgicmdaenkjbaaGreatDoor

namespace Go.Proofs.YthgicmdaenkjbaaGreatDoor
open Go.RowKit
open Par

namespace Par
open Tok (T Bs)
theorem lm_all : ∀ d, d ≤ 5 → LM d
  | 0, _ => by
    intro w L T A len cap xs k h hL hLT
    by_cases h4 : nx xs k 20 < 4
    · exact mkNum_any 0 w L T A len cap xs k h hL hLT (.inl h4)
    · by_cases h10 : nx xs k 20 < 10
      · exact mkNum_any 0 w L T A len cap xs k h hL hLT (.inr ⟨h4, rfl, h10⟩)
      · exact mkNam_any 0 w L T A len cap xs k h hL hLT ⟨h4, .inr ⟨rfl, h10⟩⟩
  | d + 1, hd => by
    intro w L T A len cap xs k h hL hLT
    have ih := lm_all d (by omega)
    have hlt := nx_lt xs k 20 (by omega)
    have e : (((d + 1 : Nat) : Int)) = (d : Int) + 1 := by omega
    by_cases h4 : nx xs k 20 < 4
    · exact mkNum_any (d + 1) w L T A len cap xs k h hL hLT (.inl h4)
    · by_cases h8 : nx xs k 20 < 8
      · exact mkNam_any (d + 1) w L T A len cap xs k h hL hLT ⟨h4, .inl ⟨by omega, h8⟩⟩
      · rw [e]
        by_cases h9 : nx xs k 20 = 8
        · exact mkIdx_any d hd ih w L T A len cap xs k h hL hLT h9
        · by_cases h11 : nx xs k 20 < 11
          · exact mkUna_any d hd ih w L T A len cap xs k h hL hLT ⟨by omega, h11⟩
          · exact mkBin_any d hd ih w L T A len cap xs k h hL hLT (by omega)
/-- What making an expression of bytes leaves. -/
def PostMX (w : World) (e : Ending) (w' : World) : Prop :=
  ∃ op n nm a ln cp, e = .returned (.agg #[.int .i64 op, .int .i64 n, .string nm, .slice a ln cp]) ∧ Below w.heap.size w w' ∧
    ∃ x, Fit x ∧ bnd x ≤ 2646 ∧ RdE w' (PF w.heap.size w') x (.agg #[.int .i64 op, .int .i64 n, .string nm, .slice a ln cp])
theorem mx_fin {w w3 : World} {n : Nat} {x : E} {v : Value} (u0 u1 u2 u3 : Value) (hb : Below w.heap.size w w3) (hm : w.heap.size < n) (hv : RdE w3 (PF n w3) x v) {W : World}
    (hW : W = (((w3.setCell ⟨w.heap.size, 0, none⟩ u0).setCell ⟨w.heap.size, 1, none⟩ u1).setCell ⟨w.heap.size, 2, none⟩ u2).setCell ⟨w.heap.size, 3, none⟩ u3) : Below w.heap.size w W ∧ RdE W (PF w.heap.size W) x v := by
  have h1 : Below w.heap.size w W := by
    subst hW
    exact (((hb.setCell (p := ⟨w.heap.size, 0, none⟩) (Nat.le_refl _) _).setCell (p := ⟨w.heap.size, 1, none⟩) (Nat.le_refl _) _).setCell (p := ⟨w.heap.size, 2, none⟩) (Nat.le_refl _) _).setCell (p := ⟨w.heap.size, 3, none⟩) (Nat.le_refl _) _
  have hB : ∀ g, n ≤ g → W.heap[g]? = w3.heap[g]? := by
    subst hW
    intro g hg
    have hne : g ≠ w.heap.size := by omega
    rw [Below.heap_setCell _ _ _ _ hne, Below.heap_setCell _ _ _ _ hne, Below.heap_setCell _ _ _ _ hne, Below.heap_setCell _ _ _ _ hne]
  clear hW
  exact ⟨h1, RdE.turn (fun g oo u hg hc => ⟨(World.cell?_of_block (hB g hg.1)).trans hc, Nat.le_of_lt (Nat.lt_of_lt_of_le hm hg.1), hg.2.of_block (hB g hg.1)⟩) _ _ hv⟩
/-- A slice of bytes: its numbers, the cells known. -/
def BytesOf (W : World) (A : Option Addr) (len : Nat) (xs : List Nat) : Prop :=
  xs.length = len ∧ len ≤ maxLen ∧ ∀ k, (h : k < xs.length) → xs[k] ≤ 255 ∧ ∃ b off, A = some ⟨b, off, none⟩ ∧ b < W.heap.size ∧ W.cell? ⟨b, off + k, none⟩ = some (.int .u8 (xs[k] : Nat))
/-- A new tape over the bytes of a slice. -/
theorem tp_new {w w2 : World} {A : Option Addr} {len cap : Nat} {xs : List Nat} {T : Nat} (h : BytesOf w A len xs) (hb : Below w.heap.size w w2) (hT : w.heap.size ≤ T) (c0 : w2.cell? ⟨T, 0, none⟩ = some (.slice A len cap)) (c1 : w2.cell? ⟨T, 1, none⟩ = some (.int .i64 0))
    (f1 : w2.frozen? ⟨T, 1, none⟩ = false) : Tp w2 T A len cap xs 0 :=
  ⟨c0, c1, f1, block_lt_of_cell c0, Nat.zero_le _, h.2.1, h.1, fun j hj => by
    obtain ⟨h1, b, off, ha, hlt, hc⟩ := h.2.2 j hj
    exact ⟨h1, b, off, ha, by omega, (hb.cell (p := ⟨b, off + j, none⟩) hlt).trans hc⟩⟩
end Par

set_option maxHeartbeats 2000000 in
set_option maxRecDepth 100000 in
theorem madeExpr_any (w : World) (A : Option Addr) (len cap : Nat) (xs : List Nat) (hx : BytesOf w A len xs) :
    Calls Tryz.prog 23 #[.slice A len cap] w (PostMX w) := by
  have HX := Lib.hid hx
  have C := Lib.hid (fun w2 h hL => lm_all 5 (by omega) w2 (w.heap.size + 1 + 1) (w.heap.size + 1) A len cap xs 0 h hL (by omega))
  clear hx
  go_enter Tryz.func23, Tryz.ntmps23
  go_wp2_with fail
  go_at_call 55
  refine (C.out _ ?_ ?_).mono ?_
  · refine tp_new HX.out ((((Below.refl _ _).alloc (Nat.le_refl _) _).alloc (by simp) _).alloc (by simp; omega) _) (by omega) ?_ ?_ ?_
    all_goals simp [go_sem]
  · simp [go_sem]
  · rintro e w3 ⟨op, n, nm, a, ln, cp, rfl, ⟨hk3, k3, ht3⟩, x, hxf, hxb, hxr⟩
    have hs3 := hk3.size
    simp at hs3
    have hz : w.heap.size < w3.heap.size := by omega
    have hne : w.heap.size ≠ w.heap.size + 1 := by omega
    have hne2 : ¬ w.heap.size = w.heap.size + 1 := by omega
    have r0 : w3.cell? ⟨w.heap.size, 0, none⟩ = some (.int .i64 0) := (hk3.cell (by simp; omega) hne).trans (by simp [go_sem])
    have r1 : w3.cell? ⟨w.heap.size, 1, none⟩ = some (.int .i64 0) := (hk3.cell (by simp; omega) hne).trans (by simp [go_sem])
    have r2 : w3.cell? ⟨w.heap.size, 2, none⟩ = some (.string ⟨#[]⟩) := (hk3.cell (by simp; omega) hne).trans (by simp [go_sem])
    have r3 : w3.cell? ⟨w.heap.size, 3, none⟩ = some (.slice none 0 0) := (hk3.cell (by simp; omega) hne).trans (by simp [go_sem])
    have g0 : w3.frozen? ⟨w.heap.size, 0, none⟩ = false := (hk3.frozen (by simp; omega) hne).trans (by simp [go_sem])
    have g1 : w3.frozen? ⟨w.heap.size, 1, none⟩ = false := (hk3.frozen (by simp; omega) hne).trans (by simp [go_sem])
    have g2 : w3.frozen? ⟨w.heap.size, 2, none⟩ = false := (hk3.frozen (by simp; omega) hne).trans (by simp [go_sem])
    have g3 : w3.frozen? ⟨w.heap.size, 3, none⟩ = false := (hk3.frozen (by simp; omega) hne).trans (by simp [go_sem])
    have hB : Below w.heap.size w w3 := Kept.below ((((Below.refl _ _).alloc (Nat.le_refl _) _).alloc (by simp) _).alloc (by simp; omega) _) hk3 (by omega) (by simp; omega)
    clear hk3 ht3 hs3
    go_wp2_with fail
    refine bodyPost_ret (v := .agg #[.int .i64 op, .int .i64 n, .string nm, .slice a ln cp]) (by simp [results, Tryz.results23, go_sem, *]) rfl ⟨_, _, _, _, _, _, rfl, ?_⟩
    obtain ⟨h1, h2⟩ := mx_fin (.int .i64 op) (.int .i64 n) (.string nm) (.slice a ln cp) hB (show w.heap.size < w.heap.size + 1 + 1 + 1 by omega) (hxr.pweak (by simp)) rfl
    exact ⟨h1, x, hxf, hxb, h2⟩
end Go.Proofs.YthgicmdaenkjbaaGreatDoor

namespace Go.Proofs.YthgicmdaenkjbaaGreatDoor
open Go.RowKit
open Par

namespace Par
open Tok (T Bs)
/-- The reference's text of what the maker makes: some text of a bounded length. -/
theorem rx_some {w : World} {n0 : Nat} {x : E} {op n : Int} {nm : ByteArray} {a : Option Addr} {len cap : Nat} (hf : Fit x) (hb : bnd x ≤ 2646) (ht : TabN w) (hr : RdE w (PF n0 w) x (.agg #[.int .i64 op, .int .i64 n, .string nm, .slice a len cap])) :
    Calls Tryz.prog 22 #[.agg #[.int .i64 op, .int .i64 n, .string nm, .slice a len cap]] w (PostTx 2646 w) :=
  (rx_all _ _ x w op n nm a len cap (Nat.le_refl _) hf (by omega) ht hr).mono fun e w' ⟨he, hb'⟩ => ⟨_, by
    have := tx_len _ x (Nat.le_refl _) hf
    rw [bytes_size]
    omega, he, hb'⟩
end Par

set_option maxHeartbeats 4000000 in
set_option maxRecDepth 100000 in
theorem parseExprSpoilt_any (A : Option Addr) (len cap : Nat) (xs : List Nat) (i h : Nat) (b : UInt8) (whole : Bool) (w : World) (hv : (Two w ∧ FieldsOf w) ∧ TabN w) (hx : BytesOf w A len xs) (hi : i ≤ 65535) (hh : h ≤ 65535) :
    Calls Tryz.prog 5 #[.slice A len cap, .int .u16 i, .int .u16 h, .int .u8 (b.toNat : Int), .bool whole] w fun e w' => e = .returned (.bool true) ∧ Below w.heap.size w w' := by
  have hlen := hx.2.1
  unfold maxLen at hlen
  by_cases hbig : 300 < len
  · clear hx hv
    go_enter Tryz.func5, Tryz.ntmps5
    go_wp2_with fail
    go_ret
    exact ⟨rfl, Below.refl _ _⟩
  · have HV := Lib.hid hv.1.1
    have HF := Lib.hid hv.1.2
    have HT := Lib.hid hv.2
    have CM := Lib.hid (madeExpr_any w A len cap xs hx)
    have CS := Lib.hid (fun s hs w => spoil_any s i h b hi hh hs w)
    clear hx hv hlen
    cases whole
    · go_enter Tryz.func5, Tryz.ntmps5
      go_wp2_with (first
        | (go_at_call 23; refine CM.out.mono ?_; rintro e w1 ⟨op0, n0, nm0, a0, len0, cap0, rfl, hb1, x0, hx0, hxb0, hr0⟩)
        | (go_at_call 22; refine (rx_some hx0 hxb0 (HT.out.below hb1) hr0).mono ?_; rintro e w2 ⟨t1, ht1, rfl, hb2⟩; have hB2 := hb1.trans (hb2.mono hb1.size))
        | (go_at_call 19; refine (CS.out t1 (by omega) _).mono ?_; rintro e w3 ⟨t2, ht2, rfl, hb3⟩; have hB3 := hB2.trans (hb3.mono hB2.size)))
      clear hb2 hb3 hr0 hx0 hxb0 hb1
      have hs : t2.size ≤ maxLen := by unfold maxLen; omega
      have hok := Lib.hid (exprOut_ok t2.data.toList)
      have C1 := Lib.hid (fun w h => expr_any t2 w h hs)
      have C2 := Lib.hid (fun w => refExpr_any t2 w hs)
      obtain ⟨out, hout⟩ : ∃ out, out = exprOut t2.data.toList := ⟨_, rfl⟩
      unfold PostX at C1 C2
      rw [← hout] at C1 C2 hok
      obtain ⟨x, er, ln⟩ := out
      have HVW := Lib.hid (HV.out.below hB3)
      have HFW := Lib.hid (HF.out.below hB3)
      have HBW := Lib.hid hB3
      clear hout hs
      go_at_call 24
      refine (C1.out _ HVW.out).mono ?_
      rintro e w4 ⟨op1, n1, nm1, a1, len1, cap1, rfl, hb4, hr1⟩
      have z1 := hb4.size
      go_wp2_with (first
        | (go_at_call 25; refine (C2.out _).mono ?_; rintro e w5 ⟨op2, n2, nm2, a2, len2, cap2, rfl, hb5, hr2⟩; have z2 := hb5.size; simp at z2; have hal := (Below.refl w5.heap.size w5).alloc (Nat.le_refl _) (.cells #[.int .i64 op2, .int .i64 n2, .string nm2, .slice a2 len2 cap2] 41); have hal1 := (Below.refl w4.heap.size w4).alloc (Nat.le_refl _) (.cells #[.int .i64 op1, .int .i64 n1, .string nm1, .slice a1 len1 cap1] 41); have hb12 := hal1.trans (hb5.mono (by simp)); have hb22 := hb12.trans (hal.mono hb12.size); have x0 := (hal.cell (p := ⟨w4.heap.size, 0, none⟩) (by show w4.heap.size < w5.heap.size; omega)).trans ((hb5.cell (p := ⟨w4.heap.size, 0, none⟩) (by simp)).trans (World.cell?_alloc_at _ _ _ _ (by simp))); have x1 := (hal.cell (p := ⟨w4.heap.size, 1, none⟩) (by show w4.heap.size < w5.heap.size; omega)).trans ((hb5.cell (p := ⟨w4.heap.size, 1, none⟩) (by simp)).trans (World.cell?_alloc_at _ _ _ _ (by simp))); have x2 := (hal.cell (p := ⟨w4.heap.size, 2, none⟩) (by show w4.heap.size < w5.heap.size; omega)).trans ((hb5.cell (p := ⟨w4.heap.size, 2, none⟩) (by simp)).trans (World.cell?_alloc_at _ _ _ _ (by simp))); have x3 := (hal.cell (p := ⟨w4.heap.size, 3, none⟩) (by show w4.heap.size < w5.heap.size; omega)).trans ((hb5.cell (p := ⟨w4.heap.size, 3, none⟩) (by simp)).trans (World.cell?_alloc_at _ _ _ _ (by simp))); simp at x0 x1 x2 x3)
        | (go_at_call 26; refine (same_any _ _ x.ht x _ _ _ (Nat.le_refl _) hok.out (hr1.below hb22) (hr2.below hal)).mono ?_; rintro e w6 ⟨rfl, hb6⟩)
        | (go_at_call 18; refine (awake_any _ (((HVW.out.below hb4).below hb22).below hb6) (((HFW.out.below hb4).below hb22).below hb6)).mono ?_; rintro e w7 ⟨rfl, hb7⟩))
      go_ret
      have z3 := hb6.size
      simp at z3
      refine ⟨rfl, HBW.out.trans ((hb4.trans (Below.mono (B := w4.heap.size) ?_ z1)).mono HBW.out.size)⟩
      exact (hb22.trans (hb6.mono (by simp; omega))).trans (hb7.mono (by omega))
    · go_enter Tryz.func5, Tryz.ntmps5
      go_wp2_with (first
        | (go_at_call 23; refine CM.out.mono ?_; rintro e w1 ⟨op0, n0, nm0, a0, len0, cap0, rfl, hb1, x0, hx0, hxb0, hr0⟩)
        | (go_at_call 22; refine (rx_some hx0 hxb0 (HT.out.below hb1) hr0).mono ?_; rintro e w2 ⟨t1, ht1, rfl, hb2⟩; have hB2 := hb1.trans (hb2.mono hb1.size)))
      clear hb2 hr0 hx0 hxb0 hb1
      have hs : t1.size ≤ maxLen := by unfold maxLen; omega
      have hok := Lib.hid (exprOut_ok t1.data.toList)
      have C1 := Lib.hid (fun w h => expr_any t1 w h hs)
      have C2 := Lib.hid (fun w => refExpr_any t1 w hs)
      obtain ⟨out, hout⟩ : ∃ out, out = exprOut t1.data.toList := ⟨_, rfl⟩
      unfold PostX at C1 C2
      rw [← hout] at C1 C2 hok
      obtain ⟨x, er, ln⟩ := out
      have HVW := Lib.hid (HV.out.below hB2)
      have HFW := Lib.hid (HF.out.below hB2)
      have HBW := Lib.hid hB2
      clear hout hs
      go_at_call 24
      refine (C1.out _ HVW.out).mono ?_
      rintro e w4 ⟨op1, n1, nm1, a1, len1, cap1, rfl, hb4, hr1⟩
      have z1 := hb4.size
      go_wp2_with (first
        | (go_at_call 25; refine (C2.out _).mono ?_; rintro e w5 ⟨op2, n2, nm2, a2, len2, cap2, rfl, hb5, hr2⟩; have z2 := hb5.size; simp at z2; have hal := (Below.refl w5.heap.size w5).alloc (Nat.le_refl _) (.cells #[.int .i64 op2, .int .i64 n2, .string nm2, .slice a2 len2 cap2] 41); have hal1 := (Below.refl w4.heap.size w4).alloc (Nat.le_refl _) (.cells #[.int .i64 op1, .int .i64 n1, .string nm1, .slice a1 len1 cap1] 41); have hb12 := hal1.trans (hb5.mono (by simp)); have hb22 := hb12.trans (hal.mono hb12.size); have x0 := (hal.cell (p := ⟨w4.heap.size, 0, none⟩) (by show w4.heap.size < w5.heap.size; omega)).trans ((hb5.cell (p := ⟨w4.heap.size, 0, none⟩) (by simp)).trans (World.cell?_alloc_at _ _ _ _ (by simp))); have x1 := (hal.cell (p := ⟨w4.heap.size, 1, none⟩) (by show w4.heap.size < w5.heap.size; omega)).trans ((hb5.cell (p := ⟨w4.heap.size, 1, none⟩) (by simp)).trans (World.cell?_alloc_at _ _ _ _ (by simp))); have x2 := (hal.cell (p := ⟨w4.heap.size, 2, none⟩) (by show w4.heap.size < w5.heap.size; omega)).trans ((hb5.cell (p := ⟨w4.heap.size, 2, none⟩) (by simp)).trans (World.cell?_alloc_at _ _ _ _ (by simp))); have x3 := (hal.cell (p := ⟨w4.heap.size, 3, none⟩) (by show w4.heap.size < w5.heap.size; omega)).trans ((hb5.cell (p := ⟨w4.heap.size, 3, none⟩) (by simp)).trans (World.cell?_alloc_at _ _ _ _ (by simp))); simp at x0 x1 x2 x3)
        | (go_at_call 26; refine (same_any _ _ x.ht x _ _ _ (Nat.le_refl _) hok.out (hr1.below hb22) (hr2.below hal)).mono ?_; rintro e w6 ⟨rfl, hb6⟩)
        | (go_at_call 18; refine (awake_any _ (((HVW.out.below hb4).below hb22).below hb6) (((HFW.out.below hb4).below hb22).below hb6)).mono ?_; rintro e w7 ⟨rfl, hb7⟩))
      go_ret
      have z3 := hb6.size
      simp at z3
      refine ⟨rfl, HBW.out.trans ((hb4.trans (Below.mono (B := w4.heap.size) ?_ z1)).mono HBW.out.size)⟩
      exact (hb22.trans (hb6.mono (by simp; omega))).trans (hb7.mono (by omega))
end Go.Proofs.YthgicmdaenkjbaaGreatDoor
