/-
  Package compile's Text, and the reference's: the words of the instructions; what both return.
-/
import Derived.Test.YtiiiacnmmdemlaaDoorRows
import Derived.Test.YtiiiacnmmdemlaaDoorQtl
import Derived.Test.YtiiiacnmmdemlaaDoorShelf
import Derived.WalkKit
import Derived.Below
import Derived.Lib.Hide
import Derived.WalkSmall
import Derived.Deep.QuietTactic
import Derived.BigQuiet
import Derived.Lib.ItoaLen
import Derived.Lib.LaidTab
import Derived.LaidMore
import Derived.IntWalk
import Derived.Lib.AppendIntMem
namespace Go.Proofs.YtiiiacnmmdemlaaDoor
open Go.RowKit

namespace Ct
abbrev Bs := List UInt8
/-- The words of the instructions; the first one is that of any other number. -/
def wds : List Bs := [[110, 111, 110, 101], [99, 111, 110, 115, 116], [109, 111, 118, 101], [117, 110, 97, 114, 121], [98, 105, 110, 97, 114, 121], [106, 117, 109, 112], [108, 111, 97, 100], [108, 111, 97, 100, 97, 116], [115, 116, 111, 114, 101], [115, 116, 111, 114, 101, 97, 116], [98, 114, 97, 110, 99, 104], [97, 99, 113, 117, 105, 114, 101], [114, 101, 108, 101, 97, 115, 101], [114, 101, 97, 100, 97, 99, 113, 117, 105, 114, 101], [114, 101, 97, 100, 114, 101, 108, 101, 97, 115, 101], [119, 114, 105, 116, 101, 97, 99, 113, 117, 105, 114, 101], [119, 114, 105, 116, 101, 114, 101, 108, 101, 97, 115, 101], [116, 120, 98, 101, 103, 105, 110], [116, 120, 101, 110, 100], [97, 116, 111, 109, 105, 99, 98, 101, 103, 105, 110], [97, 116, 111, 109, 105, 99, 101, 110, 100], [119, 97, 105, 116], [110, 111, 116, 105, 102, 121], [110, 111, 116, 105, 102, 121, 97, 108, 108], [115, 112, 97, 119, 110], [106, 111, 105, 110], [115, 101, 116], [103, 101, 116], [101, 110, 100]]
def wd (op : Int) : Bs := if 1 ≤ op ∧ op ≤ 28 then wds.getD op.toNat [] else wds.getD 0 []
theorem wd_in (j : Nat) (h : j < 28) : wd ((j : Int) + 1) = wds.getD (j + 1) [] := by
  unfold wd
  rw [if_pos (by omega), show ((j : Int) + 1).toNat = j + 1 by omega]
theorem wd_out (op : Int) (h : ¬ (1 ≤ op ∧ op ≤ 28)) : wd op = [110, 111, 110, 101] := by
  unfold wd
  rw [if_neg h]
  rfl
theorem wd_len (op : Int) : (wd op).length ≤ 20 := by
  by_cases h : 1 ≤ op ∧ op ≤ 28
  · obtain ⟨j, rfl⟩ : ∃ j : Nat, op = (j : Int) + 1 := ⟨(op - 1).toNat, by omega⟩
    rw [wd_in j (by omega)]
    have : ∀ k, k < 29 → (wds.getD k []).length ≤ 20 := by decide
    exact this _ (by omega)
  · rw [wd_out op h]
    decide
/-- The text of an instruction. -/
def txt (W a b c n : ByteArray) : ByteArray := ⟨(Lib.join ([W, a, b, c, n].map (·.data.toList)) [32]).toArray⟩
theorem txt_eq (W a b c n : ByteArray) : ((((((((W ++ ⟨#[32]⟩) ++ a) ++ ⟨#[32]⟩) ++ b) ++ ⟨#[32]⟩) ++ c) ++ ⟨#[32]⟩) ++ n) = txt W a b c n := by
  unfold txt
  apply ByteArray.ext
  apply Array.toList_inj.1
  simp [Lib.join, List.intercalate, List.intersperse]
theorem txt_len (W a b c n : ByteArray) (h0 : W.size ≤ 20) (h1 : a.size ≤ 21) (h2 : b.size ≤ 21) (h3 : c.size ≤ 21) (h4 : n.size ≤ 21) : (Lib.join ([W, a, b, c, n].map (·.data.toList)) [32]).length ≤ 140737488355328 := by
  simp only [Lib.join, List.map_cons, List.map_nil, List.intercalate, List.intersperse, List.flatten_cons, List.flatten_nil, List.length_append, List.length_cons, List.length_nil]
  have hz : ∀ x : ByteArray, x.data.toList.length = x.size := fun x => by
    rw [Array.length_toList]
    rfl
  rw [hz, hz, hz, hz, hz]
  omega
/-- The program's table of words. -/
def LaysAt (w : World) : Prop := ∀ k, k < 29 → w.cell? ⟨0, k * 2, none⟩ = some (.string ⟨(wds.getD k []).toArray⟩)
theorem LaysAt.below {w w' : World} (h : LaysAt w) (b : Below w.heap.size w w') : LaysAt w' := fun k hk => (b.cell (p := ⟨0, k * 2, none⟩) (block_lt_of_cell (h k hk))).trans (h k hk)
def TabN (w : World) : Prop := Lib.TabIs Tryd.prog w "internal/strconv.uint64pow10" .u64 Lib.pow10Tab
theorem TabN.below {w w' : World} (h : TabN w) (b : Below w.heap.size w w') : TabN w' := Lib.tabBelow_of_tabIs h w' b
/-- A world of the class S. -/
structure In (S : World → Prop) where
  x : World
  h : S x
def PostSt (s : ByteArray) (w : World) (e : Ending) (w' : World) : Prop := e = .returned (.string s) ∧ Below w.heap.size w w'
theorem itoa_any (n : Int) (h0 : -9223372036854775808 ≤ n) (h1 : n ≤ 9223372036854775807) (w : World) (ht : TabN w) : Calls Tryd.prog 8 #[.int .i64 n] w (PostSt ⟨(Lib.itoa n).toArray⟩ w) := by
  refine (Tryd.strconv_Itoa n h0 h1 w ht).mono ?_
  rintro e w2 ⟨rfl, k, os, rfl⟩
  exact ⟨rfl, Lib.below_grow _ _ (Nat.le_refl _) _ _⟩
theorem format_any (n : Int) (h0 : -9223372036854775808 ≤ n) (h1 : n ≤ 9223372036854775807) (w : World) (ht : TabN w) : Calls Tryd.prog 9 #[.int .i64 n, .int .i64 10] w (PostSt ⟨(Lib.itoa n).toArray⟩ w) := by
  refine (Tryd.strconv_FormatInt_10 n h0 h1 w ht).mono ?_
  rintro e w2 ⟨rfl, k, os, rfl⟩
  exact ⟨rfl, Lib.below_grow _ _ (Nat.le_refl _) _ _⟩
def i64ok (n : Int) : Prop := -9223372036854775808 ≤ n ∧ n ≤ 9223372036854775807
/-- A number's digits. -/
def dg (n : Int) : ByteArray := ⟨(Lib.itoa n).toArray⟩
theorem dg_len {n : Int} (h : i64ok n) : (dg n).size ≤ 21 := by
  have := Lib.itoa_length_le n h.1 h.2
  show (Lib.itoa n).toArray.size ≤ 21
  simpa using this
/-- The five cells of an instruction that Text reads. -/
def InAt (w : World) (g : Nat) (op a b c n : Int) : Prop := w.cell? ⟨g, 0, none⟩ = some (.int .i64 op) ∧ w.cell? ⟨g, 1, none⟩ = some (.int .i64 a) ∧ w.cell? ⟨g, 2, none⟩ = some (.int .i64 b) ∧ w.cell? ⟨g, 3, none⟩ = some (.int .i64 c) ∧ w.cell? ⟨g, 4, none⟩ = some (.int .i64 n)

theorem join_any (x : World) (S A B C D : ByteArray) (ls : S.size ≤ 20) (la : A.size ≤ 21) (lb : B.size ≤ 21) (lc : C.size ≤ 21) (ld : D.size ≤ 21) :
    Calls Tryd.prog 7 #[.slice (some ⟨x.heap.size, 0, none⟩) 5 5, .string ⟨#[32]⟩] (x.alloc (.cells #[.string S, .string A, .string B, .string C, .string D] 9)) (PostSt (txt S A B C D) (x.alloc (.cells #[.string S, .string A, .string B, .string C, .string D] 9))) :=
  Tryd.strings_Join x.heap.size 0 5 [S, A, B, C, D] ⟨#[32]⟩ (x.alloc (.cells #[.string S, .string A, .string B, .string C, .string D] 9)) (fun j y hj => by
    match j, hj with
    | 0, hj => simp at hj; subst hj; simp
    | 1, hj => simp at hj; subst hj; simp
    | 2, hj => simp at hj; subst hj; simp
    | 3, hj => simp at hj; subst hj; simp
    | 4, hj => simp at hj; subst hj; simp
    | j + 5, hj => simp at hj) (by simp) (by simp) (by simp) (txt_len _ _ _ _ _ ls la lb lc ld)

set_option maxHeartbeats 4000000 in
set_option maxRecDepth 100000 in
theorem text_any (w : World) (op a b c n st : Int) (ha : i64ok a) (hb : i64ok b) (hc : i64ok c) (hn : i64ok n) (hL : LaysAt w) (hT : TabN w) :
    Calls Tryd.prog 4 #[.agg #[.int .i64 op, .int .i64 a, .int .i64 b, .int .i64 c, .int .i64 n, .int .i64 st]] w (PostSt (txt ⟨(wd op).toArray⟩ (dg a) (dg b) (dg c) (dg n)) w) := by
  obtain ⟨W, hW⟩ : ∃ W, W = w.alloc (.cells #[.int .i64 op, .int .i64 a, .int .i64 b, .int .i64 c, .int .i64 n, .int .i64 st] 23) := ⟨_, rfl⟩
  have hbw : Below w.heap.size w W := by rw [hW]; exact (Below.refl _ w).alloc (Nat.le_refl _) _
  have q0 : W.cell? ⟨w.heap.size, 0, none⟩ = some (.int .i64 op) := by rw [hW]; simp
  have q1 : W.cell? ⟨w.heap.size, 1, none⟩ = some (.int .i64 a) := by rw [hW]; simp
  have q2 : W.cell? ⟨w.heap.size, 2, none⟩ = some (.int .i64 b) := by rw [hW]; simp
  have q3 : W.cell? ⟨w.heap.size, 3, none⟩ = some (.int .i64 c) := by rw [hW]; simp
  have q4 : W.cell? ⟨w.heap.size, 4, none⟩ = some (.int .i64 n) := by rw [hW]; simp
  have hl0 := (hL.below hbw) 0 (by decide)
  have hl0 : W.cell? ⟨0, 0, none⟩ = some (.string ⟨#[110, 111, 110, 101]⟩) := hl0
  have hl1 := hl0
  rw [hW] at hl1
  have HW := Lib.hid hW
  have TN := Lib.hid (hT.below hbw)
  have HB := Lib.hid hbw
  have hwl : w.heap.size < W.heap.size := block_lt_of_cell q0
  have CA := Lib.hid (fun x : In (Below W.heap.size W) => itoa_any a ha.1 ha.2 x.x (TN.out.below x.h))
  have CB := Lib.hid (fun x : In (Below W.heap.size W) => itoa_any b hb.1 hb.2 x.x (TN.out.below x.h))
  have CC := Lib.hid (fun x : In (Below W.heap.size W) => itoa_any c hc.1 hc.2 x.x (TN.out.below x.h))
  have CN := Lib.hid (fun x : In (Below W.heap.size W) => format_any n hn.1 hn.2 x.x (TN.out.below x.h))
  have HX : Hid (∀ (x : In (Below W.heap.size W)) (y : World), Below x.x.heap.size x.x y → Below W.heap.size W y) := Lib.hid (fun x y hy => x.h.trans (hy.mono x.h.size))
  have p1 : ∀ x : In (Below W.heap.size W), x.x.cell? ⟨w.heap.size, 1, none⟩ = some (.int .i64 a) := fun x => (x.h.cell (p := ⟨w.heap.size, 1, none⟩) hwl).trans q1
  have p2 : ∀ x : In (Below W.heap.size W), x.x.cell? ⟨w.heap.size, 2, none⟩ = some (.int .i64 b) := fun x => (x.h.cell (p := ⟨w.heap.size, 2, none⟩) hwl).trans q2
  have p3 : ∀ x : In (Below W.heap.size W), x.x.cell? ⟨w.heap.size, 3, none⟩ = some (.int .i64 c) := fun x => (x.h.cell (p := ⟨w.heap.size, 3, none⟩) hwl).trans q3
  have p4 : ∀ x : In (Below W.heap.size W), x.x.cell? ⟨w.heap.size, 4, none⟩ = some (.int .i64 n) := fun x => (x.h.cell (p := ⟨w.heap.size, 4, none⟩) hwl).trans q4
  have la := dg_len ha
  have lb := dg_len hb
  have lc := dg_len hc
  have ln := dg_len hn
  have lw := wd_len op
  have hlw : (⟨(wd op).toArray⟩ : ByteArray).size ≤ 20 := by show (wd op).toArray.size ≤ 20; simpa using lw
  change Hid (∀ x : In (Below W.heap.size W), Calls _ _ _ _ (PostSt (dg a) x.x)) at CA
  change Hid (∀ x : In (Below W.heap.size W), Calls _ _ _ _ (PostSt (dg b) x.x)) at CB
  change Hid (∀ x : In (Below W.heap.size W), Calls _ _ _ _ (PostSt (dg c) x.x)) at CC
  change Hid (∀ x : In (Below W.heap.size W), Calls _ _ _ _ (PostSt (dg n) x.x)) at CN
  obtain ⟨A, hA⟩ : ∃ A, A = dg a := ⟨_, rfl⟩
  obtain ⟨B, hB⟩ : ∃ B, B = dg b := ⟨_, rfl⟩
  obtain ⟨C, hC⟩ : ∃ C, C = dg c := ⟨_, rfl⟩
  obtain ⟨D, hD⟩ : ∃ D, D = dg n := ⟨_, rfl⟩
  rw [← hA] at CA la ⊢
  rw [← hB] at CB lb ⊢
  rw [← hC] at CC lc ⊢
  rw [← hD] at CN ln ⊢
  haveI : Nonempty (In (Below W.heap.size W)) := ⟨⟨W, Below.refl _ _⟩⟩
  by_cases hin : 1 ≤ op ∧ op ≤ 28
  · obtain ⟨j, rfl⟩ : ∃ j : Nat, op = (j : Int) + 1 := ⟨(op - 1).toNat, by omega⟩
    have hj : j < 28 := by omega
    have hl2 := (hL.below hbw) (j + 1) (by omega)
    rw [wd_in j hj] at hlw ⊢
    obtain ⟨S, hS⟩ : ∃ S : ByteArray, S = ⟨(wds.getD (j + 1) []).toArray⟩ := ⟨_, rfl⟩
    rw [← hS] at hlw hl2 ⊢
    rw [hW] at hl2
    have HJ := Lib.hid (fun x : World => join_any x S A B C D hlw la lb lc ln)
    have ht : ((j : Int) + 1).toNat = j + 1 := by omega
    have h1 : (1 : Int) ≤ (j : Int) + 1 := by omega
    have h2 : (j : Int) + 1 ≤ 28 := by omega
    have h3 : (j : Int) + 1 < 29 := by omega
    have h4 : (0 : Int) ≤ (j : Int) + 1 := by omega
    clear hA hB hC hD ha hb hc hn hL hT hin lw hlw hW hl0 hS
    go_enter Tryd.func4, Tryd.ntmps4
    go_wp2_with go_in
    rw [← HW.out]
    try simp only [List.append]
    refine Qt.wp_region_class_tail (I := In (Below W.heap.size W)) (fun x => x.x) 13 (by kernel_rfl) (by kernel_rfl) ⟨⟨_, (Below.refl _ _).drew⟩, rfl⟩ ?_
    simp only [List.take_succ_cons, List.take_zero, List.drop_succ_cons, List.drop_zero]
    repeat (go_big_quiet_step (first
      | (go_at_call 8; (with_reducible refine (CA.out _).mono ?_); rintro e w2 ⟨rfl, hb2⟩; exact ⟨rfl, ⟨_, HX.out _ _ hb2⟩, rfl⟩)
      | (go_at_call 8; (with_reducible refine (CB.out _).mono ?_); rintro e w2 ⟨rfl, hb2⟩; exact ⟨rfl, ⟨_, HX.out _ _ hb2⟩, rfl⟩)
      | (go_at_call 8; (with_reducible refine (CC.out _).mono ?_); rintro e w2 ⟨rfl, hb2⟩; exact ⟨rfl, ⟨_, HX.out _ _ hb2⟩, rfl⟩)
      | (go_at_call 9; (with_reducible refine (CN.out _).mono ?_); rintro e w2 ⟨rfl, hb2⟩; exact ⟨rfl, ⟨_, HX.out _ _ hb2⟩, rfl⟩)))
    refine wpQuiet_nil ?_
    rintro _ ⟨x, rfl⟩
    have hx := x.h
    go_wp2_with (go_at_call 7; refine (HJ.out _).mono ?_; rintro e w3 ⟨rfl, hb3⟩)
    go_ret
    exact ⟨rfl, HB.out.trans ((hx.trans (((Below.refl _ _).alloc (Nat.le_refl _) _ |>.trans (hb3.mono (by simp))).mono hx.size)).mono HB.out.size)⟩
  · have hout : op < 1 ∨ 28 < op := by omega
    rw [wd_out op hin]
    have HJ := Lib.hid (fun x : World => join_any x ⟨#[110, 111, 110, 101]⟩ A B C D (by decide) la lb lc ln)
    clear hA hB hC hD ha hb hc hn hL hT hin lw hlw hW hl0
    rcases hout with h1 | h1
    all_goals
      go_enter Tryd.func4, Tryd.ntmps4
      go_wp2_with go_in
      rw [← HW.out]
      try simp only [List.append]
      refine Qt.wp_region_class_tail (I := In (Below W.heap.size W)) (fun x => x.x) 13 (by kernel_rfl) (by kernel_rfl) ⟨⟨_, (Below.refl _ _).drew⟩, rfl⟩ ?_
      simp only [List.take_succ_cons, List.take_zero, List.drop_succ_cons, List.drop_zero]
      repeat (go_big_quiet_step (first
        | (go_at_call 8; (with_reducible refine (CA.out _).mono ?_); rintro e w2 ⟨rfl, hb2⟩; exact ⟨rfl, ⟨_, HX.out _ _ hb2⟩, rfl⟩)
        | (go_at_call 8; (with_reducible refine (CB.out _).mono ?_); rintro e w2 ⟨rfl, hb2⟩; exact ⟨rfl, ⟨_, HX.out _ _ hb2⟩, rfl⟩)
        | (go_at_call 8; (with_reducible refine (CC.out _).mono ?_); rintro e w2 ⟨rfl, hb2⟩; exact ⟨rfl, ⟨_, HX.out _ _ hb2⟩, rfl⟩)
        | (go_at_call 9; (with_reducible refine (CN.out _).mono ?_); rintro e w2 ⟨rfl, hb2⟩; exact ⟨rfl, ⟨_, HX.out _ _ hb2⟩, rfl⟩)))
      refine wpQuiet_nil ?_
      rintro _ ⟨x, rfl⟩
      have hx := x.h
      go_wp2_with (go_at_call 7; refine (HJ.out _).mono ?_; rintro e w3 ⟨rfl, hb3⟩)
      go_ret
      exact ⟨rfl, HB.out.trans ((hx.trans (((Below.refl _ _).alloc (Nat.le_refl _) _ |>.trans (hb3.mono (by simp))).mono hx.size)).mono HB.out.size)⟩

theorem words_at (w : World) (j : Nat) (hj : j < 28) {m : Nat} (hm : w.heap.size = m) : (w.alloc (.cells #[.string ⟨#[99, 111, 110, 115, 116]⟩, .string ⟨#[109, 111, 118, 101]⟩, .string ⟨#[117, 110, 97, 114, 121]⟩, .string ⟨#[98, 105, 110, 97, 114, 121]⟩, .string ⟨#[106, 117, 109, 112]⟩, .string ⟨#[108, 111, 97, 100]⟩, .string ⟨#[108, 111, 97, 100, 97, 116]⟩, .string ⟨#[115, 116, 111, 114, 101]⟩, .string ⟨#[115, 116, 111, 114, 101, 97, 116]⟩, .string ⟨#[98, 114, 97, 110, 99, 104]⟩, .string ⟨#[97, 99, 113, 117, 105, 114, 101]⟩, .string ⟨#[114, 101, 108, 101, 97, 115, 101]⟩, .string ⟨#[114, 101, 97, 100, 97, 99, 113, 117, 105, 114, 101]⟩, .string ⟨#[114, 101, 97, 100, 114, 101, 108, 101, 97, 115, 101]⟩, .string ⟨#[119, 114, 105, 116, 101, 97, 99, 113, 117, 105, 114, 101]⟩, .string ⟨#[119, 114, 105, 116, 101, 114, 101, 108, 101, 97, 115, 101]⟩, .string ⟨#[116, 120, 98, 101, 103, 105, 110]⟩, .string ⟨#[116, 120, 101, 110, 100]⟩, .string ⟨#[97, 116, 111, 109, 105, 99, 98, 101, 103, 105, 110]⟩, .string ⟨#[97, 116, 111, 109, 105, 99, 101, 110, 100]⟩, .string ⟨#[119, 97, 105, 116]⟩, .string ⟨#[110, 111, 116, 105, 102, 121]⟩, .string ⟨#[110, 111, 116, 105, 102, 121, 97, 108, 108]⟩, .string ⟨#[115, 112, 97, 119, 110]⟩, .string ⟨#[106, 111, 105, 110]⟩, .string ⟨#[115, 101, 116]⟩, .string ⟨#[103, 101, 116]⟩, .string ⟨#[101, 110, 100]⟩] 9)).cell? ⟨m, j, none⟩ = some (.string ⟨(wds.getD (j + 1) []).toArray⟩) := by
  subst hm
  rw [World.cell?_alloc_at _ _ _ _ (by first | (simp; done) | (simp; omega))]
  have : ∀ k, k < 28 → (#[.string ⟨#[99, 111, 110, 115, 116]⟩, .string ⟨#[109, 111, 118, 101]⟩, .string ⟨#[117, 110, 97, 114, 121]⟩, .string ⟨#[98, 105, 110, 97, 114, 121]⟩, .string ⟨#[106, 117, 109, 112]⟩, .string ⟨#[108, 111, 97, 100]⟩, .string ⟨#[108, 111, 97, 100, 97, 116]⟩, .string ⟨#[115, 116, 111, 114, 101]⟩, .string ⟨#[115, 116, 111, 114, 101, 97, 116]⟩, .string ⟨#[98, 114, 97, 110, 99, 104]⟩, .string ⟨#[97, 99, 113, 117, 105, 114, 101]⟩, .string ⟨#[114, 101, 108, 101, 97, 115, 101]⟩, .string ⟨#[114, 101, 97, 100, 97, 99, 113, 117, 105, 114, 101]⟩, .string ⟨#[114, 101, 97, 100, 114, 101, 108, 101, 97, 115, 101]⟩, .string ⟨#[119, 114, 105, 116, 101, 97, 99, 113, 117, 105, 114, 101]⟩, .string ⟨#[119, 114, 105, 116, 101, 114, 101, 108, 101, 97, 115, 101]⟩, .string ⟨#[116, 120, 98, 101, 103, 105, 110]⟩, .string ⟨#[116, 120, 101, 110, 100]⟩, .string ⟨#[97, 116, 111, 109, 105, 99, 98, 101, 103, 105, 110]⟩, .string ⟨#[97, 116, 111, 109, 105, 99, 101, 110, 100]⟩, .string ⟨#[119, 97, 105, 116]⟩, .string ⟨#[110, 111, 116, 105, 102, 121]⟩, .string ⟨#[110, 111, 116, 105, 102, 121, 97, 108, 108]⟩, .string ⟨#[115, 112, 97, 119, 110]⟩, .string ⟨#[106, 111, 105, 110]⟩, .string ⟨#[115, 101, 116]⟩, .string ⟨#[103, 101, 116]⟩, .string ⟨#[101, 110, 100]⟩] : Array Value)[k]? = some (.string ⟨(wds.getD (k + 1) []).toArray⟩) := by
    intro k hk
    match k, hk with
    | 0, _ => rfl
    | 1, _ => rfl
    | 2, _ => rfl
    | 3, _ => rfl
    | 4, _ => rfl
    | 5, _ => rfl
    | 6, _ => rfl
    | 7, _ => rfl
    | 8, _ => rfl
    | 9, _ => rfl
    | 10, _ => rfl
    | 11, _ => rfl
    | 12, _ => rfl
    | 13, _ => rfl
    | 14, _ => rfl
    | 15, _ => rfl
    | 16, _ => rfl
    | 17, _ => rfl
    | 18, _ => rfl
    | 19, _ => rfl
    | 20, _ => rfl
    | 21, _ => rfl
    | 22, _ => rfl
    | 23, _ => rfl
    | 24, _ => rfl
    | 25, _ => rfl
    | 26, _ => rfl
    | 27, _ => rfl
    | k + 28, hk => exact absurd hk (by omega)
  exact this j hj

set_option maxHeartbeats 4000000 in
set_option maxRecDepth 100000 in
theorem refText_any (w : World) (op a b c n st : Int) (ha : i64ok a) (hb : i64ok b) (hc : i64ok c) (hn : i64ok n) (hT : TabN w) :
    Calls Tryd.prog 5 #[.agg #[.int .i64 op, .int .i64 a, .int .i64 b, .int .i64 c, .int .i64 n, .int .i64 st]] w (PostSt (txt ⟨(wd op).toArray⟩ (dg a) (dg b) (dg c) (dg n)) w) := by
  obtain ⟨W, hW⟩ : ∃ W, W = (w.alloc (.cells #[.int .i64 op, .int .i64 a, .int .i64 b, .int .i64 c, .int .i64 n, .int .i64 st] 23)).alloc (.cells #[.string ⟨#[99, 111, 110, 115, 116]⟩, .string ⟨#[109, 111, 118, 101]⟩, .string ⟨#[117, 110, 97, 114, 121]⟩, .string ⟨#[98, 105, 110, 97, 114, 121]⟩, .string ⟨#[106, 117, 109, 112]⟩, .string ⟨#[108, 111, 97, 100]⟩, .string ⟨#[108, 111, 97, 100, 97, 116]⟩, .string ⟨#[115, 116, 111, 114, 101]⟩, .string ⟨#[115, 116, 111, 114, 101, 97, 116]⟩, .string ⟨#[98, 114, 97, 110, 99, 104]⟩, .string ⟨#[97, 99, 113, 117, 105, 114, 101]⟩, .string ⟨#[114, 101, 108, 101, 97, 115, 101]⟩, .string ⟨#[114, 101, 97, 100, 97, 99, 113, 117, 105, 114, 101]⟩, .string ⟨#[114, 101, 97, 100, 114, 101, 108, 101, 97, 115, 101]⟩, .string ⟨#[119, 114, 105, 116, 101, 97, 99, 113, 117, 105, 114, 101]⟩, .string ⟨#[119, 114, 105, 116, 101, 114, 101, 108, 101, 97, 115, 101]⟩, .string ⟨#[116, 120, 98, 101, 103, 105, 110]⟩, .string ⟨#[116, 120, 101, 110, 100]⟩, .string ⟨#[97, 116, 111, 109, 105, 99, 98, 101, 103, 105, 110]⟩, .string ⟨#[97, 116, 111, 109, 105, 99, 101, 110, 100]⟩, .string ⟨#[119, 97, 105, 116]⟩, .string ⟨#[110, 111, 116, 105, 102, 121]⟩, .string ⟨#[110, 111, 116, 105, 102, 121, 97, 108, 108]⟩, .string ⟨#[115, 112, 97, 119, 110]⟩, .string ⟨#[106, 111, 105, 110]⟩, .string ⟨#[115, 101, 116]⟩, .string ⟨#[103, 101, 116]⟩, .string ⟨#[101, 110, 100]⟩] 9) := ⟨_, rfl⟩
  have hbw : Below w.heap.size w W := by rw [hW]; exact ((Below.refl _ w).alloc (Nat.le_refl _) _).alloc (by simp) _
  have q1 : W.cell? ⟨w.heap.size, 1, none⟩ = some (.int .i64 a) := by rw [hW]; simp
  have q2 : W.cell? ⟨w.heap.size, 2, none⟩ = some (.int .i64 b) := by rw [hW]; simp
  have q3 : W.cell? ⟨w.heap.size, 3, none⟩ = some (.int .i64 c) := by rw [hW]; simp
  have q4 : W.cell? ⟨w.heap.size, 4, none⟩ = some (.int .i64 n) := by rw [hW]; simp
  have TN := Lib.hid (hT.below hbw)
  have HB := Lib.hid hbw
  have hwl : w.heap.size < W.heap.size := block_lt_of_cell q1
  have CA := Lib.hid (fun x : In (Below W.heap.size W) => itoa_any a ha.1 ha.2 x.x (TN.out.below x.h))
  have CB := Lib.hid (fun x : In (Below W.heap.size W) => itoa_any b hb.1 hb.2 x.x (TN.out.below x.h))
  have CC := Lib.hid (fun x : In (Below W.heap.size W) => itoa_any c hc.1 hc.2 x.x (TN.out.below x.h))
  have CN := Lib.hid (fun x : In (Below W.heap.size W) => format_any n hn.1 hn.2 x.x (TN.out.below x.h))
  have HX : Hid (∀ (x : In (Below W.heap.size W)) (y : World), Below x.x.heap.size x.x y → Below W.heap.size W y) := Lib.hid (fun x y hy => x.h.trans (hy.mono x.h.size))
  have p1 : ∀ x : In (Below W.heap.size W), x.x.cell? ⟨w.heap.size, 1, none⟩ = some (.int .i64 a) := fun x => (x.h.cell (p := ⟨w.heap.size, 1, none⟩) hwl).trans q1
  have p2 : ∀ x : In (Below W.heap.size W), x.x.cell? ⟨w.heap.size, 2, none⟩ = some (.int .i64 b) := fun x => (x.h.cell (p := ⟨w.heap.size, 2, none⟩) hwl).trans q2
  have p3 : ∀ x : In (Below W.heap.size W), x.x.cell? ⟨w.heap.size, 3, none⟩ = some (.int .i64 c) := fun x => (x.h.cell (p := ⟨w.heap.size, 3, none⟩) hwl).trans q3
  have p4 : ∀ x : In (Below W.heap.size W), x.x.cell? ⟨w.heap.size, 4, none⟩ = some (.int .i64 n) := fun x => (x.h.cell (p := ⟨w.heap.size, 4, none⟩) hwl).trans q4
  have la := dg_len ha
  have lb := dg_len hb
  have lc := dg_len hc
  have ln := dg_len hn
  have lw := wd_len op
  have hlw : (⟨(wd op).toArray⟩ : ByteArray).size ≤ 20 := by show (wd op).toArray.size ≤ 20; simpa using lw
  change Hid (∀ x : In (Below W.heap.size W), Calls _ _ _ _ (PostSt (dg a) x.x)) at CA
  change Hid (∀ x : In (Below W.heap.size W), Calls _ _ _ _ (PostSt (dg b) x.x)) at CB
  change Hid (∀ x : In (Below W.heap.size W), Calls _ _ _ _ (PostSt (dg c) x.x)) at CC
  change Hid (∀ x : In (Below W.heap.size W), Calls _ _ _ _ (PostSt (dg n) x.x)) at CN
  obtain ⟨A, hA⟩ : ∃ A, A = dg a := ⟨_, rfl⟩
  obtain ⟨B, hB⟩ : ∃ B, B = dg b := ⟨_, rfl⟩
  obtain ⟨C, hC⟩ : ∃ C, C = dg c := ⟨_, rfl⟩
  obtain ⟨D, hD⟩ : ∃ D, D = dg n := ⟨_, rfl⟩
  rw [← hA] at CA la ⊢
  rw [← hB] at CB lb ⊢
  rw [← hC] at CC lc ⊢
  rw [← hD] at CN ln ⊢
  have HW := Lib.hid hW
  haveI : Nonempty (In (Below W.heap.size W)) := ⟨⟨W, Below.refl _ _⟩⟩
  by_cases hin : 1 ≤ op ∧ op ≤ 28
  · obtain ⟨j, rfl⟩ : ∃ j : Nat, op = (j : Int) + 1 := ⟨(op - 1).toNat, by omega⟩
    have hj : j < 28 := by omega
    rw [wd_in j hj] at hlw ⊢
    have hl2 : W.cell? ⟨w.heap.size + 1, j, none⟩ = some (.string ⟨(wds.getD (j + 1) []).toArray⟩) := by
      rw [hW]
      exact words_at (w.alloc _) j hj (by simp)
    obtain ⟨S, hS⟩ : ∃ S : ByteArray, S = ⟨(wds.getD (j + 1) []).toArray⟩ := ⟨_, rfl⟩
    rw [← hS] at hlw hl2 ⊢
    rw [hW] at hl2
    have HJ := Lib.hid (txt_eq S A B C D)
    have ht : IntKind.i64.wrap ((j : Int) + 1 - 1) = (j : Int) := by rw [Int.add_sub_cancel]; exact IntWalk.i64_in _ (by omega)
    have h1 : (1 : Int) ≤ (j : Int) + 1 := by omega
    have h2 : (j : Int) + 1 ≤ 28 := by omega
    have h3 : (j : Int) < 28 := by omega
    have h4 : (0 : Int) ≤ (j : Int) := by omega
    clear hA hB hC hD ha hb hc hn hT hin lw hS hW
    go_enter Tryd.func5, Tryd.ntmps5
    go_wp2_with fail
    rw [← HW.out]
    try simp only [List.append]
    refine Qt.wp_region_class (I := In (Below W.heap.size W)) (fun x => x.x) (by kernel_rfl) (by kernel_rfl) ⟨⟨_, (Below.refl _ _).drew⟩, rfl⟩ ?_
    repeat (go_big_quiet_step (first
      | (go_at_call 8; (with_reducible refine (CA.out _).mono ?_); rintro e w2 ⟨rfl, hb2⟩; exact ⟨rfl, ⟨_, HX.out _ _ hb2⟩, rfl⟩)
      | (go_at_call 8; (with_reducible refine (CB.out _).mono ?_); rintro e w2 ⟨rfl, hb2⟩; exact ⟨rfl, ⟨_, HX.out _ _ hb2⟩, rfl⟩)
      | (go_at_call 8; (with_reducible refine (CC.out _).mono ?_); rintro e w2 ⟨rfl, hb2⟩; exact ⟨rfl, ⟨_, HX.out _ _ hb2⟩, rfl⟩)
      | (go_at_call 9; (with_reducible refine (CN.out _).mono ?_); rintro e w2 ⟨rfl, hb2⟩; exact ⟨rfl, ⟨_, HX.out _ _ hb2⟩, rfl⟩)))
    refine wpQuiet_nil ?_
    rintro _ ⟨x, rfl⟩
    have hx := x.h
    go_wp2_with fail
    go_ret
    rw [← HJ.out]
    exact ⟨rfl, HB.out.trans (hx.mono HB.out.size)⟩
  · have hout : op < 1 ∨ 28 < op := by omega
    rw [wd_out op hin]
    have HJ := Lib.hid (txt_eq ⟨#[110, 111, 110, 101]⟩ A B C D)
    clear hA hB hC hD ha hb hc hn hT hin lw hlw hW
    rcases hout with h1 | h1
    all_goals
      go_enter Tryd.func5, Tryd.ntmps5
      go_wp2_with fail
      rw [← HW.out]
      try simp only [List.append]
      refine Qt.wp_region_class (I := In (Below W.heap.size W)) (fun x => x.x) (by kernel_rfl) (by kernel_rfl) ⟨⟨_, (Below.refl _ _).drew⟩, rfl⟩ ?_
      repeat (go_big_quiet_step (first
        | (go_at_call 8; (with_reducible refine (CA.out _).mono ?_); rintro e w2 ⟨rfl, hb2⟩; exact ⟨rfl, ⟨_, HX.out _ _ hb2⟩, rfl⟩)
        | (go_at_call 8; (with_reducible refine (CB.out _).mono ?_); rintro e w2 ⟨rfl, hb2⟩; exact ⟨rfl, ⟨_, HX.out _ _ hb2⟩, rfl⟩)
        | (go_at_call 8; (with_reducible refine (CC.out _).mono ?_); rintro e w2 ⟨rfl, hb2⟩; exact ⟨rfl, ⟨_, HX.out _ _ hb2⟩, rfl⟩)
        | (go_at_call 9; (with_reducible refine (CN.out _).mono ?_); rintro e w2 ⟨rfl, hb2⟩; exact ⟨rfl, ⟨_, HX.out _ _ hb2⟩, rfl⟩)))
      refine wpQuiet_nil ?_
      rintro _ ⟨x, rfl⟩
      have hx := x.h
      go_wp2_with fail
      go_ret
      rw [← HJ.out]
      exact ⟨rfl, HB.out.trans (hx.mono HB.out.size)⟩

set_option maxHeartbeats 4000000 in
set_option maxRecDepth 100000 in
theorem compileTexts_any (w : World) (op a b c n st : Int) (ha : i64ok a) (hb : i64ok b) (hc : i64ok c) (hn : i64ok n) (hL : LaysAt w) (hT : TabN w) :
    Calls Tryd.prog 3 #[.agg #[.int .i64 op, .int .i64 a, .int .i64 b, .int .i64 c, .int .i64 n, .int .i64 st]] w fun e w' => e = .returned (.bool true) ∧ Below w.heap.size w w' := by
  obtain ⟨W, hW⟩ : ∃ W, W = w.alloc (.cells #[.int .i64 op, .int .i64 a, .int .i64 b, .int .i64 c, .int .i64 n, .int .i64 st] 23) := ⟨_, rfl⟩
  have hbw : Below w.heap.size w W := by rw [hW]; exact (Below.refl _ w).alloc (Nat.le_refl _) _
  have q0 : W.cell? ⟨w.heap.size, 0, none⟩ = some (.int .i64 op) := by rw [hW]; simp
  have q1 : W.cell? ⟨w.heap.size, 1, none⟩ = some (.int .i64 a) := by rw [hW]; simp
  have q2 : W.cell? ⟨w.heap.size, 2, none⟩ = some (.int .i64 b) := by rw [hW]; simp
  have q3 : W.cell? ⟨w.heap.size, 3, none⟩ = some (.int .i64 c) := by rw [hW]; simp
  have q4 : W.cell? ⟨w.heap.size, 4, none⟩ = some (.int .i64 n) := by rw [hW]; simp
  have q5 : W.cell? ⟨w.heap.size, 5, none⟩ = some (.int .i64 st) := by rw [hW]; simp
  have hwl : w.heap.size < W.heap.size := block_lt_of_cell q0
  have HL := Lib.hid (hL.below hbw)
  have HT := Lib.hid (hT.below hbw)
  have HB := Lib.hid hbw
  obtain ⟨T, hTT⟩ : ∃ T, T = txt ⟨(wd op).toArray⟩ (dg a) (dg b) (dg c) (dg n) := ⟨_, rfl⟩
  have C1 := Lib.hid (fun x : In (Below W.heap.size W) => text_any x.x op a b c n st ha hb hc hn (HL.out.below x.h) (HT.out.below x.h))
  have C2 := Lib.hid (fun x : In (Below W.heap.size W) => refText_any x.x op a b c n st ha hb hc hn (HT.out.below x.h))
  rw [← hTT] at C1 C2
  have HX : Hid (∀ (x : In (Below W.heap.size W)) (y : World), Below x.x.heap.size x.x y → Below W.heap.size W y) := Lib.hid (fun x y hy => x.h.trans (hy.mono x.h.size))
  have p0 : ∀ x : In (Below W.heap.size W), x.x.cell? ⟨w.heap.size, 0, none⟩ = some (.int .i64 op) := fun x => (x.h.cell (p := ⟨w.heap.size, 0, none⟩) hwl).trans q0
  have p1 : ∀ x : In (Below W.heap.size W), x.x.cell? ⟨w.heap.size, 1, none⟩ = some (.int .i64 a) := fun x => (x.h.cell (p := ⟨w.heap.size, 1, none⟩) hwl).trans q1
  have p2 : ∀ x : In (Below W.heap.size W), x.x.cell? ⟨w.heap.size, 2, none⟩ = some (.int .i64 b) := fun x => (x.h.cell (p := ⟨w.heap.size, 2, none⟩) hwl).trans q2
  have p3 : ∀ x : In (Below W.heap.size W), x.x.cell? ⟨w.heap.size, 3, none⟩ = some (.int .i64 c) := fun x => (x.h.cell (p := ⟨w.heap.size, 3, none⟩) hwl).trans q3
  have p4 : ∀ x : In (Below W.heap.size W), x.x.cell? ⟨w.heap.size, 4, none⟩ = some (.int .i64 n) := fun x => (x.h.cell (p := ⟨w.heap.size, 4, none⟩) hwl).trans q4
  have p5 : ∀ x : In (Below W.heap.size W), x.x.cell? ⟨w.heap.size, 5, none⟩ = some (.int .i64 st) := fun x => (x.h.cell (p := ⟨w.heap.size, 5, none⟩) hwl).trans q5
  have HW := Lib.hid hW
  haveI : Nonempty (In (Below W.heap.size W)) := ⟨⟨W, Below.refl _ _⟩⟩
  clear ha hb hc hn hL hT hTT hbw hW
  go_enter Tryd.func3, Tryd.ntmps3
  go_wp2_with fail
  rw [← HW.out]
  refine Qt.wp_region_class (I := In (Below W.heap.size W)) (fun x => x.x) (by kernel_rfl) (by kernel_rfl) ⟨⟨_, (Below.refl _ _).drew⟩, rfl⟩ ?_
  repeat (go_big_quiet_step (first
    | (go_at_call 4; (with_reducible refine (C1.out _).mono ?_); rintro e w2 ⟨rfl, hb2⟩; exact ⟨rfl, ⟨_, HX.out _ _ hb2⟩, rfl⟩)
    | (go_at_call 5; (with_reducible refine (C2.out _).mono ?_); rintro e w2 ⟨rfl, hb2⟩; exact ⟨rfl, ⟨_, HX.out _ _ hb2⟩, rfl⟩)))
  refine wpQuiet_nil ?_
  rintro _ ⟨x, rfl⟩
  have hx := x.h
  go_wp2_with fail
  go_ret
  exact ⟨by first | rfl | simp, HB.out.trans (hx.mono HB.out.size)⟩
end Ct
end Go.Proofs.YtiiiacnmmdemlaaDoor
