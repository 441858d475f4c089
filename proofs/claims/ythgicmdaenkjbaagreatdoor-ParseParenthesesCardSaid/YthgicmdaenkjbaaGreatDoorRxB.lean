/-
  The text of a shaped expression, as the reference writes it; its length.
  The reference's text of a shaped expression (interleaveref03.put, interleaveref03.Expr).
  The reference's text of any shaped expression, by induction.
-/
import Derived.Test.YthgicmdaenkjbaaGreatDoorMkB0
import Derived.Test.YthgicmdaenkjbaaGreatDoorR3A
import Derived.Lib.ItoaLen
import Derived.Test.YthgicmdaenkjbaaGreatDoorAwD
import Derived.Lib.AppendIntMem
import Derived.Test.YthgicmdaenkjbaaGreatDoorShelf
import Derived.Test.YthgicmdaenkjbaaGreatDoorParM
namespace Go.Proofs.YthgicmdaenkjbaaGreatDoor
open Go.RowKit
open Par

namespace Par
open Tok (T Bs)
def E.op : E → Int
  | .mk op _ _ _ => op
/-- An operand's text where its place asks for a level. -/
def parT (lv : Nat) (t : Int × Bs) : Bs := if (sgn t.1).2 < lv then [40] ++ t.2 ++ [41] else t.2
def leftLv (op : Int) : Nat := if (sgn op).2 = 3 then 4 else (sgn op).2
def bodyT (op n : Int) (nm : ByteArray) (ts : List (Int × Bs)) : Bs :=
  if op = 1 then Lib.itoa n
  else if op = 2 then nm.data.toList
  else match ts with
    | [t] => if op = 3 then nm.data.toList ++ [91] ++ t.2 ++ [93] else (sgn op).1 ++ parT 6 t
    | [a, b] => parT (leftLv op) a ++ [32] ++ (sgn op).1 ++ [32] ++ parT ((sgn op).2 + 1) b
    | _ => []
mutual
/-- The text of an expression. -/
def tx : E → Bs
  | .mk op n nm l => bodyT op n nm (txL l)
def txL : List E → List (Int × Bs)
  | [] => []
  | e :: r => (e.op, tx e) :: txL r
end
theorem sgn_len (op : Int) : (sgn op).1.length ≤ 2 := by
  unfold sgn
  split
  · cases h : sgnT[(op - 4).toNat]? with
    | none => decide
    | some p =>
      have : ∀ q ∈ sgnT, q.1.length ≤ 2 := by decide
      exact this p (List.mem_of_getElem? h)
  · decide
theorem parT_len (lv : Nat) (t : Int × Bs) : (parT lv t).length ≤ t.2.length + 2 := by
  unfold parT
  split
  · simp
  · omega
theorem fit_list {op n : Int} {nm : ByteArray} {l : List E} (h : Fit (.mk op n nm l)) : (op = 1 ∧ l = [] ∧ nm = ⟨#[]⟩) ∨ (op = 2 ∧ n = 0 ∧ l = []) ∨ (∃ e, op = 3 ∧ n = 0 ∧ l = [e] ∧ Fit e) ∨ (∃ e, (op = 4 ∨ op = 5) ∧ n = 0 ∧ nm = ⟨#[]⟩ ∧ l = [e] ∧ Fit e) ∨
    ∃ a b, 6 ≤ op ∧ op ≤ 18 ∧ n = 0 ∧ nm = ⟨#[]⟩ ∧ l = [a, b] ∧ Fit a ∧ Fit b := by
  obtain ⟨hn, hl⟩ := h
  have ha := hn.ar
  have lo := hn.lo
  have hi := hn.hi
  unfold ar at ha
  by_cases h1 : op = 1
  · refine .inl ⟨h1, List.eq_nil_of_length_eq_zero (by rw [ha, if_pos (by omega)]), hn.bare (by omega)⟩
  · have h0 : n = 0 := hn.num.resolve_left h1
    by_cases h2 : op = 2
    · exact .inr (.inl ⟨h2, h0, List.eq_nil_of_length_eq_zero (by rw [ha, if_pos (by omega)])⟩)
    · rw [if_neg (by omega)] at ha
      by_cases h5 : op ≤ 5
      · rw [if_pos h5] at ha
        obtain ⟨e, rfl⟩ := List.length_eq_one_iff.1 ha
        by_cases h3 : op = 3
        · exact .inr (.inr (.inl ⟨e, h3, h0, rfl, hl.1⟩))
        · exact .inr (.inr (.inr (.inl ⟨e, by omega, h0, hn.bare (by omega), rfl, hl.1⟩)))
      · rw [if_neg h5] at ha
        obtain ⟨a, b, rfl⟩ : ∃ a b, l = [a, b] := by
          match l, ha with
          | [a, b], _ => exact ⟨a, b, rfl⟩
        exact .inr (.inr (.inr (.inr ⟨a, b, by omega, hi, h0, hn.bare (by omega), rfl, hl.1, hl.2.1⟩)))
theorem tx_len : ∀ (N : Nat) (x : E), bnd x ≤ N → Fit x → (tx x).length + 10 ≤ bnd x
  | 0, .mk op n nm l, hN, h => by simp only [bnd] at hN; omega
  | N + 1, .mk op n nm l, hN, h => by
    have n1 := h.1.n1
    have n0 := h.1.n0
    simp only [bnd] at hN
    rcases fit_list h with ⟨rfl, rfl, rfl⟩ | ⟨rfl, rfl, rfl⟩ | ⟨e, rfl, rfl, rfl, he⟩ | ⟨e, ho, rfl, rfl, rfl, he⟩ | ⟨a, b, h1, h2, rfl, rfl, rfl, ha, hb⟩
    · have := Lib.itoa_length_le n (by omega) (by omega)
      simp only [tx, bnd, bndL, bodyT, if_pos]
      omega
    · simp only [tx, bnd, bndL, bodyT, if_pos, if_neg (show ¬ (2 : Int) = 1 by decide)]
      show nm.size + 10 ≤ _
      omega
    · simp only [bndL] at hN
      have ih := tx_len N e (by omega) he
      simp only [tx, txL, bnd, bndL, bodyT, if_pos, if_neg (show ¬ (3 : Int) = 1 by decide), if_neg (show ¬ (3 : Int) = 2 by decide), List.length_append, List.length_cons, List.length_nil]
      have : nm.data.toList.length = nm.size := rfl
      omega
    · simp only [bndL] at hN
      have ih := tx_len N e (by omega) he
      have h6 := parT_len 6 (e.op, tx e)
      have h7 := sgn_len op
      simp only [tx, txL, bnd, bndL, bodyT, if_neg (show ¬ op = 1 by omega), if_neg (show ¬ op = 2 by omega), if_neg (show ¬ op = 3 by omega), List.length_append]
      have h8 : (⟨#[]⟩ : ByteArray).size = 0 := rfl
      simp only at h6
      omega
    · simp only [bndL] at hN
      have iha := tx_len N a (by omega) ha
      have ihb := tx_len N b (by omega) hb
      have h6 := parT_len (leftLv op) (a.op, tx a)
      have h9 := parT_len ((sgn op).2 + 1) (b.op, tx b)
      have h7 := sgn_len op
      simp only [tx, txL, bnd, bndL, bodyT, if_neg (show ¬ op = 1 by omega), if_neg (show ¬ op = 2 by omega), List.length_append, List.length_cons, List.length_nil]
      have h8 : (⟨#[]⟩ : ByteArray).size = 0 := rfl
      simp only at h6 h9
      omega
end Par
end Go.Proofs.YthgicmdaenkjbaaGreatDoor

namespace Go.Proofs.YthgicmdaenkjbaaGreatDoor
open Go.RowKit
open Par

namespace Par
open Tok (T Bs)
/-- The table that writing a number reads. -/
def TabN (w : World) : Prop := Lib.TabIs Tryz.prog w "internal/strconv.uint64pow10" .u64 Lib.pow10Tab
theorem TabN.below {w w' : World} (h : TabN w) (b : Below w.heap.size w w') : TabN w' := Lib.tabBelow_of_tabIs h w' b
theorem bytes_of {a : ByteArray} {l : Bs} (h : a.data.toList = l) : a = ⟨l.toArray⟩ := by
  subst h
  rfl
theorem bytes_back (l : Bs) : (⟨l.toArray⟩ : ByteArray).data.toList = l := rfl
theorem app_data (a b : ByteArray) : (a ++ b).data.toList = a.data.toList ++ b.data.toList := by simp
theorem bytes_size (l : Bs) : (⟨l.toArray⟩ : ByteArray).size = l.length := by show l.toArray.size = _; simp
def PostSt (s : ByteArray) (w : World) (e : Ending) (w' : World) : Prop := e = .returned (.string s) ∧ Below w.heap.size w w'
theorem sgn_val {op : Int} {sg : Bs} {lv : Nat} (h : sgn op = (sg, lv)) (h1 : 0 ≤ op) (h2 : op ≤ 1000) (w : World) :
    Calls Tryz.prog 52 #[.int .i64 op] w fun e w' => e = .returned (.tuple #[.string ⟨sg.toArray⟩, .int .i64 lv]) ∧ Below w.heap.size w w' := by
  have := sign_any w op h1 h2
  rw [h] at this
  exact this
end Par

set_option maxHeartbeats 2000000 in
set_option maxRecDepth 100000 in
theorem put_any (w : World) (op n : Int) (nm : ByteArray) (a : Option Addr) (len cap lvl : Nat) (s : Tok.Bs) (h1 : 0 ≤ op) (h2 : op ≤ 1000) (_ : lvl ≤ 100) (hs : s.length ≤ 100000)
    (C : ∀ W, Below w.heap.size w W → Calls Tryz.prog 22 #[.agg #[.int .i64 op, .int .i64 n, .string nm, .slice a len cap]] W (PostSt ⟨s.toArray⟩ W)) :
    Calls Tryz.prog 54 #[.agg #[.int .i64 op, .int .i64 n, .string nm, .slice a len cap], .int .i64 lvl] w (PostSt ⟨(parT lvl (op, s)).toArray⟩ w) := by
  have hsz := bytes_size s
  have hbk := bytes_back s
  obtain ⟨A, hA⟩ : ∃ A : ByteArray, A = ⟨s.toArray⟩ := ⟨_, rfl⟩
  rw [← hA] at C hsz hbk
  have HC := Lib.hid C
  have hAs : A.size ≤ 100000 := by omega
  obtain ⟨⟨sg, lv⟩, hsg⟩ : ∃ p, sgn op = p := ⟨_, rfl⟩
  have HS := Lib.hid (fun w => sgn_val hsg h1 h2 w)
  have hp : parT lvl (op, s) = if lv < lvl then [40] ++ s ++ [41] else s := by unfold parT; rw [hsg]
  have HB := Lib.hid hbk
  by_cases hlt : lv < lvl
  · have HP := Lib.hid (show (⟨(parT lvl (op, s)).toArray⟩ : ByteArray) = (⟨#[40]⟩ ++ A) ++ ⟨#[41]⟩ by
      rw [hp, if_pos hlt]
      refine (bytes_of ?_).symm
      rw [app_data, app_data, HB.out])
    have hd : decide ((lv : Int) < (lvl : Int)) = true := decide_eq_true (by omega)
    clear hA C hsz hbk hsg hp HB
    go_enter Tryz.func54, Tryz.ntmps54
    go_wp2_with (first
      | (go_at_call 52; refine (HS.out _).mono ?_; rintro e w1 ⟨rfl, hb1⟩; obtain ⟨b0, b1, b2, b3, _, _, _, _⟩ := Box4.below (Box4.new w (.int .i64 op) (.int .i64 n) (.string nm) (.slice a len cap) 41) hb1; have hB1 : Below w.heap.size w w1 := ((Below.refl _ _).alloc (Nat.le_refl _) _).trans (hb1.mono (by simp)))
      | (go_at_call 22; refine (HC.out _ hB1).mono ?_; rintro e w2 ⟨rfl, hb2⟩))
    go_ret
    rw [HP.out]
    exact ⟨rfl, hB1.trans (hb2.mono hB1.size)⟩
  · have HP := Lib.hid (show (⟨(parT lvl (op, s)).toArray⟩ : ByteArray) = A by
      rw [hp, if_neg hlt, hA])
    have hd : decide ((lv : Int) < (lvl : Int)) = false := decide_eq_false (by omega)
    clear hA C hsz hbk hsg hp HB
    go_enter Tryz.func54, Tryz.ntmps54
    go_wp2_with (first
      | (go_at_call 52; refine (HS.out _).mono ?_; rintro e w1 ⟨rfl, hb1⟩; obtain ⟨b0, b1, b2, b3, _, _, _, _⟩ := Box4.below (Box4.new w (.int .i64 op) (.int .i64 n) (.string nm) (.slice a len cap) 41) hb1; have hB1 : Below w.heap.size w w1 := ((Below.refl _ _).alloc (Nat.le_refl _) _).trans (hb1.mono (by simp)))
      | (go_at_call 22; refine (HC.out _ hB1).mono ?_; rintro e w2 ⟨rfl, hb2⟩))
    go_ret
    rw [HP.out]
    exact ⟨rfl, hB1.trans (hb2.mono hB1.size)⟩

theorem put_at (z : Int) (lvl : Nat) (hz : z = lvl) (w : World) (op n : Int) (nm : ByteArray) (a : Option Addr) (len cap : Nat) (s : Tok.Bs) (h1 : 0 ≤ op) (h2 : op ≤ 1000) (hl : lvl ≤ 100) (hs : s.length ≤ 100000)
    (C : ∀ W, Below w.heap.size w W → Calls Tryz.prog 22 #[.agg #[.int .i64 op, .int .i64 n, .string nm, .slice a len cap]] W (PostSt ⟨s.toArray⟩ W)) :
    Calls Tryz.prog 54 #[.agg #[.int .i64 op, .int .i64 n, .string nm, .slice a len cap], .int .i64 z] w (PostSt ⟨(parT lvl (op, s)).toArray⟩ w) :=
  hz ▸ put_any w op n nm a len cap lvl s h1 h2 hl hs C

set_option maxHeartbeats 2000000 in
set_option maxRecDepth 100000 in
theorem rxNum_any (w : World) (n : Int) (a : Option Addr) (cap : Nat) (h0 : 0 ≤ n) (h1 : n ≤ 9223372036854775807) (ht : TabN w) :
    Calls Tryz.prog 22 #[.agg #[.int .i64 1, .int .i64 n, .string ⟨#[]⟩, .slice a 0 cap]] w (PostSt ⟨(Lib.itoa n).toArray⟩ w) := by
  have HS := Lib.hid (fun w => sgn_val (op := 1) (sg := []) (lv := 7) (by decide) (by decide) (by decide) w)
  have HF := Lib.hid (fun w (ht : TabN w) => Tryz.strconv_FormatInt_10 n (by omega) h1 w ht)
  have HT := Lib.hid ht
  clear h0 h1 ht
  go_enter Tryz.func22, Tryz.ntmps22
  go_wp2_with (first
    | (go_at_call 52; refine (HS.out _).mono ?_; rintro e w1 ⟨rfl, hb1⟩; obtain ⟨b0, b1, b2, b3, _, _, _, _⟩ := Box4.below (Box4.new w (.int .i64 1) (.int .i64 n) (.string ⟨#[]⟩) (.slice a 0 cap) 41) hb1; have hB1 : Below w.heap.size w w1 := ((Below.refl _ _).alloc (Nat.le_refl _) _).trans (hb1.mono (by simp)))
    | (go_at_call 53; refine (HF.out _ (HT.out.below hB1)).mono ?_; rintro e w2 ⟨rfl, k, os, rfl⟩))
  go_ret
  exact ⟨rfl, hB1.trans (Lib.below_grow _ _ hB1.size _ _)⟩

set_option maxHeartbeats 2000000 in
set_option maxRecDepth 100000 in
theorem rxName_any (w : World) (n : Int) (nm : ByteArray) (a : Option Addr) (len cap : Nat) :
    Calls Tryz.prog 22 #[.agg #[.int .i64 2, .int .i64 n, .string nm, .slice a len cap]] w (PostSt nm w) := by
  have HS := Lib.hid (fun w => sgn_val (op := 2) (sg := []) (lv := 7) (by decide) (by decide) (by decide) w)
  go_enter Tryz.func22, Tryz.ntmps22
  go_wp2_with (go_at_call 52; refine (HS.out _).mono ?_; rintro e w1 ⟨rfl, hb1⟩; obtain ⟨b0, b1, b2, b3, _, _, _, _⟩ := Box4.below (Box4.new w (.int .i64 2) (.int .i64 n) (.string nm) (.slice a len cap) 41) hb1; have hB1 : Below w.heap.size w w1 := ((Below.refl _ _).alloc (Nat.le_refl _) _).trans (hb1.mono (by simp)))
  go_ret
  exact ⟨rfl, hB1⟩

set_option maxHeartbeats 4000000 in
set_option maxRecDepth 100000 in
theorem rxIndex_any (w : World) (n : Int) (nm : ByteArray) (g cap : Nat) (op1 n1 : Int) (nm1 : ByteArray) (a1 : Option Addr) (len1 cap1 : Nat) (s : Tok.Bs) (hs : s.length ≤ 100000) (hn : nm.size ≤ 100)
    (c0 : w.cell? ⟨g, 0, none⟩ = some (.int .i64 op1)) (c1 : w.cell? ⟨g, 1, none⟩ = some (.int .i64 n1)) (c2 : w.cell? ⟨g, 2, none⟩ = some (.string nm1)) (c3 : w.cell? ⟨g, 3, none⟩ = some (.slice a1 len1 cap1))
    (C : ∀ W, Below w.heap.size w W → Calls Tryz.prog 22 #[.agg #[.int .i64 op1, .int .i64 n1, .string nm1, .slice a1 len1 cap1]] W (PostSt ⟨s.toArray⟩ W)) :
    Calls Tryz.prog 22 #[.agg #[.int .i64 3, .int .i64 n, .string nm, .slice (some ⟨g, 0, none⟩) 1 cap]] w (PostSt ⟨(nm.data.toList ++ [91] ++ s ++ [93]).toArray⟩ w) := by
  have hsz := bytes_size s
  have hbk := bytes_back s
  obtain ⟨A, hA⟩ : ∃ A : ByteArray, A = ⟨s.toArray⟩ := ⟨_, rfl⟩
  rw [← hA] at C hsz hbk
  have hAs : A.size ≤ 100000 := by omega
  have HP := Lib.hid (show (⟨(nm.data.toList ++ [91] ++ s ++ [93]).toArray⟩ : ByteArray) = ((nm ++ ⟨#[91]⟩) ++ A) ++ ⟨#[93]⟩ by
    refine (bytes_of ?_).symm
    rw [app_data, app_data, app_data, hbk])
  have HS := Lib.hid (fun w => sgn_val (op := 3) (sg := []) (lv := 7) (by decide) (by decide) (by decide) w)
  have hw := block_lt_of_cell c0
  have HC := Lib.hid C
  clear hA hsz hbk C
  go_enter Tryz.func22, Tryz.ntmps22
  go_wp2_with (go_at_call 52; refine (HS.out _).mono ?_; rintro e w1 ⟨rfl, hb1⟩; obtain ⟨b0, b1, b2, b3, _, _, _, _⟩ := Box4.below (Box4.new w (.int .i64 3) (.int .i64 n) (.string nm) (.slice (some ⟨g, 0, none⟩) 1 cap) 41) hb1; have hB1 : Below w.heap.size w w1 := ((Below.refl _ _).alloc (Nat.le_refl _) _).trans (hb1.mono (by simp)))
  have HCW : Hid (∀ x : In (Below w1.heap.size w1), Calls Tryz.prog 22 #[.agg #[.int .i64 op1, .int .i64 n1, .string nm1, .slice a1 len1 cap1]] x.x (PostSt A x.x)) := Lib.hid (fun x => HC.out _ (hB1.trans (x.h.mono hB1.size)))
  have HX : Hid (∀ (x : In (Below w1.heap.size w1)) (y : World), Below x.x.heap.size x.x y → Below w1.heap.size w1 y) := Lib.hid (fun x y hb => x.h.trans (hb.mono x.h.size))
  have k2 : ∀ x : In (Below w1.heap.size w1), x.x.cell? ⟨w.heap.size, 2, none⟩ = some (.string nm) := fun x => (x.h.cell (p := ⟨w.heap.size, 2, none⟩) (block_lt_of_cell b2)).trans b2
  have k3 : ∀ x : In (Below w1.heap.size w1), x.x.cell? ⟨w.heap.size, 3, none⟩ = some (.slice (some ⟨g, 0, none⟩) 1 cap) := fun x => (x.h.cell (p := ⟨w.heap.size, 3, none⟩) (block_lt_of_cell b3)).trans b3
  have e0 : ∀ x : In (Below w1.heap.size w1), x.x.cell? ⟨g, 0, none⟩ = some (.int .i64 op1) := fun x => ((hB1.trans (x.h.mono hB1.size)).cell (p := ⟨g, 0, none⟩) hw).trans c0
  have e1 : ∀ x : In (Below w1.heap.size w1), x.x.cell? ⟨g, 1, none⟩ = some (.int .i64 n1) := fun x => ((hB1.trans (x.h.mono hB1.size)).cell (p := ⟨g, 1, none⟩) hw).trans c1
  have e2 : ∀ x : In (Below w1.heap.size w1), x.x.cell? ⟨g, 2, none⟩ = some (.string nm1) := fun x => ((hB1.trans (x.h.mono hB1.size)).cell (p := ⟨g, 2, none⟩) hw).trans c2
  have e3 : ∀ x : In (Below w1.heap.size w1), x.x.cell? ⟨g, 3, none⟩ = some (.slice a1 len1 cap1) := fun x => ((hB1.trans (x.h.mono hB1.size)).cell (p := ⟨g, 3, none⟩) hw).trans c3
  have HB1 := Lib.hid hB1
  clear c0 c1 c2 c3 b0 b1 b2 b3 hB1 hb1
  haveI : Nonempty (In (Below w1.heap.size w1)) := ⟨⟨w1, Below.refl _ _⟩⟩
  refine wp_region_class (I := In (Below w1.heap.size w1)) (fun x => x.x) (by kernel_rfl) (by kernel_rfl) ⟨⟨_, (Below.refl _ _).drew⟩, rfl⟩ ?_
  repeat (go_big_quiet_step (first
    | (go_at_call 22; (with_reducible refine (HCW.out _).mono ?_); rintro e w2 ⟨rfl, hb2⟩; exact ⟨rfl, ⟨_, HX.out _ _ hb2⟩, rfl⟩)))
  refine wpQuiet_nil ?_
  rintro _ ⟨x, rfl⟩
  have hx := x.h
  go_wp2_with fail
  go_ret
  rw [HP.out]
  exact ⟨rfl, HB1.out.trans (hx.mono HB1.out.size)⟩

set_option maxHeartbeats 4000000 in
set_option maxRecDepth 100000 in
theorem rxUna_any (w : World) (op n : Int) (nm : ByteArray) (g cap : Nat) (op1 n1 : Int) (nm1 : ByteArray) (a1 : Option Addr) (len1 cap1 : Nat) (s : Tok.Bs) (hs : s.length ≤ 100000) (ho : op = 4 ∨ op = 5) (ho1 : 0 ≤ op1) (ho2 : op1 ≤ 1000)
    (c0 : w.cell? ⟨g, 0, none⟩ = some (.int .i64 op1)) (c1 : w.cell? ⟨g, 1, none⟩ = some (.int .i64 n1)) (c2 : w.cell? ⟨g, 2, none⟩ = some (.string nm1)) (c3 : w.cell? ⟨g, 3, none⟩ = some (.slice a1 len1 cap1))
    (C : ∀ W, Below w.heap.size w W → Calls Tryz.prog 22 #[.agg #[.int .i64 op1, .int .i64 n1, .string nm1, .slice a1 len1 cap1]] W (PostSt ⟨s.toArray⟩ W)) :
    Calls Tryz.prog 22 #[.agg #[.int .i64 op, .int .i64 n, .string nm, .slice (some ⟨g, 0, none⟩) 1 cap]] w (PostSt ⟨((sgn op).1 ++ parT 6 (op1, s)).toArray⟩ w) := by
  have hpl := parT_len 6 (op1, s)
  have HC := Lib.hid (fun W hb => put_any W op1 n1 nm1 a1 len1 cap1 6 s ho1 ho2 (by omega) hs (fun W2 hb2 => C W2 (Below.trans (B := w.heap.size) hb (hb2.mono hb.size))))
  obtain ⟨q, hq⟩ : ∃ q, q = parT 6 (op1, s) := ⟨_, rfl⟩
  rw [← hq] at hpl HC ⊢
  have hsz := bytes_size q
  have hbk := bytes_back q
  obtain ⟨A, hA⟩ : ∃ A : ByteArray, A = ⟨q.toArray⟩ := ⟨_, rfl⟩
  rw [← hA] at HC hsz hbk
  have hAs : A.size ≤ 100002 := by simp only at hpl; omega
  have hsl := sgn_len op
  obtain ⟨sg, hsg⟩ : ∃ sg, sgn op = (sg, 6) := by
    rcases ho with rfl | rfl
    · exact ⟨_, rfl⟩
    · exact ⟨_, rfl⟩
  have HS := Lib.hid (fun w => sgn_val hsg (by omega) (by omega) w)
  rw [hsg] at hsl ⊢
  have hgz := bytes_size sg
  have HP := Lib.hid (show (⟨(sg ++ q).toArray⟩ : ByteArray) = ⟨sg.toArray⟩ ++ A by
    refine (bytes_of ?_).symm
    rw [app_data, hbk])
  obtain ⟨G, hG⟩ : ∃ G : ByteArray, G = ⟨sg.toArray⟩ := ⟨_, rfl⟩
  rw [← hG] at HS HP hgz
  have hGs : G.size ≤ 2 := by simp only at hsl; omega
  have hw := block_lt_of_cell c0
  have o1 : ¬ op = 1 := by omega
  have o2 : ¬ op = 2 := by omega
  have o3 : ¬ op = 3 := by omega
  clear hA hsz hbk C hq hG hgz hsg hsl hpl ho
  show Calls _ _ _ _ (PostSt ⟨(sg ++ q).toArray⟩ w)
  rw [HP.out]
  go_enter Tryz.func22, Tryz.ntmps22
  go_wp2_with (first
    | (go_at_call 52; refine (HS.out _).mono ?_; rintro e w1 ⟨rfl, hb1⟩; obtain ⟨b0, b1, b2, b3, _, _, _, _⟩ := Box4.below (Box4.new w (.int .i64 op) (.int .i64 n) (.string nm) (.slice (some ⟨g, 0, none⟩) 1 cap) 41) hb1; have hB1 : Below w.heap.size w w1 := ((Below.refl _ _).alloc (Nat.le_refl _) _).trans (hb1.mono (by simp)); have e0 := (hB1.cell (p := ⟨g, 0, none⟩) hw).trans c0; have e1 := (hB1.cell (p := ⟨g, 1, none⟩) hw).trans c1; have e2 := (hB1.cell (p := ⟨g, 2, none⟩) hw).trans c2; have e3 := (hB1.cell (p := ⟨g, 3, none⟩) hw).trans c3)
    | (go_at_call 54; refine (HC.out _ hB1).mono ?_; rintro e w2 ⟨rfl, hb2⟩))
  go_ret
  exact ⟨rfl, hB1.trans (hb2.mono hB1.size)⟩

set_option maxHeartbeats 8000000 in
set_option maxRecDepth 100000 in
theorem rxBin_any (w : World) (op n : Int) (nm : ByteArray) (g cap : Nat) (op1 n1 : Int) (nm1 : ByteArray) (a1 : Option Addr) (len1 cap1 : Nat) (op2 n2 : Int) (nm2 : ByteArray) (a2 : Option Addr) (len2 cap2 : Nat) (s t : Tok.Bs) (hs : s.length ≤ 100000) (ht : t.length ≤ 100000)
    (ho : 6 ≤ op) (hoo : op ≤ 18) (ho1 : 0 ≤ op1) (ho2 : op1 ≤ 1000) (ho3 : 0 ≤ op2) (ho4 : op2 ≤ 1000)
    (c0 : w.cell? ⟨g, 0, none⟩ = some (.int .i64 op1)) (c1 : w.cell? ⟨g, 1, none⟩ = some (.int .i64 n1)) (c2 : w.cell? ⟨g, 2, none⟩ = some (.string nm1)) (c3 : w.cell? ⟨g, 3, none⟩ = some (.slice a1 len1 cap1))
    (d0 : w.cell? ⟨g, 4, none⟩ = some (.int .i64 op2)) (d1 : w.cell? ⟨g, 5, none⟩ = some (.int .i64 n2)) (d2 : w.cell? ⟨g, 6, none⟩ = some (.string nm2)) (d3 : w.cell? ⟨g, 7, none⟩ = some (.slice a2 len2 cap2))
    (C : ∀ W, Below w.heap.size w W → Calls Tryz.prog 22 #[.agg #[.int .i64 op1, .int .i64 n1, .string nm1, .slice a1 len1 cap1]] W (PostSt ⟨s.toArray⟩ W))
    (D : ∀ W, Below w.heap.size w W → Calls Tryz.prog 22 #[.agg #[.int .i64 op2, .int .i64 n2, .string nm2, .slice a2 len2 cap2]] W (PostSt ⟨t.toArray⟩ W)) :
    Calls Tryz.prog 22 #[.agg #[.int .i64 op, .int .i64 n, .string nm, .slice (some ⟨g, 0, none⟩) 2 cap]] w (PostSt ⟨(parT (leftLv op) (op1, s) ++ [32] ++ (sgn op).1 ++ [32] ++ parT ((sgn op).2 + 1) (op2, t)).toArray⟩ w) := by
  have hsl := sgn_len op
  have hlv : (sgn op).2 < 6 := by
    rcases (show op = 6 ∨ op = 7 ∨ op = 8 ∨ op = 9 ∨ op = 10 ∨ op = 11 ∨ op = 12 ∨ op = 13 ∨ op = 14 ∨ op = 15 ∨ op = 16 ∨ op = 17 ∨ op = 18 by omega) with rfl | rfl | rfl | rfl | rfl | rfl | rfl | rfl | rfl | rfl | rfl | rfl | rfl <;> decide
  obtain ⟨⟨sg, lv⟩, hsg⟩ : ∃ p, sgn op = p := ⟨_, rfl⟩
  have HS := Lib.hid (fun w => sgn_val hsg (by omega) (by omega) w)
  have hll : leftLv op = if lv = 3 then 4 else lv := by unfold leftLv; rw [hsg]
  rw [hsg] at hsl hlv ⊢
  simp only at hsl hlv ⊢
  obtain ⟨ll, hle⟩ : ∃ ll, ll = leftLv op := ⟨_, rfl⟩
  rw [← hle] at hll ⊢
  have hl6 : ll < 6 := by rw [hll]; split <;> omega
  have hp1 := parT_len ll (op1, s)
  have hp2 := parT_len (lv + 1) (op2, t)
  have HC0 := fun (z : Int) (hz : z = ll) W hb => put_at z ll hz W op1 n1 nm1 a1 len1 cap1 s ho1 ho2 (by omega) hs (fun W2 hb2 => C W2 (Below.trans (B := w.heap.size) hb (hb2.mono hb.size)))
  have HD0 := fun (z : Int) (hz : z = ((lv + 1 : Nat) : Int)) W hb => (put_at z (lv + 1) hz W op2 n2 nm2 a2 len2 cap2 t ho3 ho4 (by omega) ht (fun W2 hb2 => D W2 (Below.trans (B := w.heap.size) hb (hb2.mono hb.size))))
  obtain ⟨p, hp⟩ : ∃ p, p = parT ll (op1, s) := ⟨_, rfl⟩
  obtain ⟨q, hq⟩ : ∃ q, q = parT (lv + 1) (op2, t) := ⟨_, rfl⟩
  rw [← hp] at hp1 HC0 ⊢
  rw [← hq] at hp2 HD0 ⊢
  have hsz := bytes_size p
  have hsy := bytes_size q
  have hgz := bytes_size sg
  have HP := Lib.hid (show (⟨(p ++ [32] ++ sg ++ [32] ++ q).toArray⟩ : ByteArray) = (((⟨p.toArray⟩ ++ ⟨#[32]⟩) ++ ⟨sg.toArray⟩) ++ ⟨#[32]⟩) ++ ⟨q.toArray⟩ by
    refine (bytes_of ?_).symm
    rw [app_data, app_data, app_data, app_data])
  obtain ⟨A, hA⟩ : ∃ A : ByteArray, A = ⟨p.toArray⟩ := ⟨_, rfl⟩
  obtain ⟨B, hB⟩ : ∃ B : ByteArray, B = ⟨q.toArray⟩ := ⟨_, rfl⟩
  obtain ⟨G, hG⟩ : ∃ G : ByteArray, G = ⟨sg.toArray⟩ := ⟨_, rfl⟩
  rw [← hA] at HC0 hsz HP
  rw [← hB] at HD0 hsy HP
  rw [← hG] at HS hgz HP
  have hAs : A.size ≤ 100002 := by simp only at hp1; omega
  have hBs : B.size ≤ 100002 := by simp only at hp2; omega
  have hGs : G.size ≤ 2 := by omega
  have hw := block_lt_of_cell c0
  have o1 : ¬ op = 1 := by omega
  have o2 : ¬ op = 2 := by omega
  have o3 : ¬ op = 3 := by omega
  have l6 : ¬ (lv : Int) = 6 := by omega
  have l6' : (lv : Int) < 6 := by omega
  have hlw : IntKind.i64.wrap ((lv : Int) + 1) = (lv : Int) + 1 := IntWalk.i64_in _ (by omega)
  rw [HP.out]
  obtain ⟨z, z2, hz, hz2, hzl⟩ : ∃ z z2 : Int, z = ll ∧ z2 = ((lv + 1 : Nat) : Int) ∧ (((lv : Int) = 3 ∧ z = 4 ∧ z2 = 4) ∨ (¬ (lv : Int) = 3 ∧ z = lv ∧ z2 = (lv : Int) + 1)) := by
    by_cases h3 : lv = 3
    · exact ⟨4, 4, by rw [hll, if_pos h3]; rfl, by omega, .inl ⟨by omega, rfl, rfl⟩⟩
    · exact ⟨lv, (lv : Int) + 1, by rw [hll, if_neg h3], by omega, .inr ⟨by omega, rfl, rfl⟩⟩
  have HC := Lib.hid (HC0 z hz)
  have HD := Lib.hid (HD0 z2 hz2)
  clear hA hB hG hsz hsy hgz C D hp hq hsg hsl hp1 hp2 hll hle HC0 hz HD0 hz2
  rcases hzl with ⟨h3, rfl, rfl⟩ | ⟨h3, rfl, rfl⟩
  all_goals
    go_enter Tryz.func22, Tryz.ntmps22
    go_wp2_with (go_at_call 52; refine (HS.out _).mono ?_; rintro e w1 ⟨rfl, hb1⟩; obtain ⟨b0, b1, b2, b3, _, _, _, _⟩ := Box4.below (Box4.new w (.int .i64 op) (.int .i64 n) (.string nm) (.slice (some ⟨g, 0, none⟩) 2 cap) 41) hb1; have hB1 : Below w.heap.size w w1 := ((Below.refl _ _).alloc (Nat.le_refl _) _).trans (hb1.mono (by simp)))
    have HCW : Hid (∀ x : In (Below w1.heap.size w1), _) := Lib.hid (fun x => HC.out _ (hB1.trans (x.h.mono hB1.size)))
    have HDW : Hid (∀ x : In (Below w1.heap.size w1), _) := Lib.hid (fun x => HD.out _ (hB1.trans (x.h.mono hB1.size)))
    have HX : Hid (∀ (x : In (Below w1.heap.size w1)) (y : World), Below x.x.heap.size x.x y → Below w1.heap.size w1 y) := Lib.hid (fun x y hb => x.h.trans (hb.mono x.h.size))
    have k3 : ∀ x : In (Below w1.heap.size w1), x.x.cell? ⟨w.heap.size, 3, none⟩ = some (.slice (some ⟨g, 0, none⟩) 2 cap) := fun x => (x.h.cell (p := ⟨w.heap.size, 3, none⟩) (block_lt_of_cell b3)).trans b3
    have e0 : ∀ x : In (Below w1.heap.size w1), x.x.cell? ⟨g, 0, none⟩ = some (.int .i64 op1) := fun x => ((hB1.trans (x.h.mono hB1.size)).cell (p := ⟨g, 0, none⟩) hw).trans c0
    have e1 : ∀ x : In (Below w1.heap.size w1), x.x.cell? ⟨g, 1, none⟩ = some (.int .i64 n1) := fun x => ((hB1.trans (x.h.mono hB1.size)).cell (p := ⟨g, 1, none⟩) hw).trans c1
    have e2 : ∀ x : In (Below w1.heap.size w1), x.x.cell? ⟨g, 2, none⟩ = some (.string nm1) := fun x => ((hB1.trans (x.h.mono hB1.size)).cell (p := ⟨g, 2, none⟩) hw).trans c2
    have e3 : ∀ x : In (Below w1.heap.size w1), x.x.cell? ⟨g, 3, none⟩ = some (.slice a1 len1 cap1) := fun x => ((hB1.trans (x.h.mono hB1.size)).cell (p := ⟨g, 3, none⟩) hw).trans c3
    have f0 : ∀ x : In (Below w1.heap.size w1), x.x.cell? ⟨g, 4, none⟩ = some (.int .i64 op2) := fun x => ((hB1.trans (x.h.mono hB1.size)).cell (p := ⟨g, 4, none⟩) hw).trans d0
    have f1 : ∀ x : In (Below w1.heap.size w1), x.x.cell? ⟨g, 5, none⟩ = some (.int .i64 n2) := fun x => ((hB1.trans (x.h.mono hB1.size)).cell (p := ⟨g, 5, none⟩) hw).trans d1
    have f2 : ∀ x : In (Below w1.heap.size w1), x.x.cell? ⟨g, 6, none⟩ = some (.string nm2) := fun x => ((hB1.trans (x.h.mono hB1.size)).cell (p := ⟨g, 6, none⟩) hw).trans d2
    have f3 : ∀ x : In (Below w1.heap.size w1), x.x.cell? ⟨g, 7, none⟩ = some (.slice a2 len2 cap2) := fun x => ((hB1.trans (x.h.mono hB1.size)).cell (p := ⟨g, 7, none⟩) hw).trans d3
    have HB1 := Lib.hid hB1
    clear c0 c1 c2 c3 d0 d1 d2 d3 b0 b1 b2 b3 hB1 hb1
    haveI : Nonempty (In (Below w1.heap.size w1)) := ⟨⟨w1, Below.refl _ _⟩⟩
    try simp only [List.append]
    refine wp_region_class (I := In (Below w1.heap.size w1)) (fun x => x.x) (by kernel_rfl) (by kernel_rfl) ⟨⟨_, (Below.refl _ _).drew⟩, rfl⟩ ?_
    repeat (go_big_quiet_step (first
      | (go_at_call 54; (with_reducible refine (HCW.out _).mono ?_); rintro e w2 ⟨rfl, hb2⟩; exact ⟨rfl, ⟨_, HX.out _ _ hb2⟩, rfl⟩)
      | (go_at_call 54; (with_reducible refine (HDW.out _).mono ?_); rintro e w2 ⟨rfl, hb2⟩; exact ⟨rfl, ⟨_, HX.out _ _ hb2⟩, rfl⟩)))
    refine wpQuiet_nil ?_
    rintro _ ⟨x, rfl⟩
    have hx := x.h
    go_wp2_with fail
    go_ret
    exact ⟨rfl, HB1.out.trans (hx.mono HB1.out.size)⟩
end Go.Proofs.YthgicmdaenkjbaaGreatDoor

namespace Go.Proofs.YthgicmdaenkjbaaGreatDoor
open Go.RowKit
open Par

namespace Par
open Tok (T Bs)
theorem rdE_op {w : World} {S : Nat → Prop} {e : E} {op n : Int} {nm : ByteArray} {a : Option Addr} {len cap : Nat} (h : RdE w S e (.agg #[.int .i64 op, .int .i64 n, .string nm, .slice a len cap])) : e.op = op := by
  obtain ⟨op', n', nm', l⟩ := e
  obtain ⟨a', cap', hv, _⟩ := h
  injection hv with hv
  simp at hv
  exact hv.1.symm
theorem fit_op {e : E} (h : Fit e) : 1 ≤ e.op ∧ e.op ≤ 18 := by
  obtain ⟨op', n', nm', l⟩ := e
  exact ⟨h.1.lo, h.1.hi⟩
theorem bnd_pos (e : E) : 40 ≤ bnd e := by
  obtain ⟨op', n', nm', l⟩ := e
  simp only [bnd]
  omega
end Par

set_option maxHeartbeats 1000000 in
theorem rx_all (S : Nat → Prop) : ∀ (N : Nat) (x : E) (w : World) (op n : Int) (nm : ByteArray) (a : Option Addr) (len cap : Nat), bnd x ≤ N → Fit x → bnd x ≤ 50000 → TabN w →
    RdE w S x (.agg #[.int .i64 op, .int .i64 n, .string nm, .slice a len cap]) →
    Calls Tryz.prog 22 #[.agg #[.int .i64 op, .int .i64 n, .string nm, .slice a len cap]] w (PostSt ⟨(tx x).toArray⟩ w)
  | 0, x, _, _, _, _, _, _, _, hN, _, _, _, _ => by
    have := bnd_pos x
    omega
  | N + 1, .mk op' n' nm' l, w, op, n, nm, a, len, cap, hN, hf, hB, ht, hr => by
    obtain ⟨a', cap', hv, hl⟩ := hr
    injection hv with hv
    simp at hv
    obtain ⟨rfl, rfl, rfl, rfl, rfl, rfl⟩ := hv
    simp only [bnd] at hN hB
    have hn0 := hf.1.n0
    have hn1 := hf.1.n1
    have hnm : nm.size ≤ 64 := by
      by_cases h : op = 2 ∨ op = 3
      · exact (hf.1.name h).2
      · rw [hf.1.bare h]
        decide
    rcases fit_list hf with ⟨rfl, rfl, rfl⟩ | ⟨rfl, rfl, rfl⟩ | ⟨e, rfl, rfl, rfl, he⟩ | ⟨e, ho, rfl, rfl, rfl, he⟩ | ⟨x, y, h1, h2, rfl, rfl, rfl, hx, hy⟩
    · exact rxNum_any w n a cap hn0 hn1 ht
    · exact rxName_any w 0 nm a 0 cap
    · obtain ⟨g, rfl, _, ⟨⟨v0, v1, v2, v3, c0, c1, c2, c3, her⟩, _⟩⟩ := hl.resolve_left (by simp)
      obtain ⟨op1, n1, nm1, a1, len1, cap1, rfl, rfl, rfl, rfl⟩ := her.shape
      simp only [bndL] at hN hB
      have h8 := tx_len _ e (Nat.le_refl _) he
      exact rxIndex_any w 0 nm g cap op1 n1 nm1 a1 len1 cap1 (tx e) (by omega) (by omega) c0 c1 c2 c3 (fun W hb => rx_all S N e W op1 n1 nm1 a1 len1 cap1 (by omega) he (by omega) (ht.below hb) (her.below hb))
    · obtain ⟨g, rfl, _, ⟨⟨v0, v1, v2, v3, c0, c1, c2, c3, her⟩, _⟩⟩ := hl.resolve_left (by simp)
      obtain ⟨op1, n1, nm1, a1, len1, cap1, rfl, rfl, rfl, rfl⟩ := her.shape
      simp only [bndL] at hN hB
      have h8 := tx_len _ e (Nat.le_refl _) he
      have h9 := fit_op he
      have h10 := rdE_op her
      have key := rxUna_any w op 0 ⟨#[]⟩ g cap op1 n1 nm1 a1 len1 cap1 (tx e) (by omega) ho (by omega) (by omega) c0 c1 c2 c3 (fun W hb => rx_all S N e W op1 n1 nm1 a1 len1 cap1 (by omega) he (by omega) (ht.below hb) (her.below hb))
      have htx : tx (.mk op 0 ⟨#[]⟩ [e]) = (sgn op).1 ++ parT 6 (op1, tx e) := by
        simp only [tx, txL, bodyT, if_neg (show ¬ op = 1 by omega), if_neg (show ¬ op = 2 by omega), if_neg (show ¬ op = 3 by omega), h10]
      rw [htx]
      exact key
    · obtain ⟨g, rfl, _, ⟨⟨v0, v1, v2, v3, c0, c1, c2, c3, hxr⟩, ⟨⟨u0, u1, u2, u3, d0, d1, d2, d3, hyr⟩, _⟩⟩⟩ := hl.resolve_left (by simp)
      obtain ⟨op1, n1, nm1, a1, len1, cap1, rfl, rfl, rfl, rfl⟩ := hxr.shape
      obtain ⟨op2, n2, nm2, a2, len2, cap2, rfl, rfl, rfl, rfl⟩ := hyr.shape
      simp only [bndL] at hN hB
      have h8 := tx_len _ x (Nat.le_refl _) hx
      have h8' := tx_len _ y (Nat.le_refl _) hy
      have h9 := fit_op hx
      have h9' := fit_op hy
      have h10 := rdE_op hxr
      have h10' := rdE_op hyr
      have px := bnd_pos x
      have py := bnd_pos y
      have key := rxBin_any w op 0 ⟨#[]⟩ g cap op1 n1 nm1 a1 len1 cap1 op2 n2 nm2 a2 len2 cap2 (tx x) (tx y) (by omega) (by omega) h1 h2 (by omega) (by omega) (by omega) (by omega) c0 c1 c2 c3 d0 d1 d2 d3
        (fun W hb => rx_all S N x W op1 n1 nm1 a1 len1 cap1 (by omega) hx (by omega) (ht.below hb) (hxr.below hb))
        (fun W hb => rx_all S N y W op2 n2 nm2 a2 len2 cap2 (by omega) hy (by omega) (ht.below hb) (hyr.below hb))
      have htx : tx (.mk op 0 ⟨#[]⟩ [x, y]) = parT (leftLv op) (op1, tx x) ++ [32] ++ (sgn op).1 ++ [32] ++ parT ((sgn op).2 + 1) (op2, tx y) := by
        simp only [tx, txL, bodyT, if_neg (show ¬ op = 1 by omega), if_neg (show ¬ op = 2 by omega), h10, h10']
      rw [htx]
      exact key
end Go.Proofs.YthgicmdaenkjbaaGreatDoor
