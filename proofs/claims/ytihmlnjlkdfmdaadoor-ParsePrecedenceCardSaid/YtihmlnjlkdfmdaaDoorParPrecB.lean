/-
  The walk of ParsePrecedence.
-/
import Derived.Test.YtihmlnjlkdfmdaaDoorParPrecA
namespace Go.Proofs.YtihmlnjlkdfmdaaDoor
open Go.RowKit
open Par

namespace Par
open Tok (T Bs)
theorem text_data (s t : Bs) : ((((⟨#[97, 32]⟩ : ByteArray) ++ ⟨s.toArray⟩) ++ ⟨#[32, 98, 32]⟩) ++ ⟨t.toArray⟩ ++ ⟨#[32, 99]⟩).data.toList = precText s t := by
  simp [precText]
theorem rdE_name {w : World} {S : Nat → Prop} {c : UInt8} : RdE w S (nameE c) (.agg #[.int .i64 2, .int .i64 0, .string ⟨#[c]⟩, .slice none 0 0]) := ⟨_, _, rfl, .inl rfl⟩
end Par

set_option maxHeartbeats 4000000 in
set_option maxRecDepth 100000 in
theorem prec_core (m n : Int) (s t : ByteArray) (op oq x y : Int) (w : World) (hv : Two w) (hs : s.size ≤ 2) (ht : t.size ≤ 2)
    (CM : Hid (∀ w, Calls Tryd.prog 4 #[.int .u8 m] w fun e w' => e = .returned (.tuple #[.string s, .int .i64 op, .int .i64 x]) ∧ w = w'))
    (CN : Hid (∀ w, Calls Tryd.prog 4 #[.int .u8 n] w fun e w' => e = .returned (.tuple #[.string t, .int .i64 oq, .int .i64 y]) ∧ w = w'))
    (CX : Hid (∀ w, Two w → Calls Tryd.prog 5 #[.string ((((⟨#[97, 32]⟩ : ByteArray) ++ s) ++ ⟨#[32, 98, 32]⟩) ++ t ++ ⟨#[32, 99]⟩)] w fun e w' => ∃ op1 n1 nm1 a1 len1 cap1, e = .returned (.tuple #[.agg #[.int .i64 op1, .int .i64 n1, .string nm1, .slice a1 len1 cap1], .int .i64 0, .int .i64 0]) ∧ Below w.heap.size w w' ∧
      RdE w' (From w.heap.size) (precWant op oq (decide (x < y))) (.agg #[.int .i64 op1, .int .i64 n1, .string nm1, .slice a1 len1 cap1]))) :
    Calls Tryd.prog 3 #[.int .u8 m, .int .u8 n] w fun e w' => e = .returned (.bool true) ∧ Below w.heap.size w w' := by
  by_cases hxy : x < y
  · have hd := Lib.hid (show precWant op oq (decide (x < y)) = binary op (nameE 97) (binary oq (nameE 98) (nameE 99)) by simp [precWant, hxy])
    have hok := Lib.hid (prec_ok op oq (decide (x < y)))
    go_enter Tryd.func3, Tryd.ntmps3
    go_wp2_with (first
      | (go_at_call 4; (with_reducible refine (CM.out _).mono ?_); rintro e w' ⟨rfl, rfl⟩)
      | (go_at_call 4; (with_reducible refine (CN.out _).mono ?_); rintro e w' ⟨rfl, rfl⟩)
      | (go_at_call 5; refine (CX.out _ hv).mono ?_; rintro e w1 ⟨op1, n1, nm1, a1, len1, cap1, rfl, hb1, hr1⟩))
    refine (same_any (From w.heap.size) (fun _ => True) 10 (precWant op oq (decide (x < y))) _ _ _ hok.out.2 hok.out.1 (hr1.below ?_) ?_).mono ?_
    · repeat' (first | exact Below.refl _ _ | apply Below.alloc | (simp; done) | (simp; omega))
    · rw [hd.out]
      exact rdE_two trivial (by simp [go_sem]) (by simp [go_sem]) (by simp [go_sem]) (by simp [go_sem]) (by simp [go_sem]) (by simp [go_sem]) (by simp [go_sem]) (by simp [go_sem]) rdE_name (rdE_two (g := w1.heap.size + 1 + 1 + 1 + 1 + 1 + 1 + 1) (cap := 2) trivial (by simp [go_sem]) (by simp [go_sem]) (by simp [go_sem]) (by simp [go_sem]) (by simp [go_sem]) (by simp [go_sem]) (by simp [go_sem]) (by simp [go_sem]) rdE_name rdE_name)
    · rintro e w2 ⟨rfl, hb2⟩
      go_wp2_with fail
      go_ret
      refine ⟨rfl, hb1.trans (Below.trans (B := w.heap.size) (Below.mono (B := w1.heap.size) ?_ hb1.size) (hb2.mono ?_))⟩
      · repeat' (first | exact Below.refl _ _ | apply Below.alloc | (simp; done) | (simp; omega))
      · simp; have := hb1.size; omega
  · have hd := Lib.hid (show precWant op oq (decide (x < y)) = binary oq (binary op (nameE 97) (nameE 98)) (nameE 99) by simp [precWant, hxy])
    have hok := Lib.hid (prec_ok op oq (decide (x < y)))
    go_enter Tryd.func3, Tryd.ntmps3
    go_wp2_with (first
      | (go_at_call 4; (with_reducible refine (CM.out _).mono ?_); rintro e w' ⟨rfl, rfl⟩)
      | (go_at_call 4; (with_reducible refine (CN.out _).mono ?_); rintro e w' ⟨rfl, rfl⟩)
      | (go_at_call 5; refine (CX.out _ hv).mono ?_; rintro e w1 ⟨op1, n1, nm1, a1, len1, cap1, rfl, hb1, hr1⟩))
    refine (same_any (From w.heap.size) (fun _ => True) 10 (precWant op oq (decide (x < y))) _ _ _ hok.out.2 hok.out.1 (hr1.below ?_) ?_).mono ?_
    · repeat' (first | exact Below.refl _ _ | apply Below.alloc | (simp; done) | (simp; omega))
    · rw [hd.out]
      exact rdE_two trivial (by simp [go_sem]) (by simp [go_sem]) (by simp [go_sem]) (by simp [go_sem]) (by simp [go_sem]) (by simp [go_sem]) (by simp [go_sem]) (by simp [go_sem]) (rdE_two (g := w1.heap.size + 1 + 1 + 1 + 1) (cap := 2) trivial (by simp [go_sem]) (by simp [go_sem]) (by simp [go_sem]) (by simp [go_sem]) (by simp [go_sem]) (by simp [go_sem]) (by simp [go_sem]) (by simp [go_sem]) rdE_name rdE_name) rdE_name
    · rintro e w2 ⟨rfl, hb2⟩
      go_wp2_with fail
      go_ret
      refine ⟨rfl, hb1.trans (Below.trans (B := w.heap.size) (Below.mono (B := w1.heap.size) ?_ hb1.size) (hb2.mono ?_))⟩
      · repeat' (first | exact Below.refl _ _ | apply Below.alloc | (simp; done) | (simp; omega))
      · simp; have := hb1.size; omega

theorem parsePrecedence_any (n0 n1 : Nat) (w : World) (hv : Two w) (h0 : n0 ≤ 255) (h1 : n1 ≤ 255) :
    Calls Tryd.prog 3 #[.int .u8 n0, .int .u8 n1] w fun e w' => e = .returned (.bool true) ∧ Below w.heap.size w w' := by
  have hsz : ∀ k, (⟨(sg k).1.toArray⟩ : ByteArray).size ≤ 2 := by
    intro k
    match k with
    | 0 | 1 | 2 | 3 | 4 => decide
    | _ + 5 => exact (by decide : (⟨#[37]⟩ : ByteArray).size ≤ 2)
  have hx := prec_out (n0 % 6) (n1 % 6) (Nat.mod_lt _ (by decide)) (Nat.mod_lt _ (by decide))
  refine prec_core n0 n1 ⟨(sg (n0 % 6)).1.toArray⟩ ⟨(sg (n1 % 6)).1.toArray⟩ (sg (n0 % 6)).2.1 (sg (n1 % 6)).2.1 (sg (n0 % 6)).2.2 (sg (n1 % 6)).2.2 w hv (hsz _) (hsz _)
    (Lib.hid fun w => sign_any n0 w h0) (Lib.hid fun w => sign_any n1 w h1) (Lib.hid fun w hw => ?_)
  refine (expr_any _ w hw ?_).mono ?_
  · have a0 := hsz (n0 % 6)
    have a1 := hsz (n1 % 6)
    unfold maxLen
    simp only [ByteArray.size_append]
    have b0 : (⟨#[97, 32]⟩ : ByteArray).size = 2 := rfl
    have b1 : (⟨#[32, 98, 32]⟩ : ByteArray).size = 3 := rfl
    have b2 : (⟨#[32, 99]⟩ : ByteArray).size = 2 := rfl
    omega
  · rintro e w' ⟨op1, m1, nm1, a1, len1, cap1, he, hb, hr⟩
    rw [text_data, hx] at he hr
    exact ⟨op1, m1, nm1, a1, len1, cap1, he, hb, hr⟩
end Go.Proofs.YtihmlnjlkdfmdaaDoor
