/-
  Contracts of product, sum, comparison, and, expr of package parse, each on the one below it.
-/
import Derived.Test.YteekcepbogndlaaGreatDoorParE
namespace Go.Proofs.YteekcepbogndlaaGreatDoor
open Go.RowKit
open Par

namespace Par
open Tok (T Bs)
/-- The result's block is written last; nothing else turns by it. -/
theorem fin_store {P : Nat} {all : List T} {st : St} {w w1 : World} {n : Nat} {v : Value} {o : Option E} (u0 u1 u2 u3 : Value) (hk : Kept P w w1) (hP : P < w.heap.size) (hi : Is w1 P all st) (hn : w.heap.size < n)
    (hv : ∀ x, o = some x → RdE w1 (From n) x v) {W : World} (hW : W = (((w1.setCell ⟨w.heap.size, 0, none⟩ u0).setCell ⟨w.heap.size, 1, none⟩ u1).setCell ⟨w.heap.size, 2, none⟩ u2).setCell ⟨w.heap.size, 3, none⟩ u3) :
    Kept P w W ∧ Is W P all st ∧ ∀ x, o = some x → RdE W (From w.heap.size) x v := by
  subst hW
  refine ⟨(((hk.setNew (p := ⟨w.heap.size, 0, none⟩) (Nat.le_refl _) _).setNew (p := ⟨w.heap.size, 1, none⟩) (Nat.le_refl _) _).setNew (p := ⟨w.heap.size, 2, none⟩) (Nat.le_refl _) _).setNew (p := ⟨w.heap.size, 3, none⟩) (Nat.le_refl _) _,
    hi.past (((((Below.refl _ _).setCell (p := ⟨w.heap.size, 0, none⟩) hP _).setCell (p := ⟨w.heap.size, 1, none⟩) hP _).setCell (p := ⟨w.heap.size, 2, none⟩) hP _).setCell (p := ⟨w.heap.size, 3, none⟩) hP _), fun x hx => ?_⟩
  refine RdE.turn (fun g oo u hg hc => ⟨(World.cell?_of_block ?_).trans hc, by have : n ≤ g := hg; exact (show w.heap.size ≤ g by omega)⟩) _ _ (hv x hx)
  have hne : g ≠ w.heap.size := by have : n ≤ g := hg; omega
  rw [Below.heap_setCell _ _ _ _ hne, Below.heap_setCell _ _ _ _ hne, Below.heap_setCell _ _ _ _ hne, Below.heap_setCell _ _ _ _ hne]
/-- A new block of strings is a slice of them. -/
theorem strs_one (w : World) (P n : Nat) (a : ByteArray) (t : TypeId) (hn : n = w.heap.size) (hP : P < n) : Strs (w.alloc (.cells #[.string a] t)) P (.slice (some ⟨n, 0, none⟩) 1 1) [a] :=
  ⟨n, 1, rfl, by omega, by simp; omega, fun j hj => by
    rw [World.cell?_alloc_at _ _ _ _ hn]
    match j, hj with
    | 0, _ => rfl⟩
theorem strs_two (w : World) (P n : Nat) (a b : ByteArray) (t : TypeId) (hn : n = w.heap.size) (hP : P < n) : Strs (w.alloc (.cells #[.string a, .string b] t)) P (.slice (some ⟨n, 0, none⟩) 2 2) [a, b] :=
  ⟨n, 2, rfl, by omega, by simp; omega, fun j hj => by
    rw [World.cell?_alloc_at _ _ _ _ hn]
    match j, hj with
    | 0, _ => rfl
    | 1, _ => rfl⟩
theorem strs_three (w : World) (P n : Nat) (a b c : ByteArray) (t : TypeId) (hn : n = w.heap.size) (hP : P < n) : Strs (w.alloc (.cells #[.string a, .string b, .string c] t)) P (.slice (some ⟨n, 0, none⟩) 3 3) [a, b, c] :=
  ⟨n, 3, rfl, by omega, by simp; omega, fun j hj => by
    rw [World.cell?_alloc_at _ _ _ _ hn]
    match j, hj with
    | 0, _ => rfl
    | 1, _ => rfl
    | 2, _ => rfl⟩
theorem strs_six (w : World) (P n : Nat) (a b c d e f : ByteArray) (t : TypeId) (hn : n = w.heap.size) (hP : P < n) : Strs (w.alloc (.cells #[.string a, .string b, .string c, .string d, .string e, .string f] t)) P (.slice (some ⟨n, 0, none⟩) 6 6) [a, b, c, d, e, f] :=
  ⟨n, 6, rfl, by omega, by simp; omega, fun j hj => by
    rw [World.cell?_alloc_at _ _ _ _ hn]
    match j, hj with
    | 0, _ => rfl
    | 1, _ => rfl
    | 2, _ => rfl
    | 3, _ => rfl
    | 4, _ => rfl
    | 5, _ => rfl⟩
theorem series_at (k : FuncId) (hk : k = 80 ∨ k = 112 ∨ k = 162 ∨ k = 179)
    {f : Pa E} {N : Nat} (hf : Lt f) (he : Er f) (hm : EM k f N) {P : Nat} {all : List Tok.T} {st : St} (hN : st.rem.length ≤ N) (ops : List (Bs × Int)) (ss : List ByteArray) (hs : signsOf ops = ss) (hg : OpsOk ops) :
    ∀ (v : Value) (w : World), Is w P all st → Strs w P v ss → Calls Tryz.prog 79 #[.pointer (some ⟨P, 0, none⟩), .func (.func k) #[] #[], v] w (PostE (series f ops) P all st w) :=
  fun v w h hv => series_any k hk f ops N hf he hm hg v w P all st h hN (hs ▸ hv)
end Par

set_option maxHeartbeats 1000000 in
set_option maxRecDepth 100000 in
theorem product_core (F : Pa E) (P : Nat) (all : List Tok.T) (st : St) (w : World) (h : Is w P all st)
    (CS : Hid (∀ (v : Value) (w : World), Is w P all st → Strs w P v [⟨#[42]⟩, ⟨#[47]⟩, ⟨#[37]⟩] → Calls Tryz.prog 79 #[.pointer (some ⟨P, 0, none⟩), .func (.func 179) #[] #[], v] w (PostE F P all st w))) :
    Calls Tryz.prog 162 #[.pointer (some ⟨P, 0, none⟩)] w (PostE F P all st w) := by
  have H := Lib.hid h
  have hP := h.lt
  clear h
  go_enter Tryz.func162, Tryz.ntmps162
  go_wp2_with (go_at_call 79; go_must (refine (CS.out _ _ ((H.out.below ((Below.refl _ _).alloc (Nat.le_refl _) _)).below ((Below.refl _ _).alloc (Nat.le_refl _) _)) (strs_three _ P _ _ _ _ _ (by simp) (by omega))).mono ?_); rintro e w1 ⟨op, n, nm, a, len, cap, rfl, hk1, hi1, hv1⟩; obtain ⟨r0, r1, r2, r3, g0, g1, g2, g3, hz, hn1, hn2⟩ := Kept.new4 (((Kept.refl P _).alloc _).trans hk1) hP)
  exact bodyPost_ret (v := .agg #[.int .i64 op, .int .i64 n, .string nm, .slice a len cap]) (by simp [results, Tryz.results162, go_sem, *]) rfl ⟨_, _, _, _, _, _, rfl, fin_store _ _ _ _ ((((Kept.refl P w).alloc _).alloc _).trans hk1) hP hi1 (by simp; omega) hv1 rfl⟩
theorem product_of (f : Pa E) (N : Nat) (hf : Lt f) (he : Er f) (hm : EM 179 f N) : EM 162 (series f mulOps) N := fun w P all st h hN =>
  product_core _ P all st w h (Lib.hid (series_at _ (.inr (.inr (.inr rfl))) hf he hm hN mulOps [⟨#[42]⟩, ⟨#[47]⟩, ⟨#[37]⟩] rfl good_mul))

set_option maxHeartbeats 1000000 in
set_option maxRecDepth 100000 in
theorem sum_core (F : Pa E) (P : Nat) (all : List Tok.T) (st : St) (w : World) (h : Is w P all st)
    (CS : Hid (∀ (v : Value) (w : World), Is w P all st → Strs w P v [⟨#[43]⟩, ⟨#[45]⟩] → Calls Tryz.prog 79 #[.pointer (some ⟨P, 0, none⟩), .func (.func 162) #[] #[], v] w (PostE F P all st w))) :
    Calls Tryz.prog 146 #[.pointer (some ⟨P, 0, none⟩)] w (PostE F P all st w) := by
  have H := Lib.hid h
  have hP := h.lt
  clear h
  go_enter Tryz.func146, Tryz.ntmps146
  go_wp2_with (go_at_call 79; go_must (refine (CS.out _ _ ((H.out.below ((Below.refl _ _).alloc (Nat.le_refl _) _)).below ((Below.refl _ _).alloc (Nat.le_refl _) _)) (strs_two _ P _ _ _ _ (by simp) (by omega))).mono ?_); rintro e w1 ⟨op, n, nm, a, len, cap, rfl, hk1, hi1, hv1⟩; obtain ⟨r0, r1, r2, r3, g0, g1, g2, g3, hz, hn1, hn2⟩ := Kept.new4 (((Kept.refl P _).alloc _).trans hk1) hP)
  exact bodyPost_ret (v := .agg #[.int .i64 op, .int .i64 n, .string nm, .slice a len cap]) (by simp [results, Tryz.results146, go_sem, *]) rfl ⟨_, _, _, _, _, _, rfl, fin_store _ _ _ _ ((((Kept.refl P w).alloc _).alloc _).trans hk1) hP hi1 (by simp; omega) hv1 rfl⟩
theorem sum_of (f : Pa E) (N : Nat) (hf : Lt f) (he : Er f) (hm : EM 162 f N) : EM 146 (series f sumOps) N := fun w P all st h hN =>
  sum_core _ P all st w h (Lib.hid (series_at _ (.inr (.inr (.inl rfl))) hf he hm hN sumOps [⟨#[43]⟩, ⟨#[45]⟩] rfl good_sum))

set_option maxHeartbeats 1000000 in
set_option maxRecDepth 100000 in
theorem and_core (F : Pa E) (P : Nat) (all : List Tok.T) (st : St) (w : World) (h : Is w P all st)
    (CS : Hid (∀ (v : Value) (w : World), Is w P all st → Strs w P v [⟨#[38, 38]⟩] → Calls Tryz.prog 79 #[.pointer (some ⟨P, 0, none⟩), .func (.func 112) #[] #[], v] w (PostE F P all st w))) :
    Calls Tryz.prog 80 #[.pointer (some ⟨P, 0, none⟩)] w (PostE F P all st w) := by
  have H := Lib.hid h
  have hP := h.lt
  clear h
  go_enter Tryz.func80, Tryz.ntmps80
  go_wp2_with (go_at_call 79; go_must (refine (CS.out _ _ ((H.out.below ((Below.refl _ _).alloc (Nat.le_refl _) _)).below ((Below.refl _ _).alloc (Nat.le_refl _) _)) (strs_one _ P _ _ _ (by simp) (by omega))).mono ?_); rintro e w1 ⟨op, n, nm, a, len, cap, rfl, hk1, hi1, hv1⟩; obtain ⟨r0, r1, r2, r3, g0, g1, g2, g3, hz, hn1, hn2⟩ := Kept.new4 (((Kept.refl P _).alloc _).trans hk1) hP)
  exact bodyPost_ret (v := .agg #[.int .i64 op, .int .i64 n, .string nm, .slice a len cap]) (by simp [results, Tryz.results80, go_sem, *]) rfl ⟨_, _, _, _, _, _, rfl, fin_store _ _ _ _ ((((Kept.refl P w).alloc _).alloc _).trans hk1) hP hi1 (by simp; omega) hv1 rfl⟩
theorem and_of (f : Pa E) (N : Nat) (hf : Lt f) (he : Er f) (hm : EM 112 f N) : EM 80 (series f andOps) N := fun w P all st h hN =>
  and_core _ P all st w h (Lib.hid (series_at _ (.inr (.inl rfl)) hf he hm hN andOps [⟨#[38, 38]⟩] rfl good_and))

set_option maxHeartbeats 1000000 in
set_option maxRecDepth 100000 in
theorem expr_core (F : Pa E) (P : Nat) (all : List Tok.T) (st : St) (w : World) (h : Is w P all st)
    (CS : Hid (∀ (v : Value) (w : World), Is w P all st → Strs w P v [⟨#[124, 124]⟩] → Calls Tryz.prog 79 #[.pointer (some ⟨P, 0, none⟩), .func (.func 80) #[] #[], v] w (PostE F P all st w))) :
    Calls Tryz.prog 40 #[.pointer (some ⟨P, 0, none⟩)] w (PostE F P all st w) := by
  have H := Lib.hid h
  have hP := h.lt
  clear h
  go_enter Tryz.func40, Tryz.ntmps40
  go_wp2_with (go_at_call 79; go_must (refine (CS.out _ _ ((H.out.below ((Below.refl _ _).alloc (Nat.le_refl _) _)).below ((Below.refl _ _).alloc (Nat.le_refl _) _)) (strs_one _ P _ _ _ (by simp) (by omega))).mono ?_); rintro e w1 ⟨op, n, nm, a, len, cap, rfl, hk1, hi1, hv1⟩; obtain ⟨r0, r1, r2, r3, g0, g1, g2, g3, hz, hn1, hn2⟩ := Kept.new4 (((Kept.refl P _).alloc _).trans hk1) hP)
  exact bodyPost_ret (v := .agg #[.int .i64 op, .int .i64 n, .string nm, .slice a len cap]) (by simp [results, Tryz.results40, go_sem, *]) rfl ⟨_, _, _, _, _, _, rfl, fin_store _ _ _ _ ((((Kept.refl P w).alloc _).alloc _).trans hk1) hP hi1 (by simp; omega) hv1 rfl⟩
theorem expr_of (f : Pa E) (N : Nat) (hf : Lt f) (he : Er f) (hm : EM 80 f N) : EM 40 (series f orOps) N := fun w P all st h hN =>
  expr_core _ P all st w h (Lib.hid (series_at _ (.inl rfl) hf he hm hN orOps [⟨#[124, 124]⟩] rfl good_or))

end Go.Proofs.YteekcepbogndlaaGreatDoor
