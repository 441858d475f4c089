/-
  SilentCycles returns true: Settle refuses a silent cycle and a jump out of the code, and accepts a jump to an event; one silent instruction is executed. A closed statement: it takes no input; no condition.
-/
import Derived.Test.YtdibfpjhmfkbkaaSlW
import Derived.Test.YtdibfpjhmfkbkaaSlHas
namespace Go.Proofs.Ytdibfpjhmfkbkaa
open Go.ChangeShapes Go.WideShapes Go.ChangeAt Go.RowKit
open Vl

namespace Sl
theorem flat_six : ∀ (l : List I) (k : Nat) (hk : k < l.length) (j : Nat), j < 6 → (l.flatMap I.cells)[k * 6 + j]? = (l[k].cells)[j]?
  | [], k, hk, _, _ => absurd hk (by simp)
  | x :: r, 0, _, j, hj => by
    rw [List.flatMap_cons, Nat.zero_mul, Nat.zero_add, List.getElem?_append_left (by show j < 6; exact hj)]
    rfl
  | x :: r, k + 1, hk, j, hj => by
    rw [List.flatMap_cons, List.getElem?_append_right (by show 6 ≤ _; omega)]
    have := flat_six r k (by simpa using hk) j hj
    rw [show (k + 1) * 6 + j - x.cells.length = k * 6 + j by show (k + 1) * 6 + j - 6 = _; omega, this]
    rfl
theorem CodeAt.lit {w : World} {g : Nat} {l : List I} (hl : l.length ≤ maxLen) (hg : g < w.heap.size) (hc : ∀ j u, (l.flatMap I.cells)[j]? = some u → w.cell? ⟨g, j, none⟩ = some u) : CodeAt w (.slice (some ⟨g, 0, none⟩) l.length l.length) l :=
  ⟨_, _, rfl, Nat.le_refl _, hl, fun k hk => ⟨g, 0, rfl, hg, fun j u hj => by
    have hj6 : j < 6 := (List.getElem?_eq_some_iff.1 hj).1
    have := hc (k * 6 + j) u ((flat_six l k hk j hj6).trans hj)
    rw [Nat.zero_add]
    exact this⟩⟩
end Sl

/-- Settle of a thread without registers. -/
theorem settle_lit (w : World) (g : Nat) (l : List Sl.I) (b : Bool) (hb : (Sl.settle 0 l Sl.zS).isSome = b) (hl : l.length ≤ 1000) (hg : g < w.heap.size) (hc : ∀ j u, (l.flatMap Sl.I.cells)[j]? = some u → w.cell? ⟨g, j, none⟩ = some u) :
    Calls Try.prog 8 #[.agg #[.int .i64 0, .slice (some ⟨g, 0, none⟩) l.length l.length], .agg #[.int .i64 0, .slice none 0 0, .slice none 0 0, .int .i64 0]] w fun x w' =>
      ∃ pc A1 n1 c1 A2 n2 c2 ev, x = .returned (.tuple #[.agg #[.int .i64 pc, .slice A1 n1 c1, .slice A2 n2 c2, .int .i64 ev], .bool b]) ∧ Below w.heap.size w w' := by
  refine (settle_any w 0 [] 0 _ (.slice none 0 0) (.slice none 0 0) l Sl.zS (Sl.CodeAt.lit (by unfold maxLen; omega) hg hc) (Sl.Vals.nil _ _) ⟨[], Sl.Vals.nil _ _, rfl, fun k u zs h => by simp at h⟩ ⟨by simp, fun t ht => by simp [Sl.zS] at ht⟩ (by omega) (by simp [Sl.zS])).mono fun x w' ⟨⟨vr, vt, hx, hi, hr⟩, hbel⟩ => ?_
  obtain ⟨A1, c1, rfl, _⟩ := hi.form
  obtain ⟨A2, c2, rfl, _⟩ := hr.form
  rw [hb] at hx
  exact ⟨_, _, _, _, _, _, _, _, hx, hbel⟩

set_option maxHeartbeats 2000000 in
set_option maxRecDepth 100000 in
theorem awake_any (w : World) : Calls Try.prog 11 #[] w fun x w' => x = .returned (.bool true) ∧ Below w.heap.size w w' := by
  obtain ⟨wz, hwz⟩ : ∃ x, x = (((w.alloc (.cells #[.int .i64 1, .int .i64 0, .int .i64 0, .int .i64 0, .int .i64 7, .int .i64 0, .int .i64 28, .int .i64 0, .int .i64 0, .int .i64 0, .int .i64 0, .int .i64 0] 39)).alloc (.cells #[.int .i64 0] 2)).alloc (.cells #[.int .i64 3] 3)).alloc (.cells #[.slice (some ⟨w.heap.size + 2, 0, none⟩) 1 1] 22) := ⟨_, rfl⟩
  have hbz : Below w.heap.size w wz := by rw [hwz]; exact ((((Below.refl _ _).alloc (Nat.le_refl _) _).alloc (by simp) _).alloc (by simp; omega) _).alloc (by simp; omega) _
  have hs : wz.heap.size = w.heap.size + 4 := by rw [hwz]; simp
  have c0 : ∀ j u, ([.int .i64 1, .int .i64 0, .int .i64 0, .int .i64 0, .int .i64 7, .int .i64 0, .int .i64 28, .int .i64 0, .int .i64 0, .int .i64 0, .int .i64 0, .int .i64 0] : List Value)[j]? = some u → wz.cell? ⟨w.heap.size, j, none⟩ = some u := fun j u hj => by
    rw [hwz]
    simp only [World.cell?, World.alloc, Array.getElem?_push]
    simp [show ¬ w.heap.size = w.heap.size + 1 + 1 + 1 by omega, show ¬ w.heap.size = w.heap.size + 1 + 1 by omega]
    simpa using hj
  have c1 : wz.cell? ⟨w.heap.size + 1, 0, none⟩ = some (.int .i64 0) := by
    rw [hwz]
    simp only [World.cell?, World.alloc, Array.getElem?_push]
    simp
  have c2 : wz.cell? ⟨w.heap.size + 2, 0, none⟩ = some (.int .i64 3) := by
    rw [hwz]
    simp only [World.cell?, World.alloc, Array.getElem?_push]
    simp
  have c3 : wz.cell? ⟨w.heap.size + 3, 0, none⟩ = some (.slice (some ⟨w.heap.size + 2, 0, none⟩) 1 1) := by
    rw [hwz]
    simp only [World.cell?, World.alloc, Array.getElem?_push]
    simp
  have hset : Sl.settle 1 [⟨1, 0, 0, 0, 7, 0⟩, ⟨28, 0, 0, 0, 0, 0⟩] ⟨0, 0, [0], [[3]]⟩ = some ⟨1, 0, [7], [[]]⟩ := by rfl
  have CS := settle_any wz 1 [3] 1 _ (.slice (some ⟨w.heap.size + 1, 0, none⟩) 1 1) (.slice (some ⟨w.heap.size + 3, 0, none⟩) 1 1) [⟨1, 0, 0, 0, 7, 0⟩, ⟨28, 0, 0, 0, 0, 0⟩] ⟨0, 0, [0], [[3]]⟩
    (Sl.CodeAt.lit (g := w.heap.size) (by simp [maxLen]) (by omega) c0)
    ⟨_, 1, rfl, by simp, by simp [maxLen], (fun e => by cases e), fun j u hj => by
      match j, hj with
      | 0, hj => exact ⟨w.heap.size + 1, 0, rfl, by simp, by omega, by simp at hj; rw [← hj]; exact c1⟩⟩
    ⟨[.slice (some ⟨w.heap.size + 2, 0, none⟩) 1 1], ⟨_, 1, rfl, by simp, by simp [maxLen], (fun e => by cases e), fun j u hj => by
      match j, hj with
      | 0, hj => exact ⟨w.heap.size + 3, 0, rfl, by simp, by omega, by simp at hj; rw [← hj]; exact c3⟩⟩, rfl, fun k u zs h1 h2 => by
      match k, h1, h2 with
      | 0, h1, h2 =>
        simp at h1 h2
        subst h1 h2
        exact ⟨_, 1, rfl, by simp, by simp [maxLen], (fun e => by cases e), fun j u hj => by
          match j, hj with
          | 0, hj => exact ⟨w.heap.size + 2, 0, rfl, by simp, by omega, by simp at hj; rw [← hj]; exact c2⟩⟩⟩
    ⟨by simp, fun t ht => by simp at ht; subst ht; simp⟩ (by omega) (by simp)
  rw [hset] at CS
  have CSS := Lib.hid CS
  rw [hwz] at CSS
  have HBZ := Lib.hid hbz
  rw [hwz] at HBZ
  clear hbz hs c0 c1 c2 c3 CS hset hwz
  go_enter Try.func11, Try.ntmps11
  go_wp2_with (go_at_call 8; refine CSS.out.mono ?_; rintro x w2 ⟨⟨vr, vt, rfl, hi, hr⟩, hb⟩; obtain ⟨b1, o1, cr, e1, _, _, _, hbl, hcr⟩ := Sl.IntsAt.at_ hi (k := 0) (by simp); obtain ⟨A2, c2, e2, _⟩ := hr.form; subst e1 e2; have HB := Lib.hid hb; have hcA : ∀ o, (w2.alloc o).cell? ⟨b1, o1, none⟩ = some (.int .i64 7) := fun o => (((Below.refl _ _).alloc (Nat.le_refl _) o).cell (p := ⟨b1, o1, none⟩) hbl).trans (by simpa using hcr); clear hb hcr hi hr)
  go_ret
  exact ⟨rfl, (HBZ.out.trans (HB.out.mono HBZ.out.size)).alloc (Below.trans HBZ.out (HB.out.mono HBZ.out.size)).size _⟩

theorem below_two {B : Nat} {w a c : World} {o o' : Obj} (h : Below B w a ∧ B ≤ a.heap.size) (k : Below ((a.alloc o).alloc o').heap.size ((a.alloc o).alloc o') c) : Below B w c ∧ B ≤ c.heap.size := by
  have h1 := (h.1.alloc h.2 o).alloc (by simp; omega) o'
  have hs := h1.size
  have := k.size
  simp at this
  exact ⟨h1.trans (k.mono (by simp; omega)), by omega⟩
theorem below_one {B : Nat} {w a c : World} {o : Obj} (h : Below B w a ∧ B ≤ a.heap.size) (k : Below (a.alloc o).heap.size (a.alloc o) c) : Below B w c ∧ B ≤ c.heap.size := by
  have h1 := h.1.alloc h.2 o
  have := k.size
  simp at this
  exact ⟨h1.trans (k.mono (by simp; omega)), by omega⟩
set_option maxHeartbeats 2000000 in
set_option maxRecDepth 100000 in
theorem silentCycles_any (w : World) : Calls Try.prog 5 #[] w fun x w' => x = .returned (.bool true) ∧ Below w.heap.size w w' := by
  have q1 := fun (W : World) (b : Nat) (hb : W.heap.size = b) => settle_lit (W.alloc (.cells #[.int .i64 5, .int .i64 0, .int .i64 0, .int .i64 0, .int .i64 0, .int .i64 0] 39)) b [⟨5, 0, 0, 0, 0, 0⟩] false (by rfl) (by simp) (by subst hb; simp) (fun j u hj => by subst hb; exact (World.cell?_alloc_at _ _ _ _ (by simp)).trans (by simpa [Sl.I.cells] using hj))
  simp only [List.length_cons, List.length_nil, Nat.zero_add] at q1
  have C1 := Lib.hid q1
  clear q1
  have q2 := fun (W : World) (b : Nat) (hb : W.heap.size = b) => settle_lit (W.alloc (.cells #[.int .i64 5, .int .i64 2, .int .i64 0, .int .i64 0, .int .i64 0, .int .i64 0, .int .i64 28, .int .i64 0, .int .i64 0, .int .i64 0, .int .i64 0, .int .i64 0] 39)) b [⟨5, 2, 0, 0, 0, 0⟩, ⟨28, 0, 0, 0, 0, 0⟩] false (by rfl) (by simp) (by subst hb; simp) (fun j u hj => by subst hb; exact (World.cell?_alloc_at _ _ _ _ (by simp)).trans (by simpa [Sl.I.cells] using hj))
  simp only [List.length_cons, List.length_nil, Nat.zero_add, Nat.reduceAdd] at q2
  have C2 := Lib.hid q2
  clear q2
  have q3 := fun (W : World) (b : Nat) (hb : W.heap.size = b) => settle_lit (W.alloc (.cells #[.int .i64 5, .int .i64 1, .int .i64 0, .int .i64 0, .int .i64 0, .int .i64 0, .int .i64 28, .int .i64 0, .int .i64 0, .int .i64 0, .int .i64 0, .int .i64 0] 39)) b [⟨5, 1, 0, 0, 0, 0⟩, ⟨28, 0, 0, 0, 0, 0⟩] true (by rfl) (by simp) (by subst hb; simp) (fun j u hj => by subst hb; exact (World.cell?_alloc_at _ _ _ _ (by simp)).trans (by simpa [Sl.I.cells] using hj))
  simp only [List.length_cons, List.length_nil, Nat.zero_add, Nat.reduceAdd] at q3
  have C3 := Lib.hid q3
  clear q3
  go_enter Try.func5, Try.ntmps5
  go_wp2_with (first
    | ((go_at_call 8; (with_reducible refine (C1.out _ _ ?_).mono ?_); · simp
        rintro x w1 ⟨p1, A1, n1, c1, A2, n2, c2, ev1, rfl, hb1⟩; have HB1 := Lib.hid ((Below.refl w.heap.size w).alloc (Nat.le_refl _) (.cells #[.int .i64 5, .int .i64 0, .int .i64 0, .int .i64 0, .int .i64 0, .int .i64 0] 39) |>.trans (hb1.mono (by simp))); clear hb1))
    | ((go_at_call 8; (with_reducible refine (C2.out _ _ ?_).mono ?_); · simp
        rintro x w2 ⟨p2, A3, n3, c3, A4, n4, c4, ev2, rfl, hb2⟩; have HB2 := Lib.hid hb2; clear hb2))
    | ((go_at_call 8; (with_reducible refine (C3.out _ _ ?_).mono ?_); · simp
        rintro x w3 ⟨p3, A5, n5, c5, A6, n6, c6, ev3, rfl, hb3⟩; have HB3 := Lib.hid hb3; clear hb3))
    | ((go_at_call 11; refine (awake_any _).mono ?_; rintro x w4 ⟨rfl, hb4⟩; have HB4 := Lib.hid hb4; clear hb4)))
  go_ret
  exact ⟨rfl, (below_one (below_two (below_two ⟨HB1.out, HB1.out.size⟩ HB2.out) HB3.out) HB4.out).1⟩

set_option maxRecDepth 100000 in
theorem silentCycles_lifted (os : Os) (started : os.Started) (H : Type) (enc : TypeId × Value → H) :
    ReturnsInHanded {} Try.checked os 5 .any (Rows.silentCyclesSpec.pre6 enc Try.prog Try.f5 Rows.silentCyclesRow.domain false) (Rows.silentCyclesSpec.post enc Try.prog Try.f5 false true false false) := by
  refine returnsInHanded_of_change (C := Try.checked) own started (by kernel_rfl) Try.func5
    (ChangeSpec.witness6 (enc := enc) (C := Try.checked) false ⟨#[], #[], []⟩ 8 (by kernel_rfl) (by kernel_rfl) (by kernel_rfl) (by kernel_rfl)) ?_
  intro W base args ds gs before hval0 hW hcnd _
  have hW' := hW
  obtain ⟨p, q, hA0, hV, rfl, hfz, hnd⟩ := hW
  have hA : DataW.TrodAll enc Try.prog W 0 (fun _ => true) true Try.f5.params.toList args.toList ds p := hA0
  rw [Try.params5] at hA
  obtain ⟨rfl, rfl, rfl⟩ := trodAll_none hA
  obtain ⟨rfl, rfl⟩ := trodVars_none hV
  clear hA0 hval0
  simp only [List.append_nil] at hW'
  refine (silentCycles_any W).mono fun e W' ⟨he, hb⟩ => ?_
  subst he
  exact ⟨_, rfl, _, _, _, [], _, [], hW', trodAll_mk1 (shut_bool Try.underlying4 _), trodAll_mk0, rfl, hb.frame _, fun h => by cases h⟩

theorem silentCycles_holds : Rows.SilentCyclesSaid :=
  OpenClaim.holds_of_wide 5 Try.f5 rfl rfl rfl rfl rfl rfl rfl ⟨rfl, rfl, rfl, rfl, rfl⟩ rfl rfl rfl rfl rfl (by kernel_rfl) Try.func5 (by kernel_rfl)
    (of_decide_eq_true (by kernel_rfl)) (by unfold Func.isWrapper; first | (rw [if_pos (by decide +kernel)]; kernel_rfl) | (rw [if_neg (by decide +kernel)]; exact ⟨rfl, rfl⟩))
    (fun os started H enc _ => silentCycles_lifted os started H enc)
end Go.Proofs.Ytdibfpjhmfkbkaa
