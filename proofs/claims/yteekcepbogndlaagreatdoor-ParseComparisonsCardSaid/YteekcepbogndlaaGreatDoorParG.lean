/-
  The contract of comparison of package parse.
-/
import Derived.Test.YteekcepbogndlaaGreatDoorParF
namespace Go.Proofs.YteekcepbogndlaaGreatDoor
open Go.RowKit
open Par

namespace Par
open Tok (T Bs)
theorem cmp_none {f : Pa E} {st : St} (h : opAt cmpOps (after f st).see = none) : after (cmp f) st = after f st ∧ val (cmp f) st = val f st := by
  cases st with
  | off r => exact ⟨rfl, rfl⟩
  | on r =>
    cases hx : f r with
    | error q => simp [after, val, cmp, hx]
    | ok p =>
      obtain ⟨e, q⟩ := p
      simp only [after, hx, St.see] at h
      simp [after, val, cmp, hx, h]
theorem cmp_some {f : Pa E} {st : St} {r1 r2 : List T} {o : Int} (ha : after f st = .on r1) (h : opAt cmpOps r1 = some (o, r2)) :
    after (cmp f) st = after f (.on r2) ∧ ∀ x, val (cmp f) st = some x → ∃ e y, val f st = some e ∧ val f (.on r2) = some y ∧ x = binary o e y := by
  cases st with
  | off r => cases ha
  | on r =>
    cases hx : f r with
    | error q => simp [after, hx] at ha
    | ok p =>
      obtain ⟨e, q⟩ := p
      simp only [after, hx] at ha
      injection ha with ha
      subst ha
      cases hy : f r2 with
      | error q => simp [after, val, cmp, hx, h, hy]
      | ok p2 =>
        obtain ⟨y, q2⟩ := p2
        simp [after, val, cmp, hx, h, hy]
/-- The result's block is written, and a new block laid. -/
theorem fin_build {P : Nat} {all : List T} {st : St} {w w3 : World} {n : Nat} (u0 u1 u2 u3 : Value) {cs : Array Value} {t : TypeId} (hk : Kept P w w3) (hP : P < w.heap.size) (hi : Is w3 P all st) (hn : w.heap.size < n)
    {W : World} (hW : W = ((((w3.setCell ⟨w.heap.size, 0, none⟩ u0).setCell ⟨w.heap.size, 1, none⟩ u1).setCell ⟨w.heap.size, 2, none⟩ u2).setCell ⟨w.heap.size, 3, none⟩ u3).alloc (.cells cs t)) :
    (Kept P w W ∧ Is W P all st) ∧ (∀ e v, RdE w3 (From n) e v → RdE W (From w.heap.size) e v) ∧ ∀ j u, cs[j]? = some u → W.cell? ⟨w3.heap.size, j, none⟩ = some u := by
  obtain ⟨hk2, hi2, _⟩ := fin_store (o := none) (v := .bool false) u0 u1 u2 u3 hk hP hi hn (fun _ h => by cases h) rfl
  subst hW
  refine ⟨⟨hk2.alloc _, hi2.below ((Below.refl _ _).alloc (Nat.le_refl _) _)⟩, fun e v hr => ?_, fun j u hj => ?_⟩
  · refine RdE.turn (fun g oo u hg hc => ⟨(World.cell?_of_block ?_).trans hc, by have : n ≤ g := hg; exact (show w.heap.size ≤ g by omega)⟩) _ _ hr
    have hne : g ≠ w.heap.size := by have : n ≤ g := hg; omega
    have hlt : g < w3.heap.size := block_lt_of_cell (a := ⟨g, oo, none⟩) hc
    rw [Below.heap_alloc _ _ _ (by simpa [World.setCell] using hlt), Below.heap_setCell _ _ _ _ hne, Below.heap_setCell _ _ _ _ hne, Below.heap_setCell _ _ _ _ hne, Below.heap_setCell _ _ _ _ hne]
  · rw [World.cell?_alloc_at _ _ _ _ (by simp)]
    exact hj
end Par

set_option maxHeartbeats 4000000 in
set_option maxRecDepth 100000 in
theorem comparison_core (F G : Pa E) (P : Nat) (all : List Tok.T) (st : St) (w : World) (h : Is w P all st)
    (CF : Hid (∀ (w : World), Is w P all st → Calls Tryz.prog 146 #[.pointer (some ⟨P, 0, none⟩)] w (PostE F P all st w)))
    (ops : List (Tok.Bs × Int))
    (CO : Hid (∀ (v : Value) (w : World), Is w P all (after F st) → Strs w P v [⟨#[61, 61]⟩, ⟨#[33, 61]⟩, ⟨#[60]⟩, ⟨#[60, 61]⟩, ⟨#[62]⟩, ⟨#[62, 61]⟩] → Calls Tryz.prog 111 #[.pointer (some ⟨P, 0, none⟩), v] w (PostOp ops P all (after F st) w)))
    (hno : opAt ops (after F st).see = none → after G st = after F st ∧ val G st = val F st)
    (hso : ∀ r1 o r2, after F st = .on r1 → opAt ops r1 = some (o, r2) → o ≠ 0 ∧ after G st = after F (.on r2) ∧ (∀ x, val G st = some x → ∃ e y, val F st = some e ∧ val F (.on r2) = some y ∧ x = binary o e y) ∧
      Hid (∀ (w : World), Is w P all (.on r2) → Calls Tryz.prog 146 #[.pointer (some ⟨P, 0, none⟩)] w (PostE F P all (.on r2) w))) :
    Calls Tryz.prog 112 #[.pointer (some ⟨P, 0, none⟩)] w (PostE G P all st w) := by
  have H := Lib.hid h
  have hP := h.lt
  clear h
  cases hat : opAt ops (after F st).see with
  | none =>
    obtain ⟨ha, hv⟩ := hno hat
    have hz : opVal ops (after F st) = 0 := by simp [opVal, hat]
    have hst : opSt ops (after F st) = after F st := by
      cases hs : after F st with
      | off r => rfl
      | on r => rw [hs] at hat; simp only [St.see] at hat; simp [opSt, hat]
    have CP : Hid (∀ (v : Value) (w : World), Is w P all (after F st) → Strs w P v [⟨#[61, 61]⟩, ⟨#[33, 61]⟩, ⟨#[60]⟩, ⟨#[60, 61]⟩, ⟨#[62]⟩, ⟨#[62, 61]⟩] → Calls Tryz.prog 111 #[.pointer (some ⟨P, 0, none⟩), v] w fun e w' => e = .returned (.int .i64 0) ∧ Went P all (after F st) w w') := Lib.hid (by
      intro v w h1 h2
      have := CO.out v w h1 h2
      unfold PostOp at this
      rw [hz, hst] at this
      exact this)
    have HA := Lib.hid ha
    have HV := Lib.hid hv
    clear hno hso hat ha hv hz hst CO
    go_enter Tryz.func112, Tryz.ntmps112
    go_wp2_with (first
      | (go_at_call 146; go_must (refine (CF.out _ (H.out.below ((Below.refl _ _).alloc (Nat.le_refl _) _))).mono ?_); rintro e w1 ⟨op, n, nm, a, len, cap, rfl, hk1, hi1, hv1⟩; have hz1 := hk1.size; simp at hz1)
      | (go_at_call 111; go_must (refine (CP.out _ _ ((hi1.below ((Below.refl _ _).alloc (Nat.le_refl _) _)).below ((Below.refl _ _).alloc (Nat.le_refl _) _)) (strs_six _ P _ _ _ _ _ _ _ _ (by simp) (by omega))).mono ?_); rintro e w2 ⟨rfl, hk2, hi2⟩; obtain ⟨d0, d1, d2, d3, _, _, _, _, hzd, _, _⟩ := Kept.new4 (((Kept.refl P _).alloc _).trans hk2) (show P < w1.heap.size by omega); obtain ⟨r0, r1, r2, r3, g0, g1, g2, g3, hz, hn1, hn2⟩ := Kept.new4 (((hk1.alloc _).alloc _).trans hk2) hP))
    have hk12 := (((Kept.refl P w1).alloc (.cells #[.int .i64 op, .int .i64 n, .string nm, .slice a len cap] 34)).alloc _).trans hk2
    refine bodyPost_ret (v := .agg #[.int .i64 op, .int .i64 n, .string nm, .slice a len cap]) (by simp [results, Tryz.results112, go_sem, *]) rfl ⟨_, _, _, _, _, _, rfl, fin_store _ _ _ _ (((Kept.refl P w).alloc _).trans (hk1.trans hk12)) hP (HA.out ▸ hi2) (n := w.heap.size + 1) (by omega) ?_ rfl⟩
    intro x hx
    rw [HV.out] at hx
    refine ((hv1 x hx).kept hk12 (fun g hg => ?_)).weak (fun g hg _ => ?_)
    · have : w.heap.size + 1 ≤ g := by simpa [From] using hg
      omega
    · simpa [From] using hg
  | some p =>
    obtain ⟨o, r2⟩ := p
    obtain ⟨r1, hr1⟩ : ∃ r1, after F st = .on r1 := by
      cases hs : after F st with
      | off r => rw [hs] at hat; cases hat
      | on r => exact ⟨r, rfl⟩
    rw [hr1] at hat
    simp only [St.see] at hat
    obtain ⟨h0, ha, hv, CF2⟩ := hso r1 o r2 hr1 hat
    have CP : Hid (∀ (v : Value) (w : World), Is w P all (after F st) → Strs w P v [⟨#[61, 61]⟩, ⟨#[33, 61]⟩, ⟨#[60]⟩, ⟨#[60, 61]⟩, ⟨#[62]⟩, ⟨#[62, 61]⟩] → Calls Tryz.prog 111 #[.pointer (some ⟨P, 0, none⟩), v] w fun e w' => e = .returned (.int .i64 o) ∧ Went P all (.on r2) w w') := Lib.hid (by
      intro v w h1 h2
      have := CO.out v w h1 h2
      unfold PostOp at this
      have e1 : opVal ops (after F st) = o := by simp [opVal, hr1, St.see, hat]
      have e2 : opSt ops (after F st) = .on r2 := by simp [opSt, hr1, hat]
      rw [e1, e2] at this
      exact this)
    have HA := Lib.hid ha
    have HV := Lib.hid hv
    have ho1 : (o == 0) = false := by simpa using h0
    have ho2 : (o != 0) = true := by simpa using h0
    clear hno hso hat ha hv hr1 h0 CO
    go_enter Tryz.func112, Tryz.ntmps112
    go_wp2_with (first
      | (go_at_call 146; go_must (refine (CF.out _ (H.out.below ((Below.refl _ _).alloc (Nat.le_refl _) _))).mono ?_); rintro e w1 ⟨op, n, nm, a, len, cap, rfl, hk1, hi1, hv1⟩; have hz1 := hk1.size; simp at hz1)
      | (go_at_call 111; go_must (refine (CP.out _ _ ((hi1.below ((Below.refl _ _).alloc (Nat.le_refl _) _)).below ((Below.refl _ _).alloc (Nat.le_refl _) _)) (strs_six _ P _ _ _ _ _ _ _ _ (by simp) (by omega))).mono ?_); rintro e w2 ⟨rfl, hk2, hi2⟩; obtain ⟨d0, d1, d2, d3, k0, k1, k2, k3, hzd, hn3, hn4⟩ := Kept.new4 (((Kept.refl P _).alloc _).trans hk2) (show P < w1.heap.size by omega); obtain ⟨r0, r1, r2, r3, g0, g1, g2, g3, hz, hn1, hn2⟩ := Kept.new4 (((hk1.alloc _).alloc _).trans hk2) hP))
    have hkB : Box4 w2 w.heap.size (.int .i64 0) (.int .i64 0) (.string ⟨#[]⟩) (.slice none 0 0) := ⟨r0, r1, r2, r3, g0, g1, g2, g3⟩
    have hkD : Box4 w2 w1.heap.size (.int .i64 op) (.int .i64 n) (.string nm) (.slice a len cap) := ⟨d0, d1, d2, d3, k0, k1, k2, k3⟩
    have hk12 := (((Kept.refl P w1).alloc (.cells #[.int .i64 op, .int .i64 n, .string nm, .slice a len cap] 34)).alloc _).trans hk2
    go_region_with (first
      | (go_at_call 146; refine (CF2.out _ ?_).mono ?_; first | exact hi2 | exact hi2.drew; rintro e w3 ⟨op3, n3, nm3, a3, len3, cap3, rfl, hk3, hi3, hv3⟩; have HB3 := hkB.kept (Kept.trans (Kept.of_below (Below.refl _ _).drew) hk3) hn2; have hzb := HB3.lt; have s3 := hk3.size; obtain ⟨e0, e1, e2, e3, f0, f1, f2, f3⟩ := HB3; obtain ⟨x0, x1, x2, x3, _, _, _, _⟩ := hkD.kept (Kept.trans (Kept.of_below (Below.refl _ _).drew) hk3) hn4))
    all_goals
      have hk23 := Kept.trans (Kept.of_below (P := P) ((Below.refl w2.heap.size w2).drew)) hk3
      obtain ⟨⟨hkW, hiW⟩, hrd, hnew⟩ := fin_build (n := w.heap.size + 1) (.int .i64 o) (.int .i64 0) (.string ⟨#[]⟩) (.slice (some ⟨w3.heap.size, 0, none⟩) 2 2) (cs := #[.int .i64 op, .int .i64 n, .string nm, .slice a len cap, .int .i64 op3, .int .i64 n3, .string nm3, .slice a3 len3 cap3]) (t := 34)
        (((Kept.refl P w).alloc _).trans ((hk1.trans hk12).trans hk23)) hP hi3 (by omega) rfl
      go_wp2_with fail
      refine bodyPost_ret (v := .agg #[.int .i64 o, .int .i64 0, .string ⟨#[]⟩, .slice (some ⟨w3.heap.size, 0, none⟩) 2 2]) (by simp [results, Tryz.results112, go_sem, *]) rfl ⟨_, _, _, _, _, _, rfl, hkW, HA.out ▸ hiW, fun x hx => ?_⟩
      obtain ⟨e, y, he, hy, rfl⟩ := HV.out x hx
      have re := ((hv1 e he).kept hk12 (fun g hg => by have : w.heap.size + 1 ≤ g := by simpa [From] using hg
                                                       omega)).kept hk23 (fun g hg => by have : w.heap.size + 1 ≤ g := by simpa [From] using hg
                                                                                         omega)
      have ry := (hv3 y hy).weak (S' := From (w.heap.size + 1)) (fun g hg _ => by have : w2.heap.size ≤ g := hg
                                                                                  exact (show w.heap.size + 1 ≤ g by omega))
      have re2 := re.weak (S' := From (w.heap.size + 1)) (fun g hg _ => by simpa [From] using hg)
      exact rdE_two (g := w3.heap.size) (show w.heap.size ≤ w3.heap.size by omega) (hnew 0 _ rfl) (hnew 1 _ rfl) (hnew 2 _ rfl) (hnew 3 _ rfl) (hnew 4 _ rfl) (hnew 5 _ rfl) (hnew 6 _ rfl) (hnew 7 _ rfl) (hrd _ _ re2) (hrd _ _ ry)

theorem comparison_of (f : Pa E) (N : Nat) (hf : Lt f) (he : Er f) (hm : EM 146 f N) : EM 112 (cmp f) N := fun w P all st h hN =>
  comparison_core f (cmp f) P all st w h (Lib.hid fun w h => hm w P all st h hN) cmpOps
    (Lib.hid fun v w h hv => operator_any cmpOps good_cmp v w P all (after f st) h hv)
    cmp_none
    (fun r1 o r2 h1 h2 => ⟨opAt_ne (by decide) h2, (cmp_some h1 h2).1, (cmp_some h1 h2).2, Lib.hid fun w h => hm w P all (.on r2) h (by
      have a1 := after_rem hf st he
      rw [h1] at a1
      have a2 := opAt_le h2
      have a3 : (St.on r1).rem.length = r1.length := rfl
      have a4 : (St.on r2).rem.length = r2.length := rfl
      omega)⟩)
end Go.Proofs.YteekcepbogndlaaGreatDoor
