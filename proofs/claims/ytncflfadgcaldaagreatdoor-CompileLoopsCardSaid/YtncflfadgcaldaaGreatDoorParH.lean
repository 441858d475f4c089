/-
  Contracts of product, sum, comparison, and, expr of package parse, each on the one below it.
  The contract of comparison of package parse.
  Contracts of index and variable of package parse.
-/
import Derived.Test.YtncflfadgcaldaaGreatDoorParE
namespace Go.Proofs.YtncflfadgcaldaaGreatDoor
open Go.RowKit
open Par

namespace Par
open Tok (T Bs)
/-- The result's block is written last; nothing else turns by it. -/
theorem fin_store {P : Nat} {all : List T} {st : St} {w w1 : World} {n : Nat} {v : Value} {o : Option E} (u0 u1 u2 u3 : Value) (hk : Kept P w w1) (hP : P < w.heap.size) (hi : Is w1 P all st) (hn : w.heap.size < n)
    (hv : ∀ x, o = some x → RdE w1 (PF n w1) x v) {W : World} (hW : W = (((w1.setCell ⟨w.heap.size, 0, none⟩ u0).setCell ⟨w.heap.size, 1, none⟩ u1).setCell ⟨w.heap.size, 2, none⟩ u2).setCell ⟨w.heap.size, 3, none⟩ u3) :
    Kept P w W ∧ Is W P all st ∧ ∀ x, o = some x → RdE W (PF w.heap.size W) x v := by
  subst hW
  refine ⟨(((hk.setNew (p := ⟨w.heap.size, 0, none⟩) (Nat.le_refl _) _).setNew (p := ⟨w.heap.size, 1, none⟩) (Nat.le_refl _) _).setNew (p := ⟨w.heap.size, 2, none⟩) (Nat.le_refl _) _).setNew (p := ⟨w.heap.size, 3, none⟩) (Nat.le_refl _) _,
    hi.past (((((Below.refl _ _).setCell (p := ⟨w.heap.size, 0, none⟩) hP _).setCell (p := ⟨w.heap.size, 1, none⟩) hP _).setCell (p := ⟨w.heap.size, 2, none⟩) hP _).setCell (p := ⟨w.heap.size, 3, none⟩) hP _), fun x hx => ?_⟩
  refine (hv x hx).move (fun g hg hl => ?_) (by omega)
  have hne : g ≠ w.heap.size := by omega
  rw [Below.heap_setCell _ _ _ _ hne, Below.heap_setCell _ _ _ _ hne, Below.heap_setCell _ _ _ _ hne, Below.heap_setCell _ _ _ _ hne]
/-- A new block of strings is a slice of them. -/
theorem strs_one (w : World) (P n : Nat) (a : ByteArray) (t : TypeId) (hn : n = w.heap.size) (hP : P < n) : Strs (w.alloc (.cells #[.string a] t)) P (.slice (some ⟨n, 0, none⟩) 1 1) [a] :=
  ⟨n, 1, rfl, by omega, by simp; omega, fun j hj => by
    rw [World.cell?_alloc_at _ _ _ _ hn]
    match j, hj with
    | 0, _ => rfl⟩
theorem strs_two (w : World) (P n : Nat) (a b : ByteArray) (t : TypeId) (hn : n = w.heap.size) (hP : P < n) : Strs (w.alloc (.cells #[.string a, .string b] t)) P (.slice (some ⟨n, 0, none⟩) 2 2) [a, b] :=
  ⟨n, 2, rfl, by omega, by simp; omega, fun j hj => by
    rw [World.cell?_alloc_at _ _ _ _ hn]
    match j, hj with
    | 0, _ => rfl
    | 1, _ => rfl⟩
theorem strs_three (w : World) (P n : Nat) (a b c : ByteArray) (t : TypeId) (hn : n = w.heap.size) (hP : P < n) : Strs (w.alloc (.cells #[.string a, .string b, .string c] t)) P (.slice (some ⟨n, 0, none⟩) 3 3) [a, b, c] :=
  ⟨n, 3, rfl, by omega, by simp; omega, fun j hj => by
    rw [World.cell?_alloc_at _ _ _ _ hn]
    match j, hj with
    | 0, _ => rfl
    | 1, _ => rfl
    | 2, _ => rfl⟩
theorem strs_six (w : World) (P n : Nat) (a b c d e f : ByteArray) (t : TypeId) (hn : n = w.heap.size) (hP : P < n) : Strs (w.alloc (.cells #[.string a, .string b, .string c, .string d, .string e, .string f] t)) P (.slice (some ⟨n, 0, none⟩) 6 6) [a, b, c, d, e, f] :=
  ⟨n, 6, rfl, by omega, by simp; omega, fun j hj => by
    rw [World.cell?_alloc_at _ _ _ _ hn]
    match j, hj with
    | 0, _ => rfl
    | 1, _ => rfl
    | 2, _ => rfl
    | 3, _ => rfl
    | 4, _ => rfl
    | 5, _ => rfl⟩
theorem series_at (k : FuncId) (hk : k = 154 ∨ k = 168 ∨ k = 175 ∨ k = 180)
    {f : Pa E} {N : Nat} (hf : Lt f) (he : Er f) (hm : EM k f N) {P : Nat} {all : List Tok.T} {st : St} (hN : st.rem.length ≤ N) (ops : List (Bs × Int)) (ss : List ByteArray) (hs : signsOf ops = ss) (hg : OpsOk ops) :
    ∀ (v : Value) (w : World), Is w P all st → Strs w P v ss → Calls Tryz.prog 153 #[.pointer (some ⟨P, 0, none⟩), .func (.func k) #[] #[], v] w (PostE (series f ops) P all st w) :=
  fun v w h hv => series_any k hk f ops N hf he hm hg v w P all st h hN (hs ▸ hv)
end Par

set_option maxHeartbeats 1000000 in
set_option maxRecDepth 100000 in
theorem product_core (F : Pa E) (P : Nat) (all : List Tok.T) (st : St) (w : World) (h : Is w P all st)
    (CS : Hid (∀ (v : Value) (w : World), Is w P all st → Strs w P v [⟨#[42]⟩, ⟨#[47]⟩, ⟨#[37]⟩] → Calls Tryz.prog 153 #[.pointer (some ⟨P, 0, none⟩), .func (.func 180) #[] #[], v] w (PostE F P all st w))) :
    Calls Tryz.prog 175 #[.pointer (some ⟨P, 0, none⟩)] w (PostE F P all st w) := by
  have H := Lib.hid h
  have hP := h.lt
  clear h
  go_enter Tryz.func175, Tryz.ntmps175
  go_wp2_with (go_at_call 153; go_must (refine (CS.out _ _ ((H.out.below ((Below.refl _ _).alloc (Nat.le_refl _) _)).below ((Below.refl _ _).alloc (Nat.le_refl _) _)) (strs_three _ P _ _ _ _ _ (by simp) (by omega))).mono ?_); rintro e w1 ⟨op, n, nm, a, len, cap, rfl, hk1, hi1, hv1⟩; obtain ⟨r0, r1, r2, r3, g0, g1, g2, g3, hz, hn1, hn2⟩ := Kept.new4 (((Kept.refl P _).alloc _).trans hk1) hP)
  exact bodyPost_ret (v := .agg #[.int .i64 op, .int .i64 n, .string nm, .slice a len cap]) (by simp [results, Tryz.results175, go_sem, *]) rfl ⟨_, _, _, _, _, _, rfl, fin_store _ _ _ _ ((((Kept.refl P w).alloc _).alloc _).trans hk1) hP hi1 (by simp; omega) hv1 rfl⟩
theorem product_of (f : Pa E) (N : Nat) (hf : Lt f) (he : Er f) (hm : EM 180 f N) : EM 175 (series f mulOps) N := fun w P all st h hN =>
  product_core _ P all st w h (Lib.hid (series_at _ (.inr (.inr (.inr rfl))) hf he hm hN mulOps [⟨#[42]⟩, ⟨#[47]⟩, ⟨#[37]⟩] rfl good_mul))

set_option maxHeartbeats 1000000 in
set_option maxRecDepth 100000 in
theorem sum_core (F : Pa E) (P : Nat) (all : List Tok.T) (st : St) (w : World) (h : Is w P all st)
    (CS : Hid (∀ (v : Value) (w : World), Is w P all st → Strs w P v [⟨#[43]⟩, ⟨#[45]⟩] → Calls Tryz.prog 153 #[.pointer (some ⟨P, 0, none⟩), .func (.func 175) #[] #[], v] w (PostE F P all st w))) :
    Calls Tryz.prog 173 #[.pointer (some ⟨P, 0, none⟩)] w (PostE F P all st w) := by
  have H := Lib.hid h
  have hP := h.lt
  clear h
  go_enter Tryz.func173, Tryz.ntmps173
  go_wp2_with (go_at_call 153; go_must (refine (CS.out _ _ ((H.out.below ((Below.refl _ _).alloc (Nat.le_refl _) _)).below ((Below.refl _ _).alloc (Nat.le_refl _) _)) (strs_two _ P _ _ _ _ (by simp) (by omega))).mono ?_); rintro e w1 ⟨op, n, nm, a, len, cap, rfl, hk1, hi1, hv1⟩; obtain ⟨r0, r1, r2, r3, g0, g1, g2, g3, hz, hn1, hn2⟩ := Kept.new4 (((Kept.refl P _).alloc _).trans hk1) hP)
  exact bodyPost_ret (v := .agg #[.int .i64 op, .int .i64 n, .string nm, .slice a len cap]) (by simp [results, Tryz.results173, go_sem, *]) rfl ⟨_, _, _, _, _, _, rfl, fin_store _ _ _ _ ((((Kept.refl P w).alloc _).alloc _).trans hk1) hP hi1 (by simp; omega) hv1 rfl⟩
theorem sum_of (f : Pa E) (N : Nat) (hf : Lt f) (he : Er f) (hm : EM 175 f N) : EM 173 (series f sumOps) N := fun w P all st h hN =>
  sum_core _ P all st w h (Lib.hid (series_at _ (.inr (.inr (.inl rfl))) hf he hm hN sumOps [⟨#[43]⟩, ⟨#[45]⟩] rfl good_sum))

set_option maxHeartbeats 1000000 in
set_option maxRecDepth 100000 in
theorem and_core (F : Pa E) (P : Nat) (all : List Tok.T) (st : St) (w : World) (h : Is w P all st)
    (CS : Hid (∀ (v : Value) (w : World), Is w P all st → Strs w P v [⟨#[38, 38]⟩] → Calls Tryz.prog 153 #[.pointer (some ⟨P, 0, none⟩), .func (.func 168) #[] #[], v] w (PostE F P all st w))) :
    Calls Tryz.prog 154 #[.pointer (some ⟨P, 0, none⟩)] w (PostE F P all st w) := by
  have H := Lib.hid h
  have hP := h.lt
  clear h
  go_enter Tryz.func154, Tryz.ntmps154
  go_wp2_with (go_at_call 153; go_must (refine (CS.out _ _ ((H.out.below ((Below.refl _ _).alloc (Nat.le_refl _) _)).below ((Below.refl _ _).alloc (Nat.le_refl _) _)) (strs_one _ P _ _ _ (by simp) (by omega))).mono ?_); rintro e w1 ⟨op, n, nm, a, len, cap, rfl, hk1, hi1, hv1⟩; obtain ⟨r0, r1, r2, r3, g0, g1, g2, g3, hz, hn1, hn2⟩ := Kept.new4 (((Kept.refl P _).alloc _).trans hk1) hP)
  exact bodyPost_ret (v := .agg #[.int .i64 op, .int .i64 n, .string nm, .slice a len cap]) (by simp [results, Tryz.results154, go_sem, *]) rfl ⟨_, _, _, _, _, _, rfl, fin_store _ _ _ _ ((((Kept.refl P w).alloc _).alloc _).trans hk1) hP hi1 (by simp; omega) hv1 rfl⟩
theorem and_of (f : Pa E) (N : Nat) (hf : Lt f) (he : Er f) (hm : EM 168 f N) : EM 154 (series f andOps) N := fun w P all st h hN =>
  and_core _ P all st w h (Lib.hid (series_at _ (.inr (.inl rfl)) hf he hm hN andOps [⟨#[38, 38]⟩] rfl good_and))

set_option maxHeartbeats 1000000 in
set_option maxRecDepth 100000 in
theorem expr_core (F : Pa E) (P : Nat) (all : List Tok.T) (st : St) (w : World) (h : Is w P all st)
    (CS : Hid (∀ (v : Value) (w : World), Is w P all st → Strs w P v [⟨#[124, 124]⟩] → Calls Tryz.prog 153 #[.pointer (some ⟨P, 0, none⟩), .func (.func 154) #[] #[], v] w (PostE F P all st w))) :
    Calls Tryz.prog 122 #[.pointer (some ⟨P, 0, none⟩)] w (PostE F P all st w) := by
  have H := Lib.hid h
  have hP := h.lt
  clear h
  go_enter Tryz.func122, Tryz.ntmps122
  go_wp2_with (go_at_call 153; go_must (refine (CS.out _ _ ((H.out.below ((Below.refl _ _).alloc (Nat.le_refl _) _)).below ((Below.refl _ _).alloc (Nat.le_refl _) _)) (strs_one _ P _ _ _ (by simp) (by omega))).mono ?_); rintro e w1 ⟨op, n, nm, a, len, cap, rfl, hk1, hi1, hv1⟩; obtain ⟨r0, r1, r2, r3, g0, g1, g2, g3, hz, hn1, hn2⟩ := Kept.new4 (((Kept.refl P _).alloc _).trans hk1) hP)
  exact bodyPost_ret (v := .agg #[.int .i64 op, .int .i64 n, .string nm, .slice a len cap]) (by simp [results, Tryz.results122, go_sem, *]) rfl ⟨_, _, _, _, _, _, rfl, fin_store _ _ _ _ ((((Kept.refl P w).alloc _).alloc _).trans hk1) hP hi1 (by simp; omega) hv1 rfl⟩
theorem expr_of (f : Pa E) (N : Nat) (hf : Lt f) (he : Er f) (hm : EM 154 f N) : EM 122 (series f orOps) N := fun w P all st h hN =>
  expr_core _ P all st w h (Lib.hid (series_at _ (.inl rfl) hf he hm hN orOps [⟨#[124, 124]⟩] rfl good_or))

end Go.Proofs.YtncflfadgcaldaaGreatDoor

namespace Go.Proofs.YtncflfadgcaldaaGreatDoor
open Go.RowKit
open Par

namespace Par
open Tok (T Bs)
theorem cmp_none {f : Pa E} {st : St} (h : opAt cmpOps (after f st).see = none) : after (cmp f) st = after f st ∧ val (cmp f) st = val f st := by
  cases st with
  | off r => exact ⟨rfl, rfl⟩
  | on r =>
    cases hx : f r with
    | error q => simp [after, val, cmp, hx]
    | ok p =>
      obtain ⟨e, q⟩ := p
      simp only [after, hx, St.see] at h
      simp [after, val, cmp, hx, h]
theorem cmp_some {f : Pa E} {st : St} {r1 r2 : List T} {o : Int} (ha : after f st = .on r1) (h : opAt cmpOps r1 = some (o, r2)) :
    after (cmp f) st = after f (.on r2) ∧ ∀ x, val (cmp f) st = some x → ∃ e y, val f st = some e ∧ val f (.on r2) = some y ∧ x = binary o e y := by
  cases st with
  | off r => cases ha
  | on r =>
    cases hx : f r with
    | error q => simp [after, hx] at ha
    | ok p =>
      obtain ⟨e, q⟩ := p
      simp only [after, hx] at ha
      injection ha with ha
      subst ha
      cases hy : f r2 with
      | error q => simp [after, val, cmp, hx, h, hy]
      | ok p2 =>
        obtain ⟨y, q2⟩ := p2
        simp [after, val, cmp, hx, h, hy]
/-- The result's block is written, and a new block laid. -/
theorem fin_build {P : Nat} {all : List T} {st : St} {w w3 : World} {n : Nat} (u0 u1 u2 u3 : Value) {cs : Array Value} {t : TypeId} (hk : Kept P w w3) (hP : P < w.heap.size) (hi : Is w3 P all st) (hn : w.heap.size < n)
    {W : World} (hW : W = ((((w3.setCell ⟨w.heap.size, 0, none⟩ u0).setCell ⟨w.heap.size, 1, none⟩ u1).setCell ⟨w.heap.size, 2, none⟩ u2).setCell ⟨w.heap.size, 3, none⟩ u3).alloc (.cells cs t)) :
    (Kept P w W ∧ Is W P all st) ∧ (∀ e v, RdE w3 (PF n w3) e v → RdE W (PF w.heap.size W) e v) ∧ PlainAt W w3.heap.size ∧ ∀ j u, cs[j]? = some u → W.cell? ⟨w3.heap.size, j, none⟩ = some u := by
  obtain ⟨hk2, hi2, _⟩ := fin_store (o := none) (v := .bool false) u0 u1 u2 u3 hk hP hi hn (fun _ h => by cases h) rfl
  subst hW
  refine ⟨⟨hk2.alloc _, hi2.below ((Below.refl _ _).alloc (Nat.le_refl _) _)⟩, fun e v hr => ?_, plain_new (by simp), fun j u hj => ?_⟩
  · refine hr.move (fun g hg hlt => ?_) (by omega)
    have hne : g ≠ w.heap.size := by omega
    rw [Below.heap_alloc _ _ _ (by simpa [World.setCell] using hlt), Below.heap_setCell _ _ _ _ hne, Below.heap_setCell _ _ _ _ hne, Below.heap_setCell _ _ _ _ hne, Below.heap_setCell _ _ _ _ hne]
  · rw [World.cell?_alloc_at _ _ _ _ (by simp)]
    exact hj
end Par

set_option maxHeartbeats 4000000 in
set_option maxRecDepth 100000 in
theorem comparison_core (F G : Pa E) (P : Nat) (all : List Tok.T) (st : St) (w : World) (h : Is w P all st)
    (CF : Hid (∀ (w : World), Is w P all st → Calls Tryz.prog 173 #[.pointer (some ⟨P, 0, none⟩)] w (PostE F P all st w)))
    (ops : List (Tok.Bs × Int))
    (CO : Hid (∀ (v : Value) (w : World), Is w P all (after F st) → Strs w P v [⟨#[61, 61]⟩, ⟨#[33, 61]⟩, ⟨#[60]⟩, ⟨#[60, 61]⟩, ⟨#[62]⟩, ⟨#[62, 61]⟩] → Calls Tryz.prog 167 #[.pointer (some ⟨P, 0, none⟩), v] w (PostOp ops P all (after F st) w)))
    (hno : opAt ops (after F st).see = none → after G st = after F st ∧ val G st = val F st)
    (hso : ∀ r1 o r2, after F st = .on r1 → opAt ops r1 = some (o, r2) → o ≠ 0 ∧ after G st = after F (.on r2) ∧ (∀ x, val G st = some x → ∃ e y, val F st = some e ∧ val F (.on r2) = some y ∧ x = binary o e y) ∧
      Hid (∀ (w : World), Is w P all (.on r2) → Calls Tryz.prog 173 #[.pointer (some ⟨P, 0, none⟩)] w (PostE F P all (.on r2) w))) :
    Calls Tryz.prog 168 #[.pointer (some ⟨P, 0, none⟩)] w (PostE G P all st w) := by
  have H := Lib.hid h
  have hP := h.lt
  clear h
  cases hat : opAt ops (after F st).see with
  | none =>
    obtain ⟨ha, hv⟩ := hno hat
    have hz : opVal ops (after F st) = 0 := by simp [opVal, hat]
    have hst : opSt ops (after F st) = after F st := by
      cases hs : after F st with
      | off r => rfl
      | on r => rw [hs] at hat; simp only [St.see] at hat; simp [opSt, hat]
    have CP : Hid (∀ (v : Value) (w : World), Is w P all (after F st) → Strs w P v [⟨#[61, 61]⟩, ⟨#[33, 61]⟩, ⟨#[60]⟩, ⟨#[60, 61]⟩, ⟨#[62]⟩, ⟨#[62, 61]⟩] → Calls Tryz.prog 167 #[.pointer (some ⟨P, 0, none⟩), v] w fun e w' => e = .returned (.int .i64 0) ∧ Went P all (after F st) w w') := Lib.hid (by
      intro v w h1 h2
      have := CO.out v w h1 h2
      unfold PostOp at this
      rw [hz, hst] at this
      exact this)
    have HA := Lib.hid ha
    have HV := Lib.hid hv
    clear hno hso hat ha hv hz hst CO
    go_enter Tryz.func168, Tryz.ntmps168
    go_wp2_with (first
      | (go_at_call 173; go_must (refine (CF.out _ (H.out.below ((Below.refl _ _).alloc (Nat.le_refl _) _))).mono ?_); rintro e w1 ⟨op, n, nm, a, len, cap, rfl, hk1, hi1, hv1⟩; have hz1 := hk1.size; simp at hz1)
      | (go_at_call 167; go_must (refine (CP.out _ _ ((hi1.below ((Below.refl _ _).alloc (Nat.le_refl _) _)).below ((Below.refl _ _).alloc (Nat.le_refl _) _)) (strs_six _ P _ _ _ _ _ _ _ _ (by simp) (by omega))).mono ?_); rintro e w2 ⟨rfl, hk2, hi2⟩; obtain ⟨d0, d1, d2, d3, _, _, _, _, hzd, _, _⟩ := Kept.new4 (((Kept.refl P _).alloc _).trans hk2) (show P < w1.heap.size by omega); obtain ⟨r0, r1, r2, r3, g0, g1, g2, g3, hz, hn1, hn2⟩ := Kept.new4 (((hk1.alloc _).alloc _).trans hk2) hP))
    have hk12 := (((Kept.refl P w1).alloc (.cells #[.int .i64 op, .int .i64 n, .string nm, .slice a len cap] 81)).alloc _).trans hk2
    refine bodyPost_ret (v := .agg #[.int .i64 op, .int .i64 n, .string nm, .slice a len cap]) (by simp [results, Tryz.results168, go_sem, *]) rfl ⟨_, _, _, _, _, _, rfl, fin_store _ _ _ _ (((Kept.refl P w).alloc _).trans (hk1.trans hk12)) hP (HA.out ▸ hi2) (n := w.heap.size + 1) (by omega) ?_ rfl⟩
    intro x hx
    rw [HV.out] at hx
    exact (hv1 x hx).goes hk12 (by simp; omega) (by simp)
  | some p =>
    obtain ⟨o, r2⟩ := p
    obtain ⟨r1, hr1⟩ : ∃ r1, after F st = .on r1 := by
      cases hs : after F st with
      | off r => rw [hs] at hat; cases hat
      | on r => exact ⟨r, rfl⟩
    rw [hr1] at hat
    simp only [St.see] at hat
    obtain ⟨h0, ha, hv, CF2⟩ := hso r1 o r2 hr1 hat
    have CP : Hid (∀ (v : Value) (w : World), Is w P all (after F st) → Strs w P v [⟨#[61, 61]⟩, ⟨#[33, 61]⟩, ⟨#[60]⟩, ⟨#[60, 61]⟩, ⟨#[62]⟩, ⟨#[62, 61]⟩] → Calls Tryz.prog 167 #[.pointer (some ⟨P, 0, none⟩), v] w fun e w' => e = .returned (.int .i64 o) ∧ Went P all (.on r2) w w') := Lib.hid (by
      intro v w h1 h2
      have := CO.out v w h1 h2
      unfold PostOp at this
      have e1 : opVal ops (after F st) = o := by simp [opVal, hr1, St.see, hat]
      have e2 : opSt ops (after F st) = .on r2 := by simp [opSt, hr1, hat]
      rw [e1, e2] at this
      exact this)
    have HA := Lib.hid ha
    have HV := Lib.hid hv
    have ho1 : (o == 0) = false := by simpa using h0
    have ho2 : (o != 0) = true := by simpa using h0
    clear hno hso hat ha hv hr1 h0 CO
    go_enter Tryz.func168, Tryz.ntmps168
    go_wp2_with (first
      | (go_at_call 173; go_must (refine (CF.out _ (H.out.below ((Below.refl _ _).alloc (Nat.le_refl _) _))).mono ?_); rintro e w1 ⟨op, n, nm, a, len, cap, rfl, hk1, hi1, hv1⟩; have hz1 := hk1.size; simp at hz1)
      | (go_at_call 167; go_must (refine (CP.out _ _ ((hi1.below ((Below.refl _ _).alloc (Nat.le_refl _) _)).below ((Below.refl _ _).alloc (Nat.le_refl _) _)) (strs_six _ P _ _ _ _ _ _ _ _ (by simp) (by omega))).mono ?_); rintro e w2 ⟨rfl, hk2, hi2⟩; obtain ⟨d0, d1, d2, d3, k0, k1, k2, k3, hzd, hn3, hn4⟩ := Kept.new4 (((Kept.refl P _).alloc _).trans hk2) (show P < w1.heap.size by omega); obtain ⟨r0, r1, r2, r3, g0, g1, g2, g3, hz, hn1, hn2⟩ := Kept.new4 (((hk1.alloc _).alloc _).trans hk2) hP))
    have hkB : Box4 w2 w.heap.size (.int .i64 0) (.int .i64 0) (.string ⟨#[]⟩) (.slice none 0 0) := ⟨r0, r1, r2, r3, g0, g1, g2, g3⟩
    have hkD : Box4 w2 w1.heap.size (.int .i64 op) (.int .i64 n) (.string nm) (.slice a len cap) := ⟨d0, d1, d2, d3, k0, k1, k2, k3⟩
    have hk12 := (((Kept.refl P w1).alloc (.cells #[.int .i64 op, .int .i64 n, .string nm, .slice a len cap] 81)).alloc _).trans hk2
    go_region_with (first
      | (go_at_call 173; refine (CF2.out _ ?_).mono ?_; first | exact hi2 | exact hi2.drew; rintro e w3 ⟨op3, n3, nm3, a3, len3, cap3, rfl, hk3, hi3, hv3⟩; have HB3 := hkB.kept (Kept.trans (Kept.of_below (Below.refl _ _).drew) hk3) hn2; have hzb := HB3.lt; have s3 := hk3.size; obtain ⟨e0, e1, e2, e3, f0, f1, f2, f3⟩ := HB3; obtain ⟨x0, x1, x2, x3, _, _, _, _⟩ := hkD.kept (Kept.trans (Kept.of_below (Below.refl _ _).drew) hk3) hn4))
    all_goals
      have hk23 := Kept.trans (Kept.of_below (P := P) ((Below.refl w2.heap.size w2).drew)) hk3
      obtain ⟨⟨hkW, hiW⟩, hrd, hpl, hnew⟩ := fin_build (n := w.heap.size + 1) (.int .i64 o) (.int .i64 0) (.string ⟨#[]⟩) (.slice (some ⟨w3.heap.size, 0, none⟩) 2 2) (cs := #[.int .i64 op, .int .i64 n, .string nm, .slice a len cap, .int .i64 op3, .int .i64 n3, .string nm3, .slice a3 len3 cap3]) (t := 81)
        (((Kept.refl P w).alloc _).trans ((hk1.trans hk12).trans hk23)) hP hi3 (by omega) rfl
      go_wp2_with fail
      refine bodyPost_ret (v := .agg #[.int .i64 o, .int .i64 0, .string ⟨#[]⟩, .slice (some ⟨w3.heap.size, 0, none⟩) 2 2]) (by simp [results, Tryz.results168, go_sem, *]) rfl ⟨_, _, _, _, _, _, rfl, hkW, HA.out ▸ hiW, fun x hx => ?_⟩
      obtain ⟨e, y, he, hy, rfl⟩ := HV.out x hx
      have re2 := (hv1 e he).goes (m := w.heap.size + 1) (hk12.trans hk23) (by simp; omega) (by simp)
      have ry := (hv3 y hy).pweak (m := w.heap.size + 1) (by simp; omega)
      exact rdE_two (g := w3.heap.size) ⟨by omega, hpl⟩ (hnew 0 _ rfl) (hnew 1 _ rfl) (hnew 2 _ rfl) (hnew 3 _ rfl) (hnew 4 _ rfl) (hnew 5 _ rfl) (hnew 6 _ rfl) (hnew 7 _ rfl) (hrd _ _ re2) (hrd _ _ ry)

theorem comparison_of (f : Pa E) (N : Nat) (hf : Lt f) (he : Er f) (hm : EM 173 f N) : EM 168 (cmp f) N := fun w P all st h hN =>
  comparison_core f (cmp f) P all st w h (Lib.hid fun w h => hm w P all st h hN) cmpOps
    (Lib.hid fun v w h hv => operator_any cmpOps good_cmp v w P all (after f st) h hv)
    cmp_none
    (fun r1 o r2 h1 h2 => ⟨opAt_ne (by decide) h2, (cmp_some h1 h2).1, (cmp_some h1 h2).2, Lib.hid fun w h => hm w P all (.on r2) h (by
      have a1 := after_rem hf st he
      rw [h1] at a1
      have a2 := opAt_le h2
      have a3 : (St.on r1).rem.length = r1.length := rfl
      have a4 : (St.on r2).rem.length = r2.length := rfl
      omega)⟩)
end Go.Proofs.YtncflfadgcaldaaGreatDoor

namespace Go.Proofs.YtncflfadgcaldaaGreatDoor
open Go.RowKit
open Par

namespace Par
open Tok (T Bs)
theorem from_ne {n g P : Nat} (h : From n g) (hp : P < n) : g ≠ P := by
  have : n ≤ g := h
  omega
theorem from_weak {m n k : Nat} (h : m ≤ n) : ∀ g, From n g → g < k → From m g := fun _ hg _ => Nat.le_trans h hg
theorem after_closed (f : Pa E) (s : Bs) (st : St) : after (closed f s) st = expSt s (after f st) := by
  cases st with
  | off r => rfl
  | on r =>
    cases hx : f r with
    | error q => simp [after, closed, hx, expSt]
    | ok p =>
      obtain ⟨e, q⟩ := p
      by_cases h : txt q = s
      · simp [after, closed, hx, expSt, expect, h]
      · simp [after, closed, hx, expSt, expect, h]
theorem val_closed {f : Pa E} {s : Bs} {st : St} {x : E} (h : val (closed f s) st = some x) : val f st = some x := by
  cases st with
  | off r => cases h
  | on r =>
    cases hx : f r with
    | error q => simp [val, closed, hx] at h
    | ok p =>
      obtain ⟨e, q⟩ := p
      by_cases h2 : txt q = s
      · simpa [val, closed, hx, expect, h2] using h
      · simp [val, closed, hx, expect, h2] at h
/-- One expression's cells in a new block. -/
theorem rdL_one {W : World} {S : Nat → Prop} {g : Nat} {e : E} {v0 v1 v2 v3 : Value}
    (c0 : W.cell? ⟨g, 0, none⟩ = some v0) (c1 : W.cell? ⟨g, 1, none⟩ = some v1) (c2 : W.cell? ⟨g, 2, none⟩ = some v2) (c3 : W.cell? ⟨g, 3, none⟩ = some v3)
    (he : RdE W S e (.agg #[v0, v1, v2, v3])) : RdL W S g 0 [e] := ⟨⟨v0, v1, v2, v3, c0, c1, c2, c3, he⟩, trivial⟩
/-- What 'index' leaves where a bracket stands next: one expression in a new block. -/
def PostIx (f : Pa E) (P : Nat) (all : List T) (r : List T) (w : World) (e : Ending) (w' : World) : Prop :=
  ∃ g, e = .returned (.slice (some ⟨g, 0, none⟩) 1 1) ∧ PF w.heap.size w' g ∧ Kept P w w' ∧ Is w' P all (after (closed f [93]) (.on r)) ∧ ∀ x, val (closed f [93]) (.on r) = some x → RdL w' (PF w.heap.size w') g 0 [x]
end Par

set_option maxHeartbeats 1000000 in
set_option maxRecDepth 100000 in
theorem index_no (P : Nat) (all : List Tok.T) (st : St) (w : World) (h : Is w P all st) (ht : txt st.see ≠ [91]) :
    Calls Tryz.prog 121 #[.pointer (some ⟨P, 0, none⟩)] w fun e w' => e = .returned (.slice none 0 0) ∧ Went P all st w w' := by
  have CS := Lib.hid (skip_no w P all st ⟨#[91]⟩ h ht)
  clear ht h
  go_enter Tryz.func121, Tryz.ntmps121
  go_wp2_with (go_at_call 66; refine CS.out.mono ?_; rintro e w1 ⟨rfl, hw1⟩)
  go_ret
  exact ⟨rfl, hw1⟩

set_option maxHeartbeats 1000000 in
set_option maxRecDepth 100000 in
theorem index_yes (f : Pa E) (P : Nat) (all : List Tok.T) (t : Tok.T) (r : List Tok.T) (w : World) (h : Is w P all (.on (t :: r))) (ht : t.2.1 = [91])
    (CE : Hid (∀ (w : World), Is w P all (.on r) → Calls Tryz.prog 122 #[.pointer (some ⟨P, 0, none⟩)] w (PostE f P all (.on r) w))) :
    Calls Tryz.prog 121 #[.pointer (some ⟨P, 0, none⟩)] w (PostIx f P all r w) := by
  have CS := Lib.hid (skip_yes w P all t r ⟨#[91]⟩ h ht)
  have hP := h.lt
  have HA := Lib.hid (after_closed f [93] (.on r))
  clear ht h
  go_enter Tryz.func121, Tryz.ntmps121
  go_wp2_with (first
    | (go_at_call 66; refine CS.out.mono ?_; rintro e w1 ⟨rfl, hk1, hi1⟩; have s1 := hk1.size)
    | (go_at_call 122; refine (CE.out _ hi1).mono ?_; rintro e w2 ⟨op, n, nm, a, len, cap, rfl, hk2, hi2, hv2⟩; have s2 := hk2.size)
    | (go_at_call 37; refine (expect_any _ P all _ ⟨#[93]⟩ (hi2.below ((Below.refl _ _).alloc (Nat.le_refl _) _)) (by decide)).mono ?_; rintro e w3 ⟨rfl, hk3, hi3⟩; obtain ⟨d0, d1, d2, d3, _, _, _, _, hzd, _, _⟩ := Kept.new4 hk3 (show P < w2.heap.size by omega)))
  go_ret
  have s3 := hk3.size
  simp at s3
  refine ⟨w3.heap.size, rfl, ⟨by omega, plain_new rfl⟩, ((hk1.trans hk2).trans (((Kept.refl P w2).alloc _).trans hk3)).alloc _, ?_, ?_⟩
  · rw [HA.out]
    exact hi3.below ((Below.refl _ _).alloc (Nat.le_refl _) _)
  · intro x hx
    exact rdL_one (by simp) (by simp) (by simp) (by simp) ((hv2 x (val_closed hx)).goes ((((Kept.refl P w2).alloc (.cells #[.int .i64 op, .int .i64 n, .string nm, .slice a len cap] 81)).trans hk3).alloc _) (by omega) s1)
end Go.Proofs.YtncflfadgcaldaaGreatDoor
