/-
  Contracts of index and assignment of package parse.
-/
import Derived.Test.YteekcepbogndlaaGreatDoorPstI
import Derived.Test.YteekcepbogndlaaGreatDoorParH
namespace Go.Proofs.YteekcepbogndlaaGreatDoor
open Go.RowKit
open Par

namespace Par
open Tok (T Bs)
/-- What 'index' leaves. -/
def PostIA (P : Nat) (all : List T) (st : St) (w : World) (e : Ending) (w' : World) : Prop :=
  ∃ a n cap, e = .returned (.slice a n cap) ∧ Went P all (after (index exprA) st) w w' ∧ ∀ l, val (index exprA) st = some l → SlE w' (From w.heap.size) l (.slice a n cap)
theorem ix_no {st : St} (h : txt st.see ≠ [91]) : after (index exprA) st = st ∧ ∀ l, val (index exprA) st = some l → l = [] := by
  cases st with
  | off r => exact ⟨rfl, fun l hl => by cases hl⟩
  | on r =>
    simp only [St.see] at h
    have e : index exprA r = .ok ([], r) := by simp only [index]; rw [if_neg h]
    exact ⟨by simp only [after, e], fun l hl => by simp only [val, e] at hl; cases hl; rfl⟩
theorem ix_yes {t : T} {r : List T} (h : t.2.1 = [91]) : after (index exprA) (.on (t :: r)) = after (closed exprA [93]) (.on r) ∧ ∀ l, val (index exprA) (.on (t :: r)) = some l → ∃ e, val (closed exprA [93]) (.on r) = some e ∧ l = [e] := by
  have ht : txt (t :: r) = [91] := h
  cases hx : closed exprA [93] r with
  | error q =>
    have e : index exprA (t :: r) = .error q := by simp only [index]; rw [if_pos ht]; simp [hx]
    simp [after, val, e, hx]
  | ok p =>
    obtain ⟨y, q⟩ := p
    have e : index exprA (t :: r) = .ok ([y], q) := by simp only [index]; rw [if_pos ht]; simp [hx]
    simp [after, val, e, hx]
theorem index_all (w : World) (P : Nat) (all : List T) (st : St) (h : Is w P all st) : Calls Tryz.prog 171 #[.pointer (some ⟨P, 0, none⟩)] w (PostIA P all st w) := by
  by_cases ht : txt st.see = [91]
  · obtain ⟨t, r, rfl, ht2⟩ := see_cons ht (by simp)
    refine (index_yes exprA P all t r w h ht2 (Lib.hid fun w h => exprA_any w P all _ h)).mono ?_
    rintro e w' ⟨g, rfl, hg, hk, hi, hv⟩
    obtain ⟨h1, h2⟩ := ix_yes (r := r) ht2
    refine ⟨_, _, _, rfl, ⟨hk, h1 ▸ hi⟩, fun l hl => ?_⟩
    obtain ⟨e, he, rfl⟩ := h2 l hl
    exact ⟨_, _, rfl, .inr ⟨g, rfl, hg, hv e he⟩⟩
  · refine (index_no P all st w h ht).mono ?_
    rintro e w' ⟨rfl, hw⟩
    obtain ⟨h1, h2⟩ := ix_no ht
    refine ⟨_, _, _, rfl, h1.symm ▸ hw, fun l hl => ?_⟩
    obtain rfl := h2 l hl
    exact slE_nil
theorem after_assign {t : T} {r : List T} (h : t.1 = 1) : after assignP (.on (t :: r)) = expSt [59] (after exprA (expSt [61] (after (index exprA) (.on r)))) ∧
    ∀ s, val assignP (.on (t :: r)) = some s → ∃ ix e, val (index exprA) (.on r) = some ix ∧ val exprA (expSt [61] (after (index exprA) (.on r))) = some e ∧ s = Sm.mk 1 t.2.2 t.2.1 [] ix e [] [] := by
  have e0 : ∀ g : Bs → Pa Sm, after (andThen nameP g) (.on (t :: r)) = after (g t.2.1) (.on r) ∧ val (andThen nameP g) (.on (t :: r)) = val (g t.2.1) (.on r) := by
    intro g
    have : andThen nameP g (t :: r) = g t.2.1 r := by simp [andThen, nameP, knd, h, txt]
    simp only [after, val, this, and_self]
  have e1 : ∀ st, after assignP (.on st) = after (andThen nameP (fun nm => andThen (index exprA) fun ix => andThen (exp [61]) fun _ => andThen exprA fun e => andThen (exp [59]) fun _ => give (Sm.mk 1 (lineOf st) nm [] ix e [] []))) (.on st) := fun st => rfl
  have e2 : ∀ st, val assignP (.on st) = val (andThen nameP (fun nm => andThen (index exprA) fun ix => andThen (exp [61]) fun _ => andThen exprA fun e => andThen (exp [59]) fun _ => give (Sm.mk 1 (lineOf st) nm [] ix e [] []))) (.on st) := fun st => rfl
  rw [e1, e2, (e0 _).1, (e0 _).2]
  refine ⟨by rw [after_andThen _ _ [], after_andThen _ _ (), after_andThen _ _ zeroE, after_andThen _ _ (), after_give, after_exp, after_exp], fun s hs => ?_⟩
  obtain ⟨ix, h1, h2⟩ := val_andThen hs
  obtain ⟨_, _, h3⟩ := val_andThen h2
  obtain ⟨e, h4, h5⟩ := val_andThen h3
  obtain ⟨_, _, h6⟩ := val_andThen h5
  rw [after_exp] at h4
  exact ⟨ix, e, h1, h4, (val_give h6).symm⟩
/-- The result's eleven cells are written last. -/
theorem fin11 {P : Nat} {all : List T} {st : St} {w w3 : World} (R : Nat) (hR : R = w.heap.size) (hk : Kept P w w3) (hP : P < w.heap.size) (hi : Is w3 P all st) (v0 : Value) (v1 : Value) (v2 : Value) (v3 : Value) (v4 : Value) (v5 : Value) (v6 : Value) (v7 : Value) (v8 : Value) (v9 : Value) (v10 : Value) :
    Kept P w (((((((((((w3.setCell ⟨R, 0, none⟩ v0).setCell ⟨R, 1, none⟩ v1).setCell ⟨R, 2, none⟩ v2).setCell ⟨R, 3, none⟩ v3).setCell ⟨R, 4, none⟩ v4).setCell ⟨R, 5, none⟩ v5).setCell ⟨R, 6, none⟩ v6).setCell ⟨R, 7, none⟩ v7).setCell ⟨R, 8, none⟩ v8).setCell ⟨R, 9, none⟩ v9).setCell ⟨R, 10, none⟩ v10) ∧ Is (((((((((((w3.setCell ⟨R, 0, none⟩ v0).setCell ⟨R, 1, none⟩ v1).setCell ⟨R, 2, none⟩ v2).setCell ⟨R, 3, none⟩ v3).setCell ⟨R, 4, none⟩ v4).setCell ⟨R, 5, none⟩ v5).setCell ⟨R, 6, none⟩ v6).setCell ⟨R, 7, none⟩ v7).setCell ⟨R, 8, none⟩ v8).setCell ⟨R, 9, none⟩ v9).setCell ⟨R, 10, none⟩ v10) P all st ∧ Kept2 P R w3 (((((((((((w3.setCell ⟨R, 0, none⟩ v0).setCell ⟨R, 1, none⟩ v1).setCell ⟨R, 2, none⟩ v2).setCell ⟨R, 3, none⟩ v3).setCell ⟨R, 4, none⟩ v4).setCell ⟨R, 5, none⟩ v5).setCell ⟨R, 6, none⟩ v6).setCell ⟨R, 7, none⟩ v7).setCell ⟨R, 8, none⟩ v8).setCell ⟨R, 9, none⟩ v9).setCell ⟨R, 10, none⟩ v10) := by
  subst hR
  exact ⟨(((((((((((hk.setNew (p := ⟨w.heap.size, 0, none⟩) (Nat.le_refl _) _).setNew (p := ⟨w.heap.size, 1, none⟩) (Nat.le_refl _) _).setNew (p := ⟨w.heap.size, 2, none⟩) (Nat.le_refl _) _).setNew (p := ⟨w.heap.size, 3, none⟩) (Nat.le_refl _) _).setNew (p := ⟨w.heap.size, 4, none⟩) (Nat.le_refl _) _).setNew (p := ⟨w.heap.size, 5, none⟩) (Nat.le_refl _) _).setNew (p := ⟨w.heap.size, 6, none⟩) (Nat.le_refl _) _).setNew (p := ⟨w.heap.size, 7, none⟩) (Nat.le_refl _) _).setNew (p := ⟨w.heap.size, 8, none⟩) (Nat.le_refl _) _).setNew (p := ⟨w.heap.size, 9, none⟩) (Nat.le_refl _) _).setNew (p := ⟨w.heap.size, 10, none⟩) (Nat.le_refl _) _), (((((((((((hi.own hP 0 _).own hP 1 _).own hP 2 _).own hP 3 _).own hP 4 _).own hP 5 _).own hP 6 _).own hP 7 _).own hP 8 _).own hP 9 _).own hP 10 _), ((((((((((((Kept2.refl P w.heap.size w3).set 0 _).set 1 _).set 2 _).set 3 _).set 4 _).set 5 _).set 6 _).set 7 _).set 8 _).set 9 _).set 10 _)⟩
end Par

set_option maxHeartbeats 4000000 in
set_option maxRecDepth 100000 in
theorem assignment_any (w : World) (P : Nat) (all : List Tok.T) (t : Tok.T) (r : List Tok.T) (h : Is w P all (.on (t :: r))) (ht : t.1 = 1) :
    Calls Tryz.prog 159 #[.pointer (some ⟨P, 0, none⟩)] w (PostS assignP P all (.on (t :: r)) w) := by
  have hP := h.lt
  have HA := Lib.hid (after_assign (r := r) ht)
  have H := Lib.hid h
  have hL := tok_line
  have CN : Hid (∀ w, Is w P all (.on (t :: r)) → Calls Tryz.prog 102 #[.pointer (some ⟨P, 0, none⟩)] w fun e w' => e = .returned (.string ⟨t.2.1.toArray⟩) ∧ Went P all (.on r) w w') := Lib.hid (fun w h => by
    have := name_any w P all _ h
    unfold PostName at this
    have e1 : nameTxt (.on (t :: r)) = t.2.1 := by simp [nameTxt, St.see, knd, ht, txt]
    have e2 : nameSt (.on (t :: r)) = .on r := by simp [nameSt, knd, ht]
    rw [e1, e2] at this
    exact this)
  clear h ht
  go_enter Tryz.func159, Tryz.ntmps159
  go_wp2_with (first
    | (go_at_call 63; refine (peek_any _ P all _ (H.out.below ((Below.refl _ _).alloc (Nat.le_refl _) _))).mono ?_; rintro e w1 ⟨rfl, hb1⟩)
    | (go_at_call 102; refine (CN.out _ ((H.out.below ((Below.refl _ _).alloc (Nat.le_refl _) _)).below hb1)).mono ?_; rintro e w2 ⟨rfl, hk2, hi2⟩)
    | (go_at_call 171; refine (index_all _ P all _ hi2).mono ?_; rintro e w3 ⟨a4, n4, cap4, rfl, ⟨hk3, hi3⟩, hv3⟩)
    | (go_at_call 40; refine (exprA_any _ P all _ hi4).mono ?_; rintro e w5 ⟨op, n1, nm, a1, len, cap1, rfl, hk5, hi5, hv5⟩; have b5 := Lib.hid (b4.out.kept hk5 hne3); obtain ⟨c5, f5⟩ := b5.out 5 _ rfl; obtain ⟨c6, f6⟩ := b5.out 6 _ rfl; obtain ⟨c7, f7⟩ := b5.out 7 _ rfl; obtain ⟨c8, f8⟩ := b5.out 8 _ rfl)
    | (go_at_call 105; refine (expect_any _ P all _ ⟨#[59]⟩ ((((hi5.own hPB _ _).own hPB _ _).own hPB _ _).own hPB _ _) (by decide)).mono ?_; rintro e w6 ⟨rfl, hk6, hi6⟩; have b6 := Lib.hid (((((b5.out.set (.int .i64 op) (j := 5) (by simp)).set (.int .i64 n1) (j := 6) (by simp)).set (.string nm) (j := 7) (by simp)).set (.slice a1 len cap1) (j := 8) (by simp)).kept hk6 hne3); have r6 := Lib.hid ((((((r4.out.kept hk5 hneR).far (a := ⟨w3.heap.size, 5, none⟩) hneRB (.int .i64 op)).far (a := ⟨w3.heap.size, 6, none⟩) hneRB (.int .i64 n1)).far (a := ⟨w3.heap.size, 7, none⟩) hneRB (.string nm)).far (a := ⟨w3.heap.size, 8, none⟩) hneRB (.slice a1 len cap1)).kept hk6 hneR); obtain ⟨p0, pf0⟩ := b6.out 0 _ rfl; obtain ⟨p1, pf1⟩ := b6.out 1 _ rfl; obtain ⟨p2, pf2⟩ := b6.out 2 _ rfl; obtain ⟨p3, pf3⟩ := b6.out 3 _ rfl; obtain ⟨p4, pf4⟩ := b6.out 4 _ rfl; obtain ⟨p5, pf5⟩ := b6.out 5 _ rfl; obtain ⟨p6, pf6⟩ := b6.out 6 _ rfl; obtain ⟨p7, pf7⟩ := b6.out 7 _ rfl; obtain ⟨p8, pf8⟩ := b6.out 8 _ rfl; obtain ⟨p9, pf9⟩ := b6.out 9 _ rfl; obtain ⟨p10, pf10⟩ := b6.out 10 _ rfl; obtain ⟨q0, qf0⟩ := r6.out 0 _ rfl; obtain ⟨q1, qf1⟩ := r6.out 1 _ rfl; obtain ⟨q2, qf2⟩ := r6.out 2 _ rfl; obtain ⟨q3, qf3⟩ := r6.out 3 _ rfl; obtain ⟨q4, qf4⟩ := r6.out 4 _ rfl; obtain ⟨q5, qf5⟩ := r6.out 5 _ rfl; obtain ⟨q6, qf6⟩ := r6.out 6 _ rfl; obtain ⟨q7, qf7⟩ := r6.out 7 _ rfl; obtain ⟨q8, qf8⟩ := r6.out 8 _ rfl; obtain ⟨q9, qf9⟩ := r6.out 9 _ rfl; obtain ⟨q10, qf10⟩ := r6.out 10 _ rfl)
    | (go_at_call 105; refine (expect_any _ P all _ ⟨#[61]⟩ (hi3.below ((Below.refl _ _).alloc (Nat.le_refl _) _)) (by decide)).mono ?_; rintro e w4 ⟨rfl, hk4, hi4⟩; have s1 := hb1.size; simp at s1; have s2 := hk2.size; have s3 := hk3.size; have hPB : P < w3.heap.size := (by omega); have hne3 : w3.heap.size ≠ P := (by omega); have hneR : w.heap.size ≠ P := (by omega); have hneRB : w.heap.size ≠ w3.heap.size := (by omega); have b4 := Lib.hid ((Box.new w3 _ _).kept hk4 hne3); have r4 := Lib.hid (((((Box.new w _ _).kept (Kept.of_below hb1) hneR).kept hk2 hneR).kept hk3 hneR).kept (((Kept.refl P w3).alloc _).trans hk4) hneR)))
  have hkA := ((((((Kept.refl P w).alloc (.cells #[.int .i64 0, .int .i64 0, .string ⟨#[]⟩, .string ⟨#[]⟩, .slice none 0 0, .int .i64 0, .int .i64 0, .string ⟨#[]⟩, .slice none 0 0, .slice none 0 0, .slice none 0 0] 98)).trans (Kept.of_below hb1)).trans hk2).trans hk3).alloc (.cells #[.int .i64 1, .int .i64 t.2.2, .string ⟨t.2.1.toArray⟩, .string ⟨#[]⟩, .slice a4 n4 cap4, .int .i64 0, .int .i64 0, .string ⟨#[]⟩, .slice none 0 0, .slice none 0 0, .slice none 0 0] 98)).trans hk4 |>.trans hk5 |>.setNew (p := ⟨w3.heap.size, 5, none⟩) (by show w.heap.size ≤ w3.heap.size; omega) (.int .i64 op) |>.setNew (p := ⟨w3.heap.size, 6, none⟩) (by show w.heap.size ≤ w3.heap.size; omega) (.int .i64 n1) |>.setNew (p := ⟨w3.heap.size, 7, none⟩) (by show w.heap.size ≤ w3.heap.size; omega) (.string nm) |>.setNew (p := ⟨w3.heap.size, 8, none⟩) (by show w.heap.size ≤ w3.heap.size; omega) (.slice a1 len cap1) |>.trans hk6
  obtain ⟨f1, f2, f3⟩ := fin11 w.heap.size rfl hkA hP hi6 (.int .i64 1) (.int .i64 t.2.2) (.string ⟨t.2.1.toArray⟩) (.string ⟨#[]⟩) (.slice a4 n4 cap4) (.int .i64 op) (.int .i64 n1) (.string nm) (.slice a1 len cap1) (.slice none 0 0) (.slice none 0 0)
  refine bodyPost_ret (v := .agg #[.int .i64 1, .int .i64 t.2.2, .string ⟨t.2.1.toArray⟩, .string ⟨#[]⟩, .slice a4 n4 cap4, .int .i64 op, .int .i64 n1, .string nm, .slice a1 len cap1, .slice none 0 0, .slice none 0 0]) (by simp [results, Tryz.results159, go_sem, lin, St.see, *]) rfl
    ⟨_, _, _, _, _, _, _, _, _, _, _, _, _, _, _, _, _, _, _, rfl, ⟨f1, by rw [HA.out.1]; exact f2⟩, fun s hs => ?_⟩
  obtain ⟨ix, e, hix, hee, rfl⟩ := HA.out.2 s hs
  have s4 := hk4.size
  simp at s4
  have k56 := ((((Kept2.refl P w3.heap.size w5).set 5 (.int .i64 op)).set 6 (.int .i64 n1)).set 7 (.string nm)).set 8 (.slice a1 len cap1) |>.trans (.of hk6)
  have k36 := (Kept2.of (B := w3.heap.size) (((Kept.refl P w3).alloc (.cells #[.int .i64 1, .int .i64 t.2.2, .string ⟨t.2.1.toArray⟩, .string ⟨#[]⟩, .slice a4 n4 cap4, .int .i64 0, .int .i64 0, .string ⟨#[]⟩, .slice none 0 0, .slice none 0 0, .slice none 0 0] 98)).trans hk4)).trans (.of hk5) |>.trans k56
  refine ⟨_, _, _, _, _, none, 0, none, 0, rfl, (hv3 ix hix).turn ?_, RdE.turn (stay f3 (n := w4.heap.size) (by omega) (by omega) (by omega)) _ _ (RdE.turn (stay k56 (by omega) (by omega) (Nat.le_refl _)) _ _ (hv5 e hee)), .inl rfl, .inl rfl⟩
  intro g oo u hg hc
  have hlt : g < w3.heap.size := block_lt_of_cell (a := ⟨g, oo, none⟩) hc
  have hg2 : w2.heap.size ≤ g := hg
  have s36 := k36.size
  exact ⟨(f3.cell (g := g) (by omega) (by omega) (by omega)).trans ((k36.cell (g := g) hlt (by omega) (by omega)).trans hc), show w.heap.size ≤ g by omega⟩
end Go.Proofs.YteekcepbogndlaaGreatDoor
