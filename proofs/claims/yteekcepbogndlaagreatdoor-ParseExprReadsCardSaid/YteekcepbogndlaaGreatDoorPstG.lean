/-
  The contract of choice of package parse.
-/
import Derived.Test.YteekcepbogndlaaGreatDoorPstF
import Derived.Test.YteekcepbogndlaaGreatDoorParH
namespace Go.Proofs.YteekcepbogndlaaGreatDoor
open Go.RowKit
open Par

namespace Par
open Tok (T Bs)
def choiceRest (f : Pa Sm) (k l : Nat) (e : E) (b : List Sm) : Pa Sm := fun ts =>
  if txt ts = [101, 108, 115, 101] then andThen (blockP f) (fun c => give (Sm.mk k l [] [] [] e b c)) ts.tail else .ok (Sm.mk k l [] [] [] e b [], ts)
theorem choice_eq (f : Pa Sm) (k l : Nat) : choiceP f k l = andThen exprA fun e => andThen (blockP f) fun b => choiceRest f k l e b := rfl
theorem choice_no {f : Pa Sm} {k l : Nat} {st : St} (h : txt (after (blockP f) (after exprA st)).see ≠ [101, 108, 115, 101]) : after (choiceP f k l) st = after (blockP f) (after exprA st) ∧
    ∀ s, val (choiceP f k l) st = some s → ∃ e b, val exprA st = some e ∧ val (blockP f) (after exprA st) = some b ∧ s = Sm.mk k l [] [] [] e b [] := by
  have hr : ∀ (st3 : St), txt st3.see ≠ [101, 108, 115, 101] → ∀ e b, after (choiceRest f k l e b) st3 = st3 ∧ ∀ s, val (choiceRest f k l e b) st3 = some s → s = Sm.mk k l [] [] [] e b [] := by
    intro st3 h3 e b
    cases st3 with
    | off r => exact ⟨rfl, fun s hs => by cases hs⟩
    | on r =>
      have e1 : choiceRest f k l e b r = .ok (Sm.mk k l [] [] [] e b [], r) := if_neg h3
      exact ⟨by simp only [after, e1], fun s hs => by simp only [val, e1] at hs; cases hs; rfl⟩
  rw [choice_eq]
  refine ⟨by rw [after_andThen _ _ zeroE, after_andThen _ _ [], (hr _ h _ _).1], fun s hs => ?_⟩
  obtain ⟨e, h1, h2⟩ := val_andThen hs
  obtain ⟨b, h3, h4⟩ := val_andThen h2
  exact ⟨e, b, h1, h3, (hr _ h e b).2 s h4⟩
theorem choice_yes {f : Pa Sm} {k l : Nat} {st : St} {t : T} {r : List T} (h : after (blockP f) (after exprA st) = .on (t :: r)) (ht : t.2.1 = [101, 108, 115, 101]) : after (choiceP f k l) st = after (blockP f) (.on r) ∧
    ∀ s, val (choiceP f k l) st = some s → ∃ e b c, val exprA st = some e ∧ val (blockP f) (after exprA st) = some b ∧ val (blockP f) (.on r) = some c ∧ s = Sm.mk k l [] [] [] e b c := by
  have hr : ∀ e b, after (choiceRest f k l e b) (.on (t :: r)) = after (blockP f) (.on r) ∧ ∀ s, val (choiceRest f k l e b) (.on (t :: r)) = some s → ∃ c, val (blockP f) (.on r) = some c ∧ s = Sm.mk k l [] [] [] e b c := by
    intro e b
    have e1 : choiceRest f k l e b (t :: r) = andThen (blockP f) (fun c => give (Sm.mk k l [] [] [] e b c)) r := if_pos ht
    have e2 : after (choiceRest f k l e b) (.on (t :: r)) = after (andThen (blockP f) (fun c => give (Sm.mk k l [] [] [] e b c))) (.on r) := by simp only [after, e1]
    have e3 : val (choiceRest f k l e b) (.on (t :: r)) = val (andThen (blockP f) (fun c => give (Sm.mk k l [] [] [] e b c))) (.on r) := by simp only [val, e1]
    rw [e2, e3]
    refine ⟨by rw [after_andThen _ _ [], after_give], fun s hs => ?_⟩
    obtain ⟨c, h1, h2⟩ := val_andThen hs
    exact ⟨c, h1, (val_give h2).symm⟩
  rw [choice_eq]
  refine ⟨by rw [after_andThen _ _ zeroE, after_andThen _ _ [], h, (hr _ _).1], fun s hs => ?_⟩
  obtain ⟨e, h1, h2⟩ := val_andThen hs
  obtain ⟨b, h3, h4⟩ := val_andThen h2
  rw [h] at h4
  obtain ⟨c, h5, h6⟩ := (hr e b).2 s h4
  exact ⟨e, b, c, h1, h3, h5, h6⟩
end Par

set_option maxHeartbeats 2000000 in
set_option maxRecDepth 100000 in
theorem choice_any (f : Pa Sm) (hf : Mon f) (M : Nat) (hm : BM f M) (k l : Nat) (w : World) (P B : Nat) (all : List Tok.T) (st : St) (h : Is w P all st) (hr : st.rem.length ≤ M) (hB : Box w B (bare k l)) (hPB : P < B) :
    Calls Tryz.prog 172 #[.pointer (some ⟨P, 0, none⟩), .pointer (some ⟨B, 0, none⟩)] w (PostM (choiceP f k l) P B all st w) := by
  have hr1 := Nat.le_trans (after_mon mon_exprA st) hr
  have hr2 := Nat.le_trans (after_mon (mon_blockP hf) (after exprA st)) hr1
  have CE := Lib.hid (exprA_any w P all st h)
  have CB := Lib.hid (fun w h => hm w P all (after exprA st) h hr1)
  have HB := Lib.hid hB
  have hne : B ≠ P := by omega
  have hBl : B < w.heap.size := block_lt_of_cell (a := ⟨B, 0, none⟩) (hB 0 _ rfl).1
  clear h hB hr hr1
  by_cases ht : txt (after (blockP f) (after exprA st)).see = [101, 108, 115, 101]
  · obtain ⟨t, r, h3, ht2⟩ := see_cons ht (by simp)
    have HA := Lib.hid (choice_yes (k := k) (l := l) h3 ht2)
    rw [h3] at hr2
    have CS := Lib.hid (fun w h => skip_yes w P all t r ⟨#[101, 108, 115, 101]⟩ h ht2)
    have CC := Lib.hid (fun w h => hm w P all (.on r) h (by simp only [St.rem, List.length_cons] at hr2 ⊢; omega))
    have H3 := Lib.hid h3
    clear hm ht ht2 h3 hr2
    go_enter Tryz.func172, Tryz.ntmps172
    go_wp2_with (first
      | (go_at_call 40; refine CE.out.mono ?_; rintro e w1 ⟨op, n1, nm, a1, len, cap1, rfl, hk1, hi1, hv1⟩; have s1 := hk1.size; have b1 := Lib.hid (HB.out.kept hk1 hne); obtain ⟨c5, f5⟩ := b1.out 5 _ rfl; obtain ⟨c6, f6⟩ := b1.out 6 _ rfl; obtain ⟨c7, f7⟩ := b1.out 7 _ rfl; obtain ⟨c8, f8⟩ := b1.out 8 _ rfl)
      | (go_at_call 139; refine (CS.out _ (hi3.own hPB _ _)).mono ?_; rintro e w4 ⟨rfl, hk4, hi4⟩; have b4 := Lib.hid ((b3.out.set (.slice a n cap) (j := 9) (by simp [bare])).kept hk4 hne))
      | (go_at_call 107; refine (CC.out _ hi4).mono ?_; rintro e w5 ⟨a5, n5, cap5, rfl, ⟨hk5, hi5⟩, hv5⟩; have b5 := Lib.hid (b4.out.kept hk5 hne); obtain ⟨c10, f10⟩ := b5.out 10 _ rfl)
      | (go_at_call 107; refine (CB.out _ ((((hi1.own hPB _ _).own hPB _ _).own hPB _ _).own hPB _ _)).mono ?_; rintro e w3 ⟨a, n, cap, rfl, ⟨hk3, hi3⟩, hv3⟩; rw [H3.out] at hi3; have b3 := Lib.hid (((((b1.out.set (.int .i64 op) (j := 5) (by simp [bare])).set (.int .i64 n1) (j := 6) (by simp [bare])).set (.string nm) (j := 7) (by simp [bare])).set (.slice a1 len cap1) (j := 8) (by simp [bare])).kept hk3 hne); obtain ⟨c9, f9⟩ := b3.out 9 _ rfl))
    go_end0
    have k3 := ((Kept2.refl P B w3).set 9 (.slice a n cap)).trans (.of hk4) |>.trans (.of hk5) |>.set 10 (.slice a5 n5 cap5)
    have k1 := ((((Kept2.refl P B w1).set 5 (.int .i64 op)).set 6 (.int .i64 n1)).set 7 (.string nm)).set 8 (.slice a1 len cap1) |>.trans (.of hk3) |>.trans k3
    refine ⟨rfl, (Kept2.of hk1).trans k1, by rw [HA.out.1]; exact hi5.own hPB _ _, _, b5.out.set (.slice a5 n5 cap5) (j := 10) (by simp [bare]), ⟨k, l, ⟨#[]⟩, ⟨#[]⟩, none, 0, 0, op, n1, nm, a1, len, cap1, a, n, cap, a5, n5, cap5, rfl⟩, fun s hs => ?_⟩
    obtain ⟨x, b, c, hx, hb, hc, rfl⟩ := HA.out.2 s hs
    have s2 : w.heap.size ≤ ((((w1.setCell ⟨B, 5, none⟩ (.int .i64 op)).setCell ⟨B, 6, none⟩ (.int .i64 n1)).setCell ⟨B, 7, none⟩ (.string nm)).setCell ⟨B, 8, none⟩ (.slice a1 len cap1)).heap.size := by simpa [World.setCell] using s1
    have s3 := hk3.size
    have s4 := hk4.size
    have s4' : w3.heap.size ≤ w4.heap.size := by simpa [World.setCell] using s4
    obtain ⟨rfl, hl⟩ := (hv3 b hb).turn (stay k3 (by omega) (by omega) s2)
    obtain ⟨rfl, hl5⟩ := (hv5 c hc).turn (stay ((Kept2.refl P B w5).set 10 (.slice a5 n5 cap5)) (m := w.heap.size) (by omega) (by omega) (by omega))
    exact ⟨_, _, _, _, _, a, cap, a5, cap5, rfl, slE_nil, RdE.turn (stay k1 (by omega) hBl (Nat.le_refl _)) _ _ (hv1 x hx), hl, hl5⟩
  · have HA := Lib.hid (choice_no (k := k) (l := l) ht)
    have CS := Lib.hid (fun w h => skip_no w P all _ ⟨#[101, 108, 115, 101]⟩ h ht)
    clear hm ht hr2
    go_enter Tryz.func172, Tryz.ntmps172
    go_wp2_with (first
      | (go_at_call 40; refine CE.out.mono ?_; rintro e w1 ⟨op, n1, nm, a1, len, cap1, rfl, hk1, hi1, hv1⟩; have s1 := hk1.size; have b1 := Lib.hid (HB.out.kept hk1 hne); obtain ⟨c5, f5⟩ := b1.out 5 _ rfl; obtain ⟨c6, f6⟩ := b1.out 6 _ rfl; obtain ⟨c7, f7⟩ := b1.out 7 _ rfl; obtain ⟨c8, f8⟩ := b1.out 8 _ rfl)
      | (go_at_call 139; refine (CS.out _ (hi3.own hPB _ _)).mono ?_; rintro e w4 ⟨rfl, hk4, hi4⟩)
      | (go_at_call 107; refine (CB.out _ ((((hi1.own hPB _ _).own hPB _ _).own hPB _ _).own hPB _ _)).mono ?_; rintro e w3 ⟨a, n, cap, rfl, ⟨hk3, hi3⟩, hv3⟩; have b3 := Lib.hid (((((b1.out.set (.int .i64 op) (j := 5) (by simp [bare])).set (.int .i64 n1) (j := 6) (by simp [bare])).set (.string nm) (j := 7) (by simp [bare])).set (.slice a1 len cap1) (j := 8) (by simp [bare])).kept hk3 hne); obtain ⟨c9, f9⟩ := b3.out 9 _ rfl))
    go_end0
    have k3 := ((Kept2.refl P B w3).set 9 (.slice a n cap)).trans (.of hk4)
    have k1 := ((((Kept2.refl P B w1).set 5 (.int .i64 op)).set 6 (.int .i64 n1)).set 7 (.string nm)).set 8 (.slice a1 len cap1) |>.trans (.of hk3) |>.trans k3
    refine ⟨rfl, (Kept2.of hk1).trans k1, by rw [HA.out.1]; exact hi4, _, (b3.out.set (.slice a n cap) (j := 9) (by simp [bare])).kept hk4 hne, ⟨k, l, ⟨#[]⟩, ⟨#[]⟩, none, 0, 0, op, n1, nm, a1, len, cap1, a, n, cap, none, 0, 0, rfl⟩, fun s hs => ?_⟩
    obtain ⟨x, b, hx, hb, rfl⟩ := HA.out.2 s hs
    have s2 : w.heap.size ≤ ((((w1.setCell ⟨B, 5, none⟩ (.int .i64 op)).setCell ⟨B, 6, none⟩ (.int .i64 n1)).setCell ⟨B, 7, none⟩ (.string nm)).setCell ⟨B, 8, none⟩ (.slice a1 len cap1)).heap.size := by simpa [World.setCell] using s1
    obtain ⟨rfl, hl⟩ := (hv3 b hb).turn (stay k3 (by omega) (by omega) s2)
    exact ⟨_, _, _, _, _, a, cap, none, 0, rfl, slE_nil, RdE.turn (stay k1 (by omega) hBl (Nat.le_refl _)) _ _ (hv1 x hx), hl, .inl rfl⟩
end Go.Proofs.YteekcepbogndlaaGreatDoor
