/-
  Contracts of plainBlock, namedBlock, loop, choice of package parse, over that of block.
-/
import Derived.Test.YteekcepbogndlaaGreatDoorPstE
import Derived.Test.YteekcepbogndlaaGreatDoorPstLaws
namespace Go.Proofs.YteekcepbogndlaaGreatDoor
open Go.RowKit
open Par

namespace Par
open Tok (T Bs)
theorem after_plain (f : Pa Sm) (k l : Nat) (st : St) : after (plainP f k l) st = after (blockP f) st ∧ ∀ s, val (plainP f k l) st = some s → ∃ b, val (blockP f) st = some b ∧ s = .mk k l [] [] [] zeroE b [] := by
  refine ⟨by unfold plainP; rw [after_andThen _ _ [], after_give], fun s hs => ?_⟩
  obtain ⟨b, h1, h2⟩ := val_andThen hs
  exact ⟨b, h1, (val_give h2).symm⟩
theorem after_named (f : Pa Sm) (k l : Nat) (st : St) : after (namedP f k l) st = after (blockP f) (nameSt st) ∧ ∀ s, val (namedP f k l) st = some s → ∃ b, val (blockP f) (nameSt st) = some b ∧ s = .mk k l (nameTxt st) [] [] zeroE b [] := by
  refine ⟨by unfold namedP; rw [after_andThen _ _ [], after_andThen _ _ [], after_give, after_nameP], fun s hs => ?_⟩
  obtain ⟨nm, h1, h2⟩ := val_andThen hs
  obtain ⟨b, h3, h4⟩ := val_andThen h2
  rw [after_nameP] at h3
  exact ⟨b, h3, by rw [← val_give h4, val_nameP h1]⟩
theorem after_loop (f : Pa Sm) (k l : Nat) (st : St) : after (loopP f k l) st = after (blockP f) (after exprA st) ∧ ∀ s, val (loopP f k l) st = some s → ∃ e b, val exprA st = some e ∧ val (blockP f) (after exprA st) = some b ∧ s = .mk k l [] [] [] e b [] := by
  refine ⟨by unfold loopP; rw [after_andThen _ _ zeroE, after_andThen _ _ [], after_give], fun s hs => ?_⟩
  obtain ⟨e, h1, h2⟩ := val_andThen hs
  obtain ⟨b, h3, h4⟩ := val_andThen h2
  exact ⟨e, b, h1, h3, (val_give h4).symm⟩
/-- A slice of statements, or none, as 'block' leaves it, later on. -/
theorem SlS.turn {w w' : World} {S S' : Nat → Prop} (h : ∀ k o u, S k → w.cell? ⟨k, o, none⟩ = some u → w'.cell? ⟨k, o, none⟩ = some u ∧ S' k) {l : List Sm} {a : Option Addr} {n cap : Nat} (hl : SlS w S l (.slice a n cap)) :
    n = l.length ∧ (l = [] ∨ ∃ g xs, a = some ⟨g, 0, none⟩ ∧ S' g ∧ VSs w' S' l xs ∧ ∀ j u, xs[j]? = some u → w'.cell? ⟨g, j, none⟩ = some u) := by
  obtain ⟨a2, cap2, he, hl⟩ := hl
  injection he with h1 h2 h3
  subst h1 h2 h3
  refine ⟨rfl, ?_⟩
  rcases hl with hb | ⟨g, xs, ha, hg, hv, hc⟩
  · exact .inl hb
  · match l, hv with
    | [], _ => exact .inl rfl
    | s :: r, hv =>
      have hv2 := VSs.turn h (s :: r) xs hv
      obtain ⟨cs, rest, rfl, hs, _⟩ := hv
      have h0 : ∃ u, (cs ++ rest)[0]? = some u := by
        have := RdS.len hs
        match cs, this with
        | c :: _, _ => exact ⟨c, rfl⟩
      obtain ⟨u, hu⟩ := h0
      exact .inr ⟨g, _, ha, (h _ _ _ hg (hc _ _ hu)).2, hv2, fun j u hj => (h _ _ _ hg (hc j u hj)).1⟩
end Par

set_option maxHeartbeats 1000000 in
set_option maxRecDepth 100000 in
theorem plainBlock_any (f : Pa Sm) (M : Nat) (hm : BM f M) (k l : Nat) (w : World) (P B : Nat) (all : List Tok.T) (st : St) (h : Is w P all st) (hr : st.rem.length ≤ M) (hB : Box w B (bare k l)) (hPB : P < B) :
    Calls Tryz.prog 175 #[.pointer (some ⟨P, 0, none⟩), .pointer (some ⟨B, 0, none⟩)] w (PostM (plainP f k l) P B all st w) := by
  have HA := Lib.hid (after_plain f k l st)
  have CB := Lib.hid (hm w P all st h hr)
  have HB := Lib.hid hB
  have hne : B ≠ P := by omega
  have hBl : B < w.heap.size := block_lt_of_cell (a := ⟨B, 0, none⟩) (hB 0 _ rfl).1
  clear h hB hm hr
  go_enter Tryz.func175, Tryz.ntmps175
  go_wp2_with (go_at_call 107; refine CB.out.mono ?_; rintro e w1 ⟨a, n, cap, rfl, ⟨hk1, hi1⟩, hv1⟩; have b1 := Lib.hid (HB.out.kept hk1 hne); obtain ⟨c9, f9⟩ := b1.out 9 _ rfl)
  go_end0
  refine ⟨rfl, (Kept2.of hk1).set _ _, by rw [HA.out.1]; exact hi1.own hPB _ _, _, b1.out.set (.slice a n cap) (j := 9) (by simp [bare]), ⟨k, l, ⟨#[]⟩, ⟨#[]⟩, none, 0, 0, 0, 0, ⟨#[]⟩, none, 0, 0, a, n, cap, none, 0, 0, rfl⟩, fun s hs => ?_⟩
  obtain ⟨b, hb, rfl⟩ := HA.out.2 s hs
  obtain ⟨rfl, hl⟩ := (hv1 b hb).turn (stay ((Kept2.refl P B w1).set 9 (.slice a n cap)) (by omega) hBl (Nat.le_refl _))
  exact ⟨_, _, _, _, _, a, cap, none, 0, rfl, slE_nil, rdE_none, hl, .inl rfl⟩

set_option maxHeartbeats 1000000 in
set_option maxRecDepth 100000 in
theorem namedBlock_any (f : Pa Sm) (M : Nat) (hm : BM f M) (k l : Nat) (w : World) (P B : Nat) (all : List Tok.T) (st : St) (h : Is w P all st) (hr : st.rem.length ≤ M) (hB : Box w B (bare k l)) (hPB : P < B) :
    Calls Tryz.prog 174 #[.pointer (some ⟨P, 0, none⟩), .pointer (some ⟨B, 0, none⟩)] w (PostM (namedP f k l) P B all st w) := by
  have HA := Lib.hid (after_named f k l st)
  have CN := Lib.hid (name_any w P all st h)
  have CB := Lib.hid (fun w h => hm w P all (nameSt st) h (Nat.le_trans (nameSt_rem st) hr))
  have HB := Lib.hid hB
  have hne : B ≠ P := by omega
  have hBl : B < w.heap.size := block_lt_of_cell (a := ⟨B, 0, none⟩) (hB 0 _ rfl).1
  clear h hB hm hr
  go_enter Tryz.func174, Tryz.ntmps174
  go_wp2_with (first
    | (go_at_call 102; refine CN.out.mono ?_; rintro e w1 ⟨rfl, hk1, hi1⟩; have s1 := hk1.size; have b1 := Lib.hid (HB.out.kept hk1 hne); obtain ⟨c2, f2⟩ := b1.out 2 _ rfl)
    | (go_at_call 107; refine (CB.out _ (hi1.own hPB _ _)).mono ?_; rintro e w3 ⟨a, n, cap, rfl, ⟨hk3, hi3⟩, hv3⟩; have b3 := Lib.hid ((b1.out.set (.string ⟨(nameTxt st).toArray⟩) (j := 2) (by simp [bare])).kept hk3 hne); obtain ⟨c9, f9⟩ := b3.out 9 _ rfl))
  go_end0
  refine ⟨rfl, (((Kept2.of hk1).set _ _).trans (.of hk3)).set _ _, by rw [HA.out.1]; exact hi3.own hPB _ _, _, b3.out.set (.slice a n cap) (j := 9) (by simp [bare]), ⟨k, l, ⟨(nameTxt st).toArray⟩, ⟨#[]⟩, none, 0, 0, 0, 0, ⟨#[]⟩, none, 0, 0, a, n, cap, none, 0, 0, rfl⟩, fun s hs => ?_⟩
  obtain ⟨b, hb, rfl⟩ := HA.out.2 s hs
  have s2 : w.heap.size ≤ (w1.setCell ⟨B, 2, none⟩ (.string ⟨(nameTxt st).toArray⟩)).heap.size := by simpa [World.setCell] using s1
  obtain ⟨rfl, hl⟩ := (hv3 b hb).turn (stay ((Kept2.refl P B w3).set 9 (.slice a n cap)) (by omega) (by omega) s2)
  exact ⟨_, _, _, _, _, a, cap, none, 0, rfl, slE_nil, rdE_none, hl, .inl rfl⟩

set_option maxHeartbeats 1000000 in
set_option maxRecDepth 100000 in
theorem loop_any (f : Pa Sm) (M : Nat) (hm : BM f M) (k l : Nat) (w : World) (P B : Nat) (all : List Tok.T) (st : St) (h : Is w P all st) (hr : st.rem.length ≤ M) (hB : Box w B (bare k l)) (hPB : P < B) :
    Calls Tryz.prog 173 #[.pointer (some ⟨P, 0, none⟩), .pointer (some ⟨B, 0, none⟩)] w (PostM (loopP f k l) P B all st w) := by
  have HA := Lib.hid (after_loop f k l st)
  have CE := Lib.hid (exprA_any w P all st h)
  have CB := Lib.hid (fun w h => hm w P all (after exprA st) h (Nat.le_trans (after_mon mon_exprA st) hr))
  have HB := Lib.hid hB
  have hne : B ≠ P := by omega
  have hBl : B < w.heap.size := block_lt_of_cell (a := ⟨B, 0, none⟩) (hB 0 _ rfl).1
  clear h hB hm hr
  go_enter Tryz.func173, Tryz.ntmps173
  go_wp2_with (first
    | (go_at_call 40; refine CE.out.mono ?_; rintro e w1 ⟨op, n1, nm, a1, len, cap1, rfl, hk1, hi1, hv1⟩; have s1 := hk1.size; have b1 := Lib.hid (HB.out.kept hk1 hne); obtain ⟨c5, f5⟩ := b1.out 5 _ rfl; obtain ⟨c6, f6⟩ := b1.out 6 _ rfl; obtain ⟨c7, f7⟩ := b1.out 7 _ rfl; obtain ⟨c8, f8⟩ := b1.out 8 _ rfl)
    | (go_at_call 107; refine (CB.out _ ((((hi1.own hPB _ _).own hPB _ _).own hPB _ _).own hPB _ _)).mono ?_; rintro e w3 ⟨a, n, cap, rfl, ⟨hk3, hi3⟩, hv3⟩; have b3 := Lib.hid (((((b1.out.set (.int .i64 op) (j := 5) (by simp [bare])).set (.int .i64 n1) (j := 6) (by simp [bare])).set (.string nm) (j := 7) (by simp [bare])).set (.slice a1 len cap1) (j := 8) (by simp [bare])).kept hk3 hne); obtain ⟨c9, f9⟩ := b3.out 9 _ rfl))
  go_end0
  have hk4 := ((((Kept2.refl P B w1).set 5 (.int .i64 op)).set 6 (.int .i64 n1)).set 7 (.string nm)).set 8 (.slice a1 len cap1) |>.trans (.of hk3) |>.set 9 (.slice a n cap)
  refine ⟨rfl, (Kept2.of hk1).trans hk4, by rw [HA.out.1]; exact hi3.own hPB _ _, _, b3.out.set (.slice a n cap) (j := 9) (by simp [bare]), ⟨k, l, ⟨#[]⟩, ⟨#[]⟩, none, 0, 0, op, n1, nm, a1, len, cap1, a, n, cap, none, 0, 0, rfl⟩, fun s hs => ?_⟩
  obtain ⟨x, b, hx, hb, rfl⟩ := HA.out.2 s hs
  have s2 : w.heap.size ≤ ((((w1.setCell ⟨B, 5, none⟩ (.int .i64 op)).setCell ⟨B, 6, none⟩ (.int .i64 n1)).setCell ⟨B, 7, none⟩ (.string nm)).setCell ⟨B, 8, none⟩ (.slice a1 len cap1)).heap.size := by simpa [World.setCell] using s1
  obtain ⟨rfl, hl⟩ := (hv3 b hb).turn (stay ((Kept2.refl P B w3).set 9 (.slice a n cap)) (by omega) (by omega) s2)
  exact ⟨_, _, _, _, _, a, cap, none, 0, rfl, slE_nil, RdE.turn (stay hk4 (by omega) hBl (Nat.le_refl _)) _ _ (hv1 x hx), hl, .inl rfl⟩
end Go.Proofs.YteekcepbogndlaaGreatDoor
