/-
  Contracts of nameOnly, setting, getting of package parse.
-/
import Derived.Test.YteekcepbogndlaaGreatDoorPstD
import Derived.Test.YteekcepbogndlaaGreatDoorParK
namespace Go.Proofs.YteekcepbogndlaaGreatDoor
open Go.RowKit
open Par

namespace Par
open Tok (T Bs)
theorem exprA_eq (ts : List T) : exprA ts = exprP (unaryF (ts.length + 1)) ts := rfl
theorem exprA_any (w : World) (P : Nat) (all : List T) (st : St) (h : Is w P all st) : Calls Tryz.prog 40 #[.pointer (some ⟨P, 0, none⟩)] w (PostE exprA P all st w) := by
  obtain ⟨n, hn⟩ : ∃ n, n = st.rem.length := ⟨_, rfl⟩
  obtain ⟨F, hF⟩ : ∃ F, F = exprP (unaryF (n + 1)) := ⟨_, rfl⟩
  have h1 := expr_all n w P all st h (Nat.le_of_eq hn.symm)
  rw [← hF] at h1
  have e : after exprA st = after F st ∧ val exprA st = val F st := by
    cases st with
    | off r => exact ⟨rfl, rfl⟩
    | on r =>
      have e1 : exprA r = F r := by
        rw [exprA_eq, hF, hn]
        rfl
      simp only [after, val, e1, and_self]
  unfold PostE
  rw [e.1, e.2]
  exact h1
theorem Kept2.cell {P B : Nat} {w w' : World} (k : Kept2 P B w w') {g o : Nat} (hg : g < w.heap.size) (hp : g ≠ P) (hb : g ≠ B) : w'.cell? ⟨g, o, none⟩ = w.cell? ⟨g, o, none⟩ := World.cell?_of_block (w := w) (k.block g hg hp hb)
theorem stay {P B n m : Nat} {w w' : World} (k : Kept2 P B w w') (hP : P < n) (hB : B < n) (hm : m ≤ n) : ∀ g o u, From n g → w.cell? ⟨g, o, none⟩ = some u → w'.cell? ⟨g, o, none⟩ = some u ∧ From m g := fun g o u hg hc => by
  have hg2 : n ≤ g := hg
  exact ⟨(k.cell (g := g) (block_lt_of_cell (a := ⟨g, o, none⟩) hc) (by omega) (by omega)).trans hc, Nat.le_trans hm hg2⟩
theorem Box.kept {P : Nat} {w w' : World} {b : Nat} {vs : List Value} (h : Box w b vs) (k : Kept P w w') (hb : b ≠ P) : Box w' b vs := fun j u hj => by
  obtain ⟨h1, h2⟩ := h j u hj
  have hl : b < w.heap.size := block_lt_of_cell (a := ⟨b, j, none⟩) h1
  exact ⟨(k.cell hl hb).trans h1, (k.frozen hl hb).trans h2⟩
theorem Is.own {w : World} {P B : Nat} {all : List T} {st : St} (h : Is w P all st) (hB : P < B) (o : Nat) (u : Value) : Is (w.setCell ⟨B, o, none⟩ u) P all st := h.past ((Below.refl _ _).setCell (p := ⟨B, o, none⟩) hB _)
theorem slE_nil {w : World} {S : Nat → Prop} : SlE w S [] (.slice none 0 0) := ⟨none, 0, rfl, .inl rfl⟩
theorem rdE_none {w : World} {S : Nat → Prop} : RdE w S zeroE (.agg #[.int .i64 0, .int .i64 0, .string ⟨#[]⟩, .slice none 0 0]) := ⟨_, _, rfl, .inl rfl⟩
theorem after_only (k l : Nat) (st : St) : after (onlyP k l) st = expSt [59] (nameSt st) ∧ ∀ s, val (onlyP k l) st = some s → s = .mk k l (nameTxt st) [] [] zeroE [] [] := by
  refine ⟨by unfold onlyP; rw [after_andThen _ _ [], after_andThen _ _ (), after_give, after_exp, after_nameP], fun s hs => ?_⟩
  obtain ⟨nm, h1, h2⟩ := val_andThen hs
  obtain ⟨_, _, h3⟩ := val_andThen h2
  rw [← val_give h3, val_nameP h1]
theorem after_get (k l : Nat) (st : St) : after (getP k l) st = expSt [59] (nameSt (nameSt st)) ∧ ∀ s, val (getP k l) st = some s → s = .mk k l (nameTxt st) (nameTxt (nameSt st)) [] zeroE [] [] := by
  refine ⟨by unfold getP; rw [after_andThen _ _ [], after_andThen _ _ [], after_andThen _ _ (), after_give, after_exp, after_nameP, after_nameP], fun s hs => ?_⟩
  obtain ⟨nm, h1, h2⟩ := val_andThen hs
  obtain ⟨a, h3, h4⟩ := val_andThen h2
  obtain ⟨_, _, h5⟩ := val_andThen h4
  rw [after_nameP] at h3
  rw [← val_give h5, val_nameP h1, val_nameP h3]
theorem after_set (k l : Nat) (st : St) : after (setP k l) st = expSt [59] (after exprA (nameSt st)) ∧ ∀ s, val (setP k l) st = some s → ∃ e, val exprA (nameSt st) = some e ∧ s = .mk k l (nameTxt st) [] [] e [] [] := by
  refine ⟨by unfold setP; rw [after_andThen _ _ [], after_andThen _ _ zeroE, after_andThen _ _ (), after_give, after_exp, after_nameP], fun s hs => ?_⟩
  obtain ⟨nm, h1, h2⟩ := val_andThen hs
  obtain ⟨e, h3, h4⟩ := val_andThen h2
  obtain ⟨_, _, h5⟩ := val_andThen h4
  rw [after_nameP] at h3
  exact ⟨e, h3, by rw [← val_give h5, val_nameP h1]⟩
end Par

set_option maxHeartbeats 1000000 in
set_option maxRecDepth 100000 in
theorem nameOnly_any (k l : Nat) (w : World) (P B : Nat) (all : List Tok.T) (st : St) (h : Is w P all st) (hB : Box w B (bare k l)) (hPB : P < B) :
    Calls Tryz.prog 176 #[.pointer (some ⟨P, 0, none⟩), .pointer (some ⟨B, 0, none⟩)] w (PostM (onlyP k l) P B all st w) := by
  have HA := Lib.hid (after_only k l st)
  have CN := Lib.hid (name_any w P all st h)
  have HB := Lib.hid hB
  have hne : B ≠ P := by omega
  clear h hB
  go_enter Tryz.func176, Tryz.ntmps176
  go_wp2_with (first
    | (go_at_call 102; refine CN.out.mono ?_; rintro e w1 ⟨rfl, hk1, hi1⟩; have b1 := Lib.hid (HB.out.kept hk1 hne); obtain ⟨c2, f2⟩ := b1.out 2 _ rfl)
    | (go_at_call 105; refine (expect_any _ P all _ ⟨#[59]⟩ (hi1.own hPB _ _) (by decide)).mono ?_; rintro e w2 ⟨rfl, hk2, hi2⟩))
  go_end0
  refine ⟨rfl, ((Kept2.of hk1).set _ _).trans (.of hk2), by rw [HA.out.1]; exact hi2, _, (b1.out.set (.string ⟨(nameTxt st).toArray⟩) (j := 2) (by simp [bare])).kept hk2 hne, ⟨k, l, ⟨(nameTxt st).toArray⟩, ⟨#[]⟩, none, 0, 0, 0, 0, ⟨#[]⟩, none, 0, 0, none, 0, 0, none, 0, 0, rfl⟩, fun s hs => ?_⟩
  obtain rfl := HA.out.2 s hs
  exact ⟨_, _, _, _, _, none, 0, none, 0, rfl, slE_nil, rdE_none, .inl rfl, .inl rfl⟩

set_option maxHeartbeats 1000000 in
set_option maxRecDepth 100000 in
theorem getting_any (k l : Nat) (w : World) (P B : Nat) (all : List Tok.T) (st : St) (h : Is w P all st) (hB : Box w B (bare k l)) (hPB : P < B) :
    Calls Tryz.prog 178 #[.pointer (some ⟨P, 0, none⟩), .pointer (some ⟨B, 0, none⟩)] w (PostM (getP k l) P B all st w) := by
  have HA := Lib.hid (after_get k l st)
  have CN := Lib.hid (name_any w P all st h)
  have HB := Lib.hid hB
  have hne : B ≠ P := by omega
  clear h hB
  go_enter Tryz.func178, Tryz.ntmps178
  go_wp2_with (first
    | (go_at_call 102; refine (name_any _ P all _ (hi1.own hPB _ _)).mono ?_; rintro e w3 ⟨rfl, hk3, hi3⟩; have b3 := Lib.hid ((b1.out.set (.string ⟨(nameTxt st).toArray⟩) (j := 2) (by simp [bare])).kept hk3 hne); obtain ⟨c3, f3⟩ := b3.out 3 _ rfl)
    | (go_at_call 102; refine CN.out.mono ?_; rintro e w1 ⟨rfl, hk1, hi1⟩; have b1 := Lib.hid (HB.out.kept hk1 hne); obtain ⟨c2, f2⟩ := b1.out 2 _ rfl)
    | (go_at_call 105; refine (expect_any _ P all _ ⟨#[59]⟩ (hi3.own hPB _ _) (by decide)).mono ?_; rintro e w2 ⟨rfl, hk2, hi2⟩))
  go_end0
  refine ⟨rfl, ((((Kept2.of hk1).set _ _).trans (.of hk3)).set _ _).trans (.of hk2), by rw [HA.out.1]; exact hi2, _, (b3.out.set (.string ⟨(nameTxt (nameSt st)).toArray⟩) (j := 3) (by simp [bare])).kept hk2 hne,
    ⟨k, l, ⟨(nameTxt st).toArray⟩, ⟨(nameTxt (nameSt st)).toArray⟩, none, 0, 0, 0, 0, ⟨#[]⟩, none, 0, 0, none, 0, 0, none, 0, 0, rfl⟩, fun s hs => ?_⟩
  obtain rfl := HA.out.2 s hs
  exact ⟨_, _, _, _, _, none, 0, none, 0, rfl, slE_nil, rdE_none, .inl rfl, .inl rfl⟩

set_option maxHeartbeats 1000000 in
set_option maxRecDepth 100000 in
theorem setting_any (k l : Nat) (w : World) (P B : Nat) (all : List Tok.T) (st : St) (h : Is w P all st) (hB : Box w B (bare k l)) (hPB : P < B) :
    Calls Tryz.prog 177 #[.pointer (some ⟨P, 0, none⟩), .pointer (some ⟨B, 0, none⟩)] w (PostM (setP k l) P B all st w) := by
  have HA := Lib.hid (after_set k l st)
  have CN := Lib.hid (name_any w P all st h)
  have HB := Lib.hid hB
  have hne : B ≠ P := by omega
  have hBl : B < w.heap.size := block_lt_of_cell (a := ⟨B, 0, none⟩) (hB 0 _ rfl).1
  clear h hB
  go_enter Tryz.func177, Tryz.ntmps177
  go_wp2_with (first
    | (go_at_call 102; refine CN.out.mono ?_; rintro e w1 ⟨rfl, hk1, hi1⟩; have s1 := hk1.size; have b1 := Lib.hid (HB.out.kept hk1 hne); obtain ⟨c2, f2⟩ := b1.out 2 _ rfl)
    | (go_at_call 40; refine (exprA_any _ P all _ (hi1.own hPB _ _)).mono ?_; rintro e w3 ⟨op, n, nm, a, len, cap, rfl, hk3, hi3, hv3⟩; have b3 := Lib.hid ((b1.out.set (.string ⟨(nameTxt st).toArray⟩) (j := 2) (by simp [bare])).kept hk3 hne); obtain ⟨c5, f5⟩ := b3.out 5 _ rfl; obtain ⟨c6, f6⟩ := b3.out 6 _ rfl; obtain ⟨c7, f7⟩ := b3.out 7 _ rfl; obtain ⟨c8, f8⟩ := b3.out 8 _ rfl)
    | (go_at_call 105; refine (expect_any _ P all _ ⟨#[59]⟩ ((((hi3.own hPB _ _).own hPB _ _).own hPB _ _).own hPB _ _) (by decide)).mono ?_; rintro e w2 ⟨rfl, hk2, hi2⟩))
  go_end0
  have hk4 := ((((Kept2.refl P B w3).set 5 (.int .i64 op)).set 6 (.int .i64 n)).set 7 (.string nm)).set 8 (.slice a len cap) |>.trans (.of hk2)
  refine ⟨rfl, (((Kept2.of hk1).set _ _).trans (.of hk3)).trans hk4, by rw [HA.out.1]; exact hi2, _, ((((b3.out.set (.int .i64 op) (j := 5) (by simp [bare])).set (.int .i64 n) (j := 6) (by simp [bare])).set (.string nm) (j := 7) (by simp [bare])).set (.slice a len cap) (j := 8) (by simp [bare])).kept hk2 hne,
    ⟨k, l, ⟨(nameTxt st).toArray⟩, ⟨#[]⟩, none, 0, 0, op, n, nm, a, len, cap, none, 0, 0, none, 0, 0, rfl⟩, fun s hs => ?_⟩
  obtain ⟨e, he, rfl⟩ := HA.out.2 s hs
  have s2 : w.heap.size ≤ (w1.setCell ⟨B, 2, none⟩ (.string ⟨(nameTxt st).toArray⟩)).heap.size := by simpa [World.setCell] using s1
  exact ⟨_, _, _, _, _, none, 0, none, 0, rfl, slE_nil, RdE.turn (stay hk4 (by omega) (by omega) s2) _ _ (hv3 e he), .inl rfl, .inl rfl⟩
end Go.Proofs.YteekcepbogndlaaGreatDoor
