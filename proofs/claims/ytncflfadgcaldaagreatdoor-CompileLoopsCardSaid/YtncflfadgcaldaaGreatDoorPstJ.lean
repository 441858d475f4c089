/-
  Readers of statements leave no more tokens than there were, and statements take at least one.
  Contracts of nameOnly, setting, getting of package parse.
  Contracts of plainBlock, namedBlock, loop, choice of package parse, over that of block.
  The contract of choice of package parse.
  The contract of keywordStatement of package parse.
  The contract of block of package parse, over that of statement.
  Contracts of index and assignment of package parse.
-/
import Derived.Test.YtncflfadgcaldaaGreatDoorPstA
import Derived.Test.YtncflfadgcaldaaGreatDoorPstD
import Derived.Test.YtncflfadgcaldaaGreatDoorParK
import Derived.Test.YtncflfadgcaldaaGreatDoorParH
import Derived.Maps.AppendAt
import Derived.Deep.AppendLies
namespace Go.Proofs.YtncflfadgcaldaaGreatDoor.Par
open Tok (Bs T)

/-- A reader that leaves no more tokens than there were, whether it succeeds or fails. -/
def Mon {α : Type} (f : Pa α) : Prop := Le f ∧ Er f
theorem after_mon {α : Type} {f : Pa α} (h : Mon f) (st : St) : (after f st).rem.length ≤ st.rem.length := by
  cases st with
  | off r => exact Nat.le_refl _
  | on r =>
    simp only [after]
    split
    · rename_i q hq
      exact h.2 _ _ hq
    · rename_i a q hq
      exact h.1 _ _ _ hq
theorem mon_andThen {α β : Type} {f : Pa α} {g : α → Pa β} (hf : Mon f) (hg : ∀ a, Mon (g a)) : Mon (andThen f g) := by
  constructor
  · intro ts b r h
    simp only [andThen] at h
    split at h
    · cases h
    · rename_i a q hq
      exact Nat.le_trans ((hg a).1 _ _ _ h) (hf.1 _ _ _ hq)
  · intro ts q h
    simp only [andThen] at h
    split at h
    · rename_i q2 hq
      have := hf.2 _ _ hq
      cases h
      exact this
    · rename_i a q2 hq
      exact Nat.le_trans ((hg a).2 _ _ h) (hf.1 _ _ _ hq)
theorem mon_give {α : Type} (a : α) : Mon (give a) := ⟨fun ts b r h => by simp only [give] at h; cases h; exact Nat.le_refl _, fun ts q h => by simp [give] at h⟩
theorem mon_exp (s : Bs) : Mon (exp s) := by
  constructor
  · intro ts a r h
    simp only [exp] at h
    split at h
    · cases h; exact tail_le _
    · cases h
  · intro ts q h
    simp only [exp] at h
    split at h
    · cases h
    · cases h; exact Nat.le_refl _
theorem mon_nameP : Mon nameP := by
  constructor
  · intro ts a r h
    simp only [nameP] at h
    split at h
    · cases h; exact tail_le _
    · cases h
  · intro ts q h
    simp only [nameP] at h
    split at h
    · cases h
    · cases h; exact Nat.le_refl _
theorem exprA_lt : Lt exprA := fun ts a r h => exprP_lt (unaryF_lt _) ts a r h
theorem exprA_er : Er exprA := fun ts q h => exprP_er (unaryF_lt _) (unaryF_er _) ts q h
theorem mon_exprA : Mon exprA := ⟨fun ts a r h => Nat.le_of_lt (exprA_lt ts a r h), exprA_er⟩
theorem mon_index : Mon (index exprA) := ⟨index_le exprA_lt, index_er exprA_lt exprA_er⟩
theorem stmtsL_mon {f : Pa Sm} (hf : Mon f) : ∀ n acc, Mon (stmtsL f n acc)
  | 0, acc => ⟨fun ts a r h => by simp [stmtsL] at h, fun ts q h => by simp only [stmtsL] at h; cases h; exact Nat.le_refl _⟩
  | n + 1, acc => by
    constructor
    · intro ts a r h
      simp only [stmtsL] at h
      split at h
      · cases h; exact tail_le _
      · split at h
        · cases h
        · rename_i s q hq
          exact Nat.le_trans ((stmtsL_mon hf n _).1 _ _ _ h) (hf.1 _ _ _ hq)
    · intro ts q h
      simp only [stmtsL] at h
      split at h
      · cases h
      · split at h
        · rename_i q2 hq
          have := hf.2 _ _ hq
          cases h
          exact this
        · rename_i s q2 hq
          exact Nat.le_trans ((stmtsL_mon hf n _).2 _ _ h) (hf.1 _ _ _ hq)
theorem mon_blockP {f : Pa Sm} (hf : Mon f) : Mon (blockP f) :=
  mon_andThen (mon_exp _) fun _ => ⟨fun ts a r h => (stmtsL_mon hf (ts.length + 1) []).1 ts a r h, fun ts q h => (stmtsL_mon hf (ts.length + 1) []).2 ts q h⟩
theorem mon_choiceRest {f : Pa Sm} (hf : Mon f) (op line : Nat) (e : E) (b : List Sm) :
    Mon (fun ts => if txt ts = [101, 108, 115, 101] then andThen (blockP f) (fun c => give (Sm.mk op line [] [] [] e b c)) ts.tail else .ok (Sm.mk op line [] [] [] e b [], ts)) := by
  have hm : Mon (andThen (blockP f) (fun c => give (Sm.mk op line [] [] [] e b c))) := mon_andThen (mon_blockP hf) fun _ => mon_give _
  constructor
  · intro ts a r h
    simp only at h
    split at h
    · exact Nat.le_trans (hm.1 _ _ _ h) (tail_le _)
    · cases h; exact Nat.le_refl _
  · intro ts q h
    simp only at h
    split at h
    · exact Nat.le_trans (hm.2 _ _ h) (tail_le _)
    · cases h
theorem mon_restP {f : Pa Sm} (hf : Mon f) (k line : Nat) : Mon (restP f k line) := by
  unfold restP
  split
  · exact mon_andThen mon_exprA fun e => mon_andThen (mon_blockP hf) fun b => mon_choiceRest hf _ _ _ _
  · split
    · exact mon_andThen mon_exprA fun e => mon_andThen (mon_blockP hf) fun b => mon_give _
    · split
      · exact mon_andThen mon_nameP fun e => mon_andThen (mon_blockP hf) fun b => mon_give _
      · split
        · exact mon_andThen (mon_blockP hf) fun b => mon_give _
        · split
          · exact mon_andThen mon_nameP fun _ => mon_andThen mon_exprA fun _ => mon_andThen (mon_exp _) fun _ => mon_give _
          · split
            · exact mon_andThen mon_nameP fun _ => mon_andThen mon_nameP fun _ => mon_andThen (mon_exp _) fun _ => mon_give _
            · exact mon_andThen mon_nameP fun _ => mon_andThen (mon_exp _) fun _ => mon_give _
theorem nameP_lt : Lt nameP := by
  intro ts a r h
  simp only [nameP] at h
  split at h
  · rename_i hk
    cases h
    exact tail_lt (by rintro rfl; simp [knd] at hk)
  · cases h
theorem assign_eq (ts : List T) : ∃ g : Bs → Pa Sm, (∀ a, Mon (g a)) ∧ assignP ts = andThen nameP g ts :=
  ⟨_, fun _ => mon_andThen mon_index fun _ => mon_andThen (mon_exp _) fun _ => mon_andThen mon_exprA fun _ => mon_andThen (mon_exp _) fun _ => mon_give _, rfl⟩
theorem assignP_lt : Lt assignP := by
  intro ts a r h
  obtain ⟨g, hg, he⟩ := assign_eq ts
  rw [he] at h
  simp only [andThen] at h
  split at h
  · cases h
  · rename_i nm q hq
    exact Nat.lt_of_le_of_lt ((hg nm).1 _ _ _ h) (nameP_lt _ _ _ hq)
theorem assignP_er : Er assignP := by
  intro ts q h
  obtain ⟨g, hg, he⟩ := assign_eq ts
  rw [he] at h
  exact (mon_andThen mon_nameP hg).2 _ _ h
theorem stmtKind_ne {ts : List T} (h : ¬ stmtKind (txt ts) = 0) : ts ≠ [] := by
  rintro rfl
  exact h rfl
theorem step_lt {f : Pa Sm} (hf : Mon f) : Lt (stmtStep f) := by
  intro ts a r h
  simp only [stmtStep] at h
  split at h
  · exact assignP_lt _ _ _ h
  · split at h
    · cases h
    · rename_i hk
      exact Nat.lt_of_le_of_lt ((mon_restP hf _ _).1 _ _ _ h) (tail_lt (stmtKind_ne hk))
theorem step_er {f : Pa Sm} (hf : Mon f) : Er (stmtStep f) := by
  intro ts q h
  simp only [stmtStep] at h
  split at h
  · exact assignP_er _ _ h
  · split at h
    · cases h; exact Nat.le_refl _
    · exact Nat.le_trans ((mon_restP hf _ _).2 _ _ h) (tail_le _)
theorem stmtF_lt : ∀ n, Lt (stmtF n) ∧ Er (stmtF n)
  | 0 => ⟨fun ts a r h => by simp [stmtF] at h, fun ts q h => by simp only [stmtF] at h; cases h; exact Nat.le_refl _⟩
  | n + 1 => by
    obtain ⟨h1, h2⟩ := stmtF_lt n
    have hm : Mon (stmtF n) := ⟨fun ts a r h => Nat.le_of_lt (h1 ts a r h), h2⟩
    exact ⟨step_lt hm, step_er hm⟩
theorem stmtF_mon (n : Nat) : Mon (stmtF n) := ⟨fun ts a r h => Nat.le_of_lt ((stmtF_lt n).1 ts a r h), (stmtF_lt n).2⟩
end Go.Proofs.YtncflfadgcaldaaGreatDoor.Par

namespace Go.Proofs.YtncflfadgcaldaaGreatDoor
open Go.RowKit
open Par

namespace Par
open Tok (T Bs)
theorem exprA_eq (ts : List T) : exprA ts = exprP (unaryF (ts.length + 1)) ts := rfl
theorem exprA_any (w : World) (P : Nat) (all : List T) (st : St) (h : Is w P all st) : Calls Tryz.prog 122 #[.pointer (some ⟨P, 0, none⟩)] w (PostE exprA P all st w) := by
  obtain ⟨n, hn⟩ : ∃ n, n = st.rem.length := ⟨_, rfl⟩
  obtain ⟨F, hF⟩ : ∃ F, F = exprP (unaryF (n + 1)) := ⟨_, rfl⟩
  have h1 := expr_all n w P all st h (Nat.le_of_eq hn.symm)
  rw [← hF] at h1
  have e : after exprA st = after F st ∧ val exprA st = val F st := by
    cases st with
    | off r => exact ⟨rfl, rfl⟩
    | on r =>
      have e1 : exprA r = F r := by
        rw [exprA_eq, hF, hn]
        rfl
      simp only [after, val, e1, and_self]
  unfold PostE
  rw [e.1, e.2]
  exact h1
theorem Kept2.cell {P B : Nat} {w w' : World} (k : Kept2 P B w w') {g o : Nat} (hg : g < w.heap.size) (hp : g ≠ P) (hb : g ≠ B) : w'.cell? ⟨g, o, none⟩ = w.cell? ⟨g, o, none⟩ := World.cell?_of_block (w := w) (k.block g hg hp hb)
theorem stay {P B n m : Nat} {w w' : World} (k : Kept2 P B w w') (hP : P < n) (hB : B < n) (hm : m ≤ n) : ∀ g o u, PF n w g → w.cell? ⟨g, o, none⟩ = some u → w'.cell? ⟨g, o, none⟩ = some u ∧ PF m w' g := fun g o u hg hc => by
  have hg2 : n ≤ g := hg.1
  have hb := k.block g (block_lt_of_cell (a := ⟨g, o, none⟩) hc) (by omega) (by omega)
  exact ⟨(World.cell?_of_block hb).trans hc, Nat.le_trans hm hg2, hg.2.of_block hb⟩
theorem Box.kept {P : Nat} {w w' : World} {b : Nat} {vs : List Value} (h : Box w b vs) (k : Kept P w w') (hb : b ≠ P) : Box w' b vs := fun j u hj => by
  obtain ⟨h1, h2⟩ := h j u hj
  have hl : b < w.heap.size := block_lt_of_cell (a := ⟨b, j, none⟩) h1
  exact ⟨(k.cell hl hb).trans h1, (k.frozen hl hb).trans h2⟩
theorem Is.own {w : World} {P B : Nat} {all : List T} {st : St} (h : Is w P all st) (hB : P < B) (o : Nat) (u : Value) : Is (w.setCell ⟨B, o, none⟩ u) P all st := h.past ((Below.refl _ _).setCell (p := ⟨B, o, none⟩) hB _)
theorem slE_nil {w : World} {S : Nat → Prop} : SlE w S [] (.slice none 0 0) := ⟨none, 0, rfl, .inl rfl⟩
theorem rdE_none {w : World} {S : Nat → Prop} : RdE w S zeroE (.agg #[.int .i64 0, .int .i64 0, .string ⟨#[]⟩, .slice none 0 0]) := ⟨_, _, rfl, .inl rfl⟩
theorem after_only (k l : Nat) (st : St) : after (onlyP k l) st = expSt [59] (nameSt st) ∧ ∀ s, val (onlyP k l) st = some s → s = .mk k l (nameTxt st) [] [] zeroE [] [] := by
  refine ⟨by unfold onlyP; rw [after_andThen _ _ [], after_andThen _ _ (), after_give, after_exp, after_nameP], fun s hs => ?_⟩
  obtain ⟨nm, h1, h2⟩ := val_andThen hs
  obtain ⟨_, _, h3⟩ := val_andThen h2
  rw [← val_give h3, val_nameP h1]
theorem after_get (k l : Nat) (st : St) : after (getP k l) st = expSt [59] (nameSt (nameSt st)) ∧ ∀ s, val (getP k l) st = some s → s = .mk k l (nameTxt st) (nameTxt (nameSt st)) [] zeroE [] [] := by
  refine ⟨by unfold getP; rw [after_andThen _ _ [], after_andThen _ _ [], after_andThen _ _ (), after_give, after_exp, after_nameP, after_nameP], fun s hs => ?_⟩
  obtain ⟨nm, h1, h2⟩ := val_andThen hs
  obtain ⟨a, h3, h4⟩ := val_andThen h2
  obtain ⟨_, _, h5⟩ := val_andThen h4
  rw [after_nameP] at h3
  rw [← val_give h5, val_nameP h1, val_nameP h3]
theorem after_set (k l : Nat) (st : St) : after (setP k l) st = expSt [59] (after exprA (nameSt st)) ∧ ∀ s, val (setP k l) st = some s → ∃ e, val exprA (nameSt st) = some e ∧ s = .mk k l (nameTxt st) [] [] e [] [] := by
  refine ⟨by unfold setP; rw [after_andThen _ _ [], after_andThen _ _ zeroE, after_andThen _ _ (), after_give, after_exp, after_nameP], fun s hs => ?_⟩
  obtain ⟨nm, h1, h2⟩ := val_andThen hs
  obtain ⟨e, h3, h4⟩ := val_andThen h2
  obtain ⟨_, _, h5⟩ := val_andThen h4
  rw [after_nameP] at h3
  exact ⟨e, h3, by rw [← val_give h5, val_nameP h1]⟩
end Par

set_option maxHeartbeats 1000000 in
set_option maxRecDepth 100000 in
theorem nameOnly_any (k l : Nat) (w : World) (P B : Nat) (all : List Tok.T) (st : St) (h : Is w P all st) (hB : Box w B (bare k l)) (hPB : P < B) :
    Calls Tryz.prog 127 #[.pointer (some ⟨P, 0, none⟩), .pointer (some ⟨B, 0, none⟩)] w (PostMe (onlyP k l) P B all st w) := by
  have HA := Lib.hid (after_only k l st)
  have CN := Lib.hid (name_any w P all st h)
  have HB := Lib.hid hB
  have hne : B ≠ P := by omega
  clear h hB
  go_enter Tryz.func127, Tryz.ntmps127
  go_wp2_with (first
    | (go_at_call 34; refine CN.out.mono ?_; rintro e w1 ⟨rfl, hk1, hi1⟩; have b1 := Lib.hid (HB.out.kept hk1 hne); obtain ⟨c2, f2⟩ := b1.out 2 _ rfl)
    | (go_at_call 37; refine (expect_any _ P all _ ⟨#[59]⟩ (hi1.own hPB _ _) (by decide)).mono ?_; rintro e w2 ⟨rfl, hk2, hi2⟩))
  go_end0
  refine ⟨rfl, ((Kept2.of hk1).set _ _).trans (.of hk2), by rw [HA.out.1]; exact hi2, _, (b1.out.set (.string ⟨(nameTxt st).toArray⟩) (j := 2) (by simp [bare])).kept hk2 hne, ⟨k, l, ⟨(nameTxt st).toArray⟩, ⟨#[]⟩, none, 0, 0, 0, 0, ⟨#[]⟩, none, 0, 0, none, 0, 0, none, 0, 0, rfl⟩, fun s hs => ?_⟩
  obtain rfl := HA.out.2 s hs
  exact ⟨_, _, _, _, _, none, 0, none, 0, rfl, slE_nil, rdE_none, .inl rfl, .inl rfl⟩

set_option maxHeartbeats 1000000 in
set_option maxRecDepth 100000 in
theorem getting_any (k l : Nat) (w : World) (P B : Nat) (all : List Tok.T) (st : St) (h : Is w P all st) (hB : Box w B (bare k l)) (hPB : P < B) :
    Calls Tryz.prog 129 #[.pointer (some ⟨P, 0, none⟩), .pointer (some ⟨B, 0, none⟩)] w (PostMe (getP k l) P B all st w) := by
  have HA := Lib.hid (after_get k l st)
  have CN := Lib.hid (name_any w P all st h)
  have HB := Lib.hid hB
  have hne : B ≠ P := by omega
  clear h hB
  go_enter Tryz.func129, Tryz.ntmps129
  go_wp2_with (first
    | (go_at_call 34; refine (name_any _ P all _ (hi1.own hPB _ _)).mono ?_; rintro e w3 ⟨rfl, hk3, hi3⟩; have b3 := Lib.hid ((b1.out.set (.string ⟨(nameTxt st).toArray⟩) (j := 2) (by simp [bare])).kept hk3 hne); obtain ⟨c3, f3⟩ := b3.out 3 _ rfl)
    | (go_at_call 34; refine CN.out.mono ?_; rintro e w1 ⟨rfl, hk1, hi1⟩; have b1 := Lib.hid (HB.out.kept hk1 hne); obtain ⟨c2, f2⟩ := b1.out 2 _ rfl)
    | (go_at_call 37; refine (expect_any _ P all _ ⟨#[59]⟩ (hi3.own hPB _ _) (by decide)).mono ?_; rintro e w2 ⟨rfl, hk2, hi2⟩))
  go_end0
  refine ⟨rfl, ((((Kept2.of hk1).set _ _).trans (.of hk3)).set _ _).trans (.of hk2), by rw [HA.out.1]; exact hi2, _, (b3.out.set (.string ⟨(nameTxt (nameSt st)).toArray⟩) (j := 3) (by simp [bare])).kept hk2 hne,
    ⟨k, l, ⟨(nameTxt st).toArray⟩, ⟨(nameTxt (nameSt st)).toArray⟩, none, 0, 0, 0, 0, ⟨#[]⟩, none, 0, 0, none, 0, 0, none, 0, 0, rfl⟩, fun s hs => ?_⟩
  obtain rfl := HA.out.2 s hs
  exact ⟨_, _, _, _, _, none, 0, none, 0, rfl, slE_nil, rdE_none, .inl rfl, .inl rfl⟩

set_option maxHeartbeats 1000000 in
set_option maxRecDepth 100000 in
theorem setting_any (k l : Nat) (w : World) (P B : Nat) (all : List Tok.T) (st : St) (h : Is w P all st) (hB : Box w B (bare k l)) (hPB : P < B) :
    Calls Tryz.prog 128 #[.pointer (some ⟨P, 0, none⟩), .pointer (some ⟨B, 0, none⟩)] w (PostMe (setP k l) P B all st w) := by
  have HA := Lib.hid (after_set k l st)
  have CN := Lib.hid (name_any w P all st h)
  have HB := Lib.hid hB
  have hne : B ≠ P := by omega
  have hBl : B < w.heap.size := block_lt_of_cell (a := ⟨B, 0, none⟩) (hB 0 _ rfl).1
  clear h hB
  go_enter Tryz.func128, Tryz.ntmps128
  go_wp2_with (first
    | (go_at_call 34; refine CN.out.mono ?_; rintro e w1 ⟨rfl, hk1, hi1⟩; have s1 := hk1.size; have b1 := Lib.hid (HB.out.kept hk1 hne); obtain ⟨c2, f2⟩ := b1.out 2 _ rfl)
    | (go_at_call 122; refine (exprA_any _ P all _ (hi1.own hPB _ _)).mono ?_; rintro e w3 ⟨op, n, nm, a, len, cap, rfl, hk3, hi3, hv3⟩; have b3 := Lib.hid ((b1.out.set (.string ⟨(nameTxt st).toArray⟩) (j := 2) (by simp [bare])).kept hk3 hne); obtain ⟨c5, f5⟩ := b3.out 5 _ rfl; obtain ⟨c6, f6⟩ := b3.out 6 _ rfl; obtain ⟨c7, f7⟩ := b3.out 7 _ rfl; obtain ⟨c8, f8⟩ := b3.out 8 _ rfl)
    | (go_at_call 37; refine (expect_any _ P all _ ⟨#[59]⟩ ((((hi3.own hPB _ _).own hPB _ _).own hPB _ _).own hPB _ _) (by decide)).mono ?_; rintro e w2 ⟨rfl, hk2, hi2⟩))
  go_end0
  have hk4 := ((((Kept2.refl P B w3).set 5 (.int .i64 op)).set 6 (.int .i64 n)).set 7 (.string nm)).set 8 (.slice a len cap) |>.trans (.of hk2)
  refine ⟨rfl, (((Kept2.of hk1).set _ _).trans (.of hk3)).trans hk4, by rw [HA.out.1]; exact hi2, _, ((((b3.out.set (.int .i64 op) (j := 5) (by simp [bare])).set (.int .i64 n) (j := 6) (by simp [bare])).set (.string nm) (j := 7) (by simp [bare])).set (.slice a len cap) (j := 8) (by simp [bare])).kept hk2 hne,
    ⟨k, l, ⟨(nameTxt st).toArray⟩, ⟨#[]⟩, none, 0, 0, op, n, nm, a, len, cap, none, 0, 0, none, 0, 0, rfl⟩, fun s hs => ?_⟩
  obtain ⟨e, he, rfl⟩ := HA.out.2 s hs
  have s2 : w.heap.size ≤ (w1.setCell ⟨B, 2, none⟩ (.string ⟨(nameTxt st).toArray⟩)).heap.size := by simpa [World.setCell] using s1
  exact ⟨_, _, _, _, _, none, 0, none, 0, rfl, slE_nil, RdE.turn (stay hk4 (by omega) (by omega) s2) _ _ (hv3 e he), .inl rfl, .inl rfl⟩
end Go.Proofs.YtncflfadgcaldaaGreatDoor

namespace Go.Proofs.YtncflfadgcaldaaGreatDoor
open Go.RowKit
open Par

namespace Par
open Tok (T Bs)
theorem after_plain (f : Pa Sm) (k l : Nat) (st : St) : after (plainP f k l) st = after (blockP f) st ∧ ∀ s, val (plainP f k l) st = some s → ∃ b, val (blockP f) st = some b ∧ s = .mk k l [] [] [] zeroE b [] := by
  refine ⟨by unfold plainP; rw [after_andThen _ _ [], after_give], fun s hs => ?_⟩
  obtain ⟨b, h1, h2⟩ := val_andThen hs
  exact ⟨b, h1, (val_give h2).symm⟩
theorem after_named (f : Pa Sm) (k l : Nat) (st : St) : after (namedP f k l) st = after (blockP f) (nameSt st) ∧ ∀ s, val (namedP f k l) st = some s → ∃ b, val (blockP f) (nameSt st) = some b ∧ s = .mk k l (nameTxt st) [] [] zeroE b [] := by
  refine ⟨by unfold namedP; rw [after_andThen _ _ [], after_andThen _ _ [], after_give, after_nameP], fun s hs => ?_⟩
  obtain ⟨nm, h1, h2⟩ := val_andThen hs
  obtain ⟨b, h3, h4⟩ := val_andThen h2
  rw [after_nameP] at h3
  exact ⟨b, h3, by rw [← val_give h4, val_nameP h1]⟩
theorem after_loop (f : Pa Sm) (k l : Nat) (st : St) : after (loopP f k l) st = after (blockP f) (after exprA st) ∧ ∀ s, val (loopP f k l) st = some s → ∃ e b, val exprA st = some e ∧ val (blockP f) (after exprA st) = some b ∧ s = .mk k l [] [] [] e b [] := by
  refine ⟨by unfold loopP; rw [after_andThen _ _ zeroE, after_andThen _ _ [], after_give], fun s hs => ?_⟩
  obtain ⟨e, h1, h2⟩ := val_andThen hs
  obtain ⟨b, h3, h4⟩ := val_andThen h2
  exact ⟨e, b, h1, h3, (val_give h4).symm⟩
/-- A slice of statements, or none, as 'block' leaves it, later on. -/
theorem SlS.turn {w w' : World} {S S' : Nat → Prop} (h : ∀ k o u, S k → w.cell? ⟨k, o, none⟩ = some u → w'.cell? ⟨k, o, none⟩ = some u ∧ S' k) {l : List Sm} {a : Option Addr} {n cap : Nat} (hl : SlS w S l (.slice a n cap)) :
    n = l.length ∧ (l = [] ∨ ∃ g xs, a = some ⟨g, 0, none⟩ ∧ S' g ∧ VSs w' S' l xs ∧ ∀ j u, xs[j]? = some u → w'.cell? ⟨g, j, none⟩ = some u) := by
  obtain ⟨a2, cap2, he, hl⟩ := hl
  injection he with h1 h2 h3
  subst h1 h2 h3
  refine ⟨rfl, ?_⟩
  rcases hl with hb | ⟨g, xs, ha, hg, hv, hc⟩
  · exact .inl hb
  · match l, hv with
    | [], _ => exact .inl rfl
    | s :: r, hv =>
      have hv2 := VSs.turn h (s :: r) xs hv
      obtain ⟨cs, rest, rfl, hs, _⟩ := hv
      have h0 : ∃ u, (cs ++ rest)[0]? = some u := by
        have := RdS.len hs
        match cs, this with
        | c :: _, _ => exact ⟨c, rfl⟩
      obtain ⟨u, hu⟩ := h0
      exact .inr ⟨g, _, ha, (h _ _ _ hg (hc _ _ hu)).2, hv2, fun j u hj => (h _ _ _ hg (hc j u hj)).1⟩
end Par

set_option maxHeartbeats 1000000 in
set_option maxRecDepth 100000 in
theorem plainBlock_any (f : Pa Sm) (M : Nat) (hm : BM f M) (k l : Nat) (w : World) (P B : Nat) (all : List Tok.T) (st : St) (h : Is w P all st) (hr : st.rem.length ≤ M) (hB : Box w B (bare k l)) (hPB : P < B) :
    Calls Tryz.prog 126 #[.pointer (some ⟨P, 0, none⟩), .pointer (some ⟨B, 0, none⟩)] w (PostMe (plainP f k l) P B all st w) := by
  have HA := Lib.hid (after_plain f k l st)
  have CB := Lib.hid (hm w P all st h hr)
  have HB := Lib.hid hB
  have hne : B ≠ P := by omega
  have hBl : B < w.heap.size := block_lt_of_cell (a := ⟨B, 0, none⟩) (hB 0 _ rfl).1
  clear h hB hm hr
  go_enter Tryz.func126, Tryz.ntmps126
  go_wp2_with (go_at_call 39; refine CB.out.mono ?_; rintro e w1 ⟨a, n, cap, rfl, ⟨hk1, hi1⟩, hv1⟩; have b1 := Lib.hid (HB.out.kept hk1 hne); obtain ⟨c9, f9⟩ := b1.out 9 _ rfl)
  go_end0
  refine ⟨rfl, (Kept2.of hk1).set _ _, by rw [HA.out.1]; exact hi1.own hPB _ _, _, b1.out.set (.slice a n cap) (j := 9) (by simp [bare]), ⟨k, l, ⟨#[]⟩, ⟨#[]⟩, none, 0, 0, 0, 0, ⟨#[]⟩, none, 0, 0, a, n, cap, none, 0, 0, rfl⟩, fun s hs => ?_⟩
  obtain ⟨b, hb, rfl⟩ := HA.out.2 s hs
  obtain ⟨rfl, hl⟩ := (hv1 b hb).turn (stay ((Kept2.refl P B w1).set 9 (.slice a n cap)) (by omega) hBl (Nat.le_refl _))
  exact ⟨_, _, _, _, _, a, cap, none, 0, rfl, slE_nil, rdE_none, hl, .inl rfl⟩

set_option maxHeartbeats 1000000 in
set_option maxRecDepth 100000 in
theorem namedBlock_any (f : Pa Sm) (M : Nat) (hm : BM f M) (k l : Nat) (w : World) (P B : Nat) (all : List Tok.T) (st : St) (h : Is w P all st) (hr : st.rem.length ≤ M) (hB : Box w B (bare k l)) (hPB : P < B) :
    Calls Tryz.prog 125 #[.pointer (some ⟨P, 0, none⟩), .pointer (some ⟨B, 0, none⟩)] w (PostMe (namedP f k l) P B all st w) := by
  have HA := Lib.hid (after_named f k l st)
  have CN := Lib.hid (name_any w P all st h)
  have CB := Lib.hid (fun w h => hm w P all (nameSt st) h (Nat.le_trans (nameSt_rem st) hr))
  have HB := Lib.hid hB
  have hne : B ≠ P := by omega
  have hBl : B < w.heap.size := block_lt_of_cell (a := ⟨B, 0, none⟩) (hB 0 _ rfl).1
  clear h hB hm hr
  go_enter Tryz.func125, Tryz.ntmps125
  go_wp2_with (first
    | (go_at_call 34; refine CN.out.mono ?_; rintro e w1 ⟨rfl, hk1, hi1⟩; have s1 := hk1.size; have b1 := Lib.hid (HB.out.kept hk1 hne); obtain ⟨c2, f2⟩ := b1.out 2 _ rfl)
    | (go_at_call 39; refine (CB.out _ (hi1.own hPB _ _)).mono ?_; rintro e w3 ⟨a, n, cap, rfl, ⟨hk3, hi3⟩, hv3⟩; have b3 := Lib.hid ((b1.out.set (.string ⟨(nameTxt st).toArray⟩) (j := 2) (by simp [bare])).kept hk3 hne); obtain ⟨c9, f9⟩ := b3.out 9 _ rfl))
  go_end0
  refine ⟨rfl, (((Kept2.of hk1).set _ _).trans (.of hk3)).set _ _, by rw [HA.out.1]; exact hi3.own hPB _ _, _, b3.out.set (.slice a n cap) (j := 9) (by simp [bare]), ⟨k, l, ⟨(nameTxt st).toArray⟩, ⟨#[]⟩, none, 0, 0, 0, 0, ⟨#[]⟩, none, 0, 0, a, n, cap, none, 0, 0, rfl⟩, fun s hs => ?_⟩
  obtain ⟨b, hb, rfl⟩ := HA.out.2 s hs
  have s2 : w.heap.size ≤ (w1.setCell ⟨B, 2, none⟩ (.string ⟨(nameTxt st).toArray⟩)).heap.size := by simpa [World.setCell] using s1
  obtain ⟨rfl, hl⟩ := (hv3 b hb).turn (stay ((Kept2.refl P B w3).set 9 (.slice a n cap)) (by omega) (by omega) s2)
  exact ⟨_, _, _, _, _, a, cap, none, 0, rfl, slE_nil, rdE_none, hl, .inl rfl⟩

set_option maxHeartbeats 1000000 in
set_option maxRecDepth 100000 in
theorem loop_any (f : Pa Sm) (M : Nat) (hm : BM f M) (k l : Nat) (w : World) (P B : Nat) (all : List Tok.T) (st : St) (h : Is w P all st) (hr : st.rem.length ≤ M) (hB : Box w B (bare k l)) (hPB : P < B) :
    Calls Tryz.prog 124 #[.pointer (some ⟨P, 0, none⟩), .pointer (some ⟨B, 0, none⟩)] w (PostMe (loopP f k l) P B all st w) := by
  have HA := Lib.hid (after_loop f k l st)
  have CE := Lib.hid (exprA_any w P all st h)
  have CB := Lib.hid (fun w h => hm w P all (after exprA st) h (Nat.le_trans (after_mon mon_exprA st) hr))
  have HB := Lib.hid hB
  have hne : B ≠ P := by omega
  have hBl : B < w.heap.size := block_lt_of_cell (a := ⟨B, 0, none⟩) (hB 0 _ rfl).1
  clear h hB hm hr
  go_enter Tryz.func124, Tryz.ntmps124
  go_wp2_with (first
    | (go_at_call 122; refine CE.out.mono ?_; rintro e w1 ⟨op, n1, nm, a1, len, cap1, rfl, hk1, hi1, hv1⟩; have s1 := hk1.size; have b1 := Lib.hid (HB.out.kept hk1 hne); obtain ⟨c5, f5⟩ := b1.out 5 _ rfl; obtain ⟨c6, f6⟩ := b1.out 6 _ rfl; obtain ⟨c7, f7⟩ := b1.out 7 _ rfl; obtain ⟨c8, f8⟩ := b1.out 8 _ rfl)
    | (go_at_call 39; refine (CB.out _ ((((hi1.own hPB _ _).own hPB _ _).own hPB _ _).own hPB _ _)).mono ?_; rintro e w3 ⟨a, n, cap, rfl, ⟨hk3, hi3⟩, hv3⟩; have b3 := Lib.hid (((((b1.out.set (.int .i64 op) (j := 5) (by simp [bare])).set (.int .i64 n1) (j := 6) (by simp [bare])).set (.string nm) (j := 7) (by simp [bare])).set (.slice a1 len cap1) (j := 8) (by simp [bare])).kept hk3 hne); obtain ⟨c9, f9⟩ := b3.out 9 _ rfl))
  go_end0
  have hk4 := ((((Kept2.refl P B w1).set 5 (.int .i64 op)).set 6 (.int .i64 n1)).set 7 (.string nm)).set 8 (.slice a1 len cap1) |>.trans (.of hk3) |>.set 9 (.slice a n cap)
  refine ⟨rfl, (Kept2.of hk1).trans hk4, by rw [HA.out.1]; exact hi3.own hPB _ _, _, b3.out.set (.slice a n cap) (j := 9) (by simp [bare]), ⟨k, l, ⟨#[]⟩, ⟨#[]⟩, none, 0, 0, op, n1, nm, a1, len, cap1, a, n, cap, none, 0, 0, rfl⟩, fun s hs => ?_⟩
  obtain ⟨x, b, hx, hb, rfl⟩ := HA.out.2 s hs
  have s2 : w.heap.size ≤ ((((w1.setCell ⟨B, 5, none⟩ (.int .i64 op)).setCell ⟨B, 6, none⟩ (.int .i64 n1)).setCell ⟨B, 7, none⟩ (.string nm)).setCell ⟨B, 8, none⟩ (.slice a1 len cap1)).heap.size := by simpa [World.setCell] using s1
  obtain ⟨rfl, hl⟩ := (hv3 b hb).turn (stay ((Kept2.refl P B w3).set 9 (.slice a n cap)) (by omega) (by omega) s2)
  exact ⟨_, _, _, _, _, a, cap, none, 0, rfl, slE_nil, RdE.turn (stay hk4 (by omega) hBl (Nat.le_refl _)) _ _ (hv1 x hx), hl, .inl rfl⟩
end Go.Proofs.YtncflfadgcaldaaGreatDoor

namespace Go.Proofs.YtncflfadgcaldaaGreatDoor
open Go.RowKit
open Par

namespace Par
open Tok (T Bs)
def choiceRest (f : Pa Sm) (k l : Nat) (e : E) (b : List Sm) : Pa Sm := fun ts =>
  if txt ts = [101, 108, 115, 101] then andThen (blockP f) (fun c => give (Sm.mk k l [] [] [] e b c)) ts.tail else .ok (Sm.mk k l [] [] [] e b [], ts)
theorem choice_eq (f : Pa Sm) (k l : Nat) : choiceP f k l = andThen exprA fun e => andThen (blockP f) fun b => choiceRest f k l e b := rfl
theorem choice_no {f : Pa Sm} {k l : Nat} {st : St} (h : txt (after (blockP f) (after exprA st)).see ≠ [101, 108, 115, 101]) : after (choiceP f k l) st = after (blockP f) (after exprA st) ∧
    ∀ s, val (choiceP f k l) st = some s → ∃ e b, val exprA st = some e ∧ val (blockP f) (after exprA st) = some b ∧ s = Sm.mk k l [] [] [] e b [] := by
  have hr : ∀ (st3 : St), txt st3.see ≠ [101, 108, 115, 101] → ∀ e b, after (choiceRest f k l e b) st3 = st3 ∧ ∀ s, val (choiceRest f k l e b) st3 = some s → s = Sm.mk k l [] [] [] e b [] := by
    intro st3 h3 e b
    cases st3 with
    | off r => exact ⟨rfl, fun s hs => by cases hs⟩
    | on r =>
      have e1 : choiceRest f k l e b r = .ok (Sm.mk k l [] [] [] e b [], r) := if_neg h3
      exact ⟨by simp only [after, e1], fun s hs => by simp only [val, e1] at hs; cases hs; rfl⟩
  rw [choice_eq]
  refine ⟨by rw [after_andThen _ _ zeroE, after_andThen _ _ [], (hr _ h _ _).1], fun s hs => ?_⟩
  obtain ⟨e, h1, h2⟩ := val_andThen hs
  obtain ⟨b, h3, h4⟩ := val_andThen h2
  exact ⟨e, b, h1, h3, (hr _ h e b).2 s h4⟩
theorem choice_yes {f : Pa Sm} {k l : Nat} {st : St} {t : T} {r : List T} (h : after (blockP f) (after exprA st) = .on (t :: r)) (ht : t.2.1 = [101, 108, 115, 101]) : after (choiceP f k l) st = after (blockP f) (.on r) ∧
    ∀ s, val (choiceP f k l) st = some s → ∃ e b c, val exprA st = some e ∧ val (blockP f) (after exprA st) = some b ∧ val (blockP f) (.on r) = some c ∧ s = Sm.mk k l [] [] [] e b c := by
  have hr : ∀ e b, after (choiceRest f k l e b) (.on (t :: r)) = after (blockP f) (.on r) ∧ ∀ s, val (choiceRest f k l e b) (.on (t :: r)) = some s → ∃ c, val (blockP f) (.on r) = some c ∧ s = Sm.mk k l [] [] [] e b c := by
    intro e b
    have e1 : choiceRest f k l e b (t :: r) = andThen (blockP f) (fun c => give (Sm.mk k l [] [] [] e b c)) r := if_pos ht
    have e2 : after (choiceRest f k l e b) (.on (t :: r)) = after (andThen (blockP f) (fun c => give (Sm.mk k l [] [] [] e b c))) (.on r) := by simp only [after, e1]
    have e3 : val (choiceRest f k l e b) (.on (t :: r)) = val (andThen (blockP f) (fun c => give (Sm.mk k l [] [] [] e b c))) (.on r) := by simp only [val, e1]
    rw [e2, e3]
    refine ⟨by rw [after_andThen _ _ [], after_give], fun s hs => ?_⟩
    obtain ⟨c, h1, h2⟩ := val_andThen hs
    exact ⟨c, h1, (val_give h2).symm⟩
  rw [choice_eq]
  refine ⟨by rw [after_andThen _ _ zeroE, after_andThen _ _ [], h, (hr _ _).1], fun s hs => ?_⟩
  obtain ⟨e, h1, h2⟩ := val_andThen hs
  obtain ⟨b, h3, h4⟩ := val_andThen h2
  rw [h] at h4
  obtain ⟨c, h5, h6⟩ := (hr e b).2 s h4
  exact ⟨e, b, c, h1, h3, h5, h6⟩
end Par

set_option maxHeartbeats 2000000 in
set_option maxRecDepth 100000 in
theorem choice_any (f : Pa Sm) (hf : Mon f) (M : Nat) (hm : BM f M) (k l : Nat) (w : World) (P B : Nat) (all : List Tok.T) (st : St) (h : Is w P all st) (hr : st.rem.length ≤ M) (hB : Box w B (bare k l)) (hPB : P < B) :
    Calls Tryz.prog 123 #[.pointer (some ⟨P, 0, none⟩), .pointer (some ⟨B, 0, none⟩)] w (PostMe (choiceP f k l) P B all st w) := by
  have hr1 := Nat.le_trans (after_mon mon_exprA st) hr
  have hr2 := Nat.le_trans (after_mon (mon_blockP hf) (after exprA st)) hr1
  have CE := Lib.hid (exprA_any w P all st h)
  have CB := Lib.hid (fun w h => hm w P all (after exprA st) h hr1)
  have HB := Lib.hid hB
  have hne : B ≠ P := by omega
  have hBl : B < w.heap.size := block_lt_of_cell (a := ⟨B, 0, none⟩) (hB 0 _ rfl).1
  clear h hB hr hr1
  by_cases ht : txt (after (blockP f) (after exprA st)).see = [101, 108, 115, 101]
  · obtain ⟨t, r, h3, ht2⟩ := see_cons ht (by simp)
    have HA := Lib.hid (choice_yes (k := k) (l := l) h3 ht2)
    rw [h3] at hr2
    have CS := Lib.hid (fun w h => skip_yes w P all t r ⟨#[101, 108, 115, 101]⟩ h ht2)
    have CC := Lib.hid (fun w h => hm w P all (.on r) h (by simp only [St.rem, List.length_cons] at hr2 ⊢; omega))
    have H3 := Lib.hid h3
    clear hm ht ht2 h3 hr2
    go_enter Tryz.func123, Tryz.ntmps123
    go_wp2_with (first
      | (go_at_call 122; refine CE.out.mono ?_; rintro e w1 ⟨op, n1, nm, a1, len, cap1, rfl, hk1, hi1, hv1⟩; have s1 := hk1.size; have b1 := Lib.hid (HB.out.kept hk1 hne); obtain ⟨c5, f5⟩ := b1.out 5 _ rfl; obtain ⟨c6, f6⟩ := b1.out 6 _ rfl; obtain ⟨c7, f7⟩ := b1.out 7 _ rfl; obtain ⟨c8, f8⟩ := b1.out 8 _ rfl)
      | (go_at_call 66; refine (CS.out _ (hi3.own hPB _ _)).mono ?_; rintro e w4 ⟨rfl, hk4, hi4⟩; have b4 := Lib.hid ((b3.out.set (.slice a n cap) (j := 9) (by simp [bare])).kept hk4 hne))
      | (go_at_call 39; refine (CC.out _ hi4).mono ?_; rintro e w5 ⟨a5, n5, cap5, rfl, ⟨hk5, hi5⟩, hv5⟩; have b5 := Lib.hid (b4.out.kept hk5 hne); obtain ⟨c10, f10⟩ := b5.out 10 _ rfl)
      | (go_at_call 39; refine (CB.out _ ((((hi1.own hPB _ _).own hPB _ _).own hPB _ _).own hPB _ _)).mono ?_; rintro e w3 ⟨a, n, cap, rfl, ⟨hk3, hi3⟩, hv3⟩; rw [H3.out] at hi3; have b3 := Lib.hid (((((b1.out.set (.int .i64 op) (j := 5) (by simp [bare])).set (.int .i64 n1) (j := 6) (by simp [bare])).set (.string nm) (j := 7) (by simp [bare])).set (.slice a1 len cap1) (j := 8) (by simp [bare])).kept hk3 hne); obtain ⟨c9, f9⟩ := b3.out 9 _ rfl))
    go_end0
    have k3 := ((Kept2.refl P B w3).set 9 (.slice a n cap)).trans (.of hk4) |>.trans (.of hk5) |>.set 10 (.slice a5 n5 cap5)
    have k1 := ((((Kept2.refl P B w1).set 5 (.int .i64 op)).set 6 (.int .i64 n1)).set 7 (.string nm)).set 8 (.slice a1 len cap1) |>.trans (.of hk3) |>.trans k3
    refine ⟨rfl, (Kept2.of hk1).trans k1, by rw [HA.out.1]; exact hi5.own hPB _ _, _, b5.out.set (.slice a5 n5 cap5) (j := 10) (by simp [bare]), ⟨k, l, ⟨#[]⟩, ⟨#[]⟩, none, 0, 0, op, n1, nm, a1, len, cap1, a, n, cap, a5, n5, cap5, rfl⟩, fun s hs => ?_⟩
    obtain ⟨x, b, c, hx, hb, hc, rfl⟩ := HA.out.2 s hs
    have s2 : w.heap.size ≤ ((((w1.setCell ⟨B, 5, none⟩ (.int .i64 op)).setCell ⟨B, 6, none⟩ (.int .i64 n1)).setCell ⟨B, 7, none⟩ (.string nm)).setCell ⟨B, 8, none⟩ (.slice a1 len cap1)).heap.size := by simpa [World.setCell] using s1
    have s3 := hk3.size
    have s4 := hk4.size
    have s4' : w3.heap.size ≤ w4.heap.size := by simpa [World.setCell] using s4
    obtain ⟨rfl, hl⟩ := (hv3 b hb).turn (stay k3 (by omega) (by omega) s2)
    obtain ⟨rfl, hl5⟩ := (hv5 c hc).turn (stay ((Kept2.refl P B w5).set 10 (.slice a5 n5 cap5)) (m := w.heap.size) (by omega) (by omega) (by omega))
    exact ⟨_, _, _, _, _, a, cap, a5, cap5, rfl, slE_nil, RdE.turn (stay k1 (by omega) hBl (Nat.le_refl _)) _ _ (hv1 x hx), hl, hl5⟩
  · have HA := Lib.hid (choice_no (k := k) (l := l) ht)
    have CS := Lib.hid (fun w h => skip_no w P all _ ⟨#[101, 108, 115, 101]⟩ h ht)
    clear hm ht hr2
    go_enter Tryz.func123, Tryz.ntmps123
    go_wp2_with (first
      | (go_at_call 122; refine CE.out.mono ?_; rintro e w1 ⟨op, n1, nm, a1, len, cap1, rfl, hk1, hi1, hv1⟩; have s1 := hk1.size; have b1 := Lib.hid (HB.out.kept hk1 hne); obtain ⟨c5, f5⟩ := b1.out 5 _ rfl; obtain ⟨c6, f6⟩ := b1.out 6 _ rfl; obtain ⟨c7, f7⟩ := b1.out 7 _ rfl; obtain ⟨c8, f8⟩ := b1.out 8 _ rfl)
      | (go_at_call 66; refine (CS.out _ (hi3.own hPB _ _)).mono ?_; rintro e w4 ⟨rfl, hk4, hi4⟩)
      | (go_at_call 39; refine (CB.out _ ((((hi1.own hPB _ _).own hPB _ _).own hPB _ _).own hPB _ _)).mono ?_; rintro e w3 ⟨a, n, cap, rfl, ⟨hk3, hi3⟩, hv3⟩; have b3 := Lib.hid (((((b1.out.set (.int .i64 op) (j := 5) (by simp [bare])).set (.int .i64 n1) (j := 6) (by simp [bare])).set (.string nm) (j := 7) (by simp [bare])).set (.slice a1 len cap1) (j := 8) (by simp [bare])).kept hk3 hne); obtain ⟨c9, f9⟩ := b3.out 9 _ rfl))
    go_end0
    have k3 := ((Kept2.refl P B w3).set 9 (.slice a n cap)).trans (.of hk4)
    have k1 := ((((Kept2.refl P B w1).set 5 (.int .i64 op)).set 6 (.int .i64 n1)).set 7 (.string nm)).set 8 (.slice a1 len cap1) |>.trans (.of hk3) |>.trans k3
    refine ⟨rfl, (Kept2.of hk1).trans k1, by rw [HA.out.1]; exact hi4, _, (b3.out.set (.slice a n cap) (j := 9) (by simp [bare])).kept hk4 hne, ⟨k, l, ⟨#[]⟩, ⟨#[]⟩, none, 0, 0, op, n1, nm, a1, len, cap1, a, n, cap, none, 0, 0, rfl⟩, fun s hs => ?_⟩
    obtain ⟨x, b, hx, hb, rfl⟩ := HA.out.2 s hs
    have s2 : w.heap.size ≤ ((((w1.setCell ⟨B, 5, none⟩ (.int .i64 op)).setCell ⟨B, 6, none⟩ (.int .i64 n1)).setCell ⟨B, 7, none⟩ (.string nm)).setCell ⟨B, 8, none⟩ (.slice a1 len cap1)).heap.size := by simpa [World.setCell] using s1
    obtain ⟨rfl, hl⟩ := (hv3 b hb).turn (stay k3 (by omega) (by omega) s2)
    exact ⟨_, _, _, _, _, a, cap, none, 0, rfl, slE_nil, RdE.turn (stay k1 (by omega) hBl (Nat.le_refl _)) _ _ (hv1 x hx), hl, .inl rfl⟩
end Go.Proofs.YtncflfadgcaldaaGreatDoor

namespace Go.Proofs.YtncflfadgcaldaaGreatDoor
open Go.RowKit
open Par

namespace Par
open Tok (T Bs)
/-- The method that reads what follows a statement's word. -/
def fnOf (k : Nat) : Value :=
  if k = 2 then .func (.func 123) #[] #[] else if k = 3 then .func (.func 124) #[] #[]
  else if k = 4 ∨ k = 5 ∨ k = 6 then .func (.func 125) #[] #[] else if k = 7 ∨ k = 8 then .func (.func 126) #[] #[]
  else if k = 14 then .func (.func 128) #[] #[] else if k = 15 then .func (.func 129) #[] #[]
  else if k = 0 then .nilFunc else .func (.func 127) #[] #[]
end Par

set_option maxHeartbeats 2000000 in
set_option maxRecDepth 100000 in
theorem keywordStatement_any (s : ByteArray) (w : World) : Calls Tryz.prog 98 #[.string s] w fun e w' => e = .returned (.tuple #[.int .i64 (stmtKind s.data.toList), fnOf (stmtKind s.data.toList)]) ∧ w = w' := by
  go_enter Tryz.func98, Tryz.ntmps98
  go_wp2
  all_goals
    go_ret2
    refine ⟨?_, rfl⟩
    rw [← Lib.toList_data]
    simp_all [stmtKind, fnOf]
end Go.Proofs.YtncflfadgcaldaaGreatDoor

namespace Go.Proofs.YtncflfadgcaldaaGreatDoor
open Go.RowKit
open Par

namespace Par
open Tok (T Bs)
/-- What 'statement' leaves. -/
def PostS (f : Pa Sm) (P : Nat) (all : List T) (st : St) (w : World) (e : Ending) (w' : World) : Prop :=
  ∃ op line nm ag a4 l4 c4 e0 e1 e2 a3 l3 c3 a9 l9 c9 a10 l10 c10,
    e = .returned (.agg #[.int .i64 op, .int .i64 line, .string nm, .string ag, .slice a4 l4 c4, .int .i64 e0, .int .i64 e1, .string e2, .slice a3 l3 c3, .slice a9 l9 c9, .slice a10 l10 c10]) ∧ Went P all (after f st) w w' ∧
    ∀ s, val f st = some s → RdS w' (PF w.heap.size w') s [.int .i64 op, .int .i64 line, .string nm, .string ag, .slice a4 l4 c4, .int .i64 e0, .int .i64 e1, .string e2, .slice a3 l3 c3, .slice a9 l9 c9, .slice a10 l10 c10]
/-- The method 'statement' reads what f reads, where at most N tokens are left. -/
def SM (f : Pa Sm) (N : Nat) : Prop := ∀ (w : World) (P : Nat) (all : List T) (st : St), Is w P all st → st.rem.length ≤ N → Calls Tryz.prog 68 #[.pointer (some ⟨P, 0, none⟩)] w (PostS f P all st w)
def bodyP (f : Pa Sm) : Pa (List Sm) := fun ts => stmtsL f (ts.length + 1) [] ts
theorem block_split (f : Pa Sm) (st : St) : after (blockP f) st = after (bodyP f) (expSt [123] st) ∧ ∀ l, val (blockP f) st = some l → val (bodyP f) (expSt [123] st) = some l := by
  have e : blockP f = andThen (exp [123]) fun _ => bodyP f := rfl
  rw [e, ← after_exp]
  refine ⟨after_andThen _ _ () st, fun l hl => ?_⟩
  obtain ⟨_, _, h⟩ := val_andThen hl
  exact h
/-- What is known at the head of block's loop when the parser is in state st2 and n statements, whose cells are xs, have been read. -/
def BSo (f : Pa Sm) (st1 : St) (wr : World) (S : Nat → Prop) (n : Nat) (xs : List Value) : St → Prop
  | .off q => after (bodyP f) st1 = .off q ∧ val (bodyP f) st1 = none
  | .on q => ∃ acc m, q.length < m ∧ n = acc.length ∧ VSs wr S acc xs ∧ after (bodyP f) st1 = after (stmtsL f m acc) (.on q) ∧ val (bodyP f) st1 = val (stmtsL f m acc) (.on q)
theorem bso_start (f : Pa Sm) (st1 : St) (wr : World) (S : Nat → Prop) : BSo f st1 wr S 0 [] st1 := by
  cases st1 with
  | off q => exact ⟨rfl, rfl⟩
  | on q => exact ⟨[], q.length + 1, by omega, rfl, rfl, rfl, rfl⟩
theorem bso_end {f : Pa Sm} {st1 : St} {wr : World} {S : Nat → Prop} {n : Nat} {xs : List Value} {t : T} {r : List T} (h : BSo f st1 wr S n xs (.on (t :: r))) (ht : t.2.1 = [125]) :
    after (bodyP f) st1 = .on r ∧ ∀ l, val (bodyP f) st1 = some l → n = l.length ∧ VSs wr S l xs := by
  obtain ⟨acc, m, hm, h1, h2, h3, h4⟩ := h
  obtain ⟨j, rfl⟩ : ∃ j, m = j + 1 := ⟨m - 1, by omega⟩
  have e : stmtsL f (j + 1) acc (t :: r) = .ok (acc, r) := by simp [stmtsL, txt, ht]
  rw [h3, h4]
  refine ⟨by simp [after, e], fun l hl => ?_⟩
  simp only [val, e] at hl
  cases hl
  exact ⟨h1, h2⟩
theorem bso_step {f : Pa Sm} (hf : Lt f) {st1 : St} {wr w6 : World} {S S' : Nat → Prop} {n : Nat} {xs cs : List Value} {q : List T} (h : BSo f st1 wr S n xs (.on q)) (ht : txt q ≠ [125])
    (hv : ∀ acc s, VSs wr S acc xs → val f (.on q) = some s → VSs w6 S' (acc ++ [s]) (xs ++ cs)) : BSo f st1 w6 S' (n + 1) (xs ++ cs) (after f (.on q)) := by
  obtain ⟨acc, m, hm, h1, h2, h3, h4⟩ := h
  obtain ⟨j, rfl⟩ : ∃ j, m = j + 1 := ⟨m - 1, by omega⟩
  cases hx : f q with
  | error q2 =>
    have e : stmtsL f (j + 1) acc q = .error q2 := by simp [stmtsL, ht, hx]
    have e1 : after f (.on q) = .off q2 := by simp [after, hx]
    rw [e1]
    exact ⟨by rw [h3]; simp [after, e], by rw [h4]; simp [val, e]⟩
  | ok p =>
    obtain ⟨s, q2⟩ := p
    have e : stmtsL f (j + 1) acc q = stmtsL f j (acc ++ [s]) q2 := by simp [stmtsL, ht, hx]
    have e1 : after f (.on q) = .on q2 := by simp [after, hx]
    have hlt := hf _ _ _ hx
    rw [e1]
    exact ⟨acc ++ [s], j, by omega, by simp [h1], hv acc s h2 (by simp [val, hx]), by rw [h3]; simp [after, e], by rw [h4]; simp [val, e]⟩
/-- 1 while the parser reads, 0 once it has failed. -/
def lives (w : World) (P : Nat) : Nat := match w.cell? ⟨P, 2, none⟩ with
  | some (.bool true) => 0
  | _ => 1
def alive : St → Nat
  | .off _ => 0
  | .on _ => 1
theorem Is.lives {w : World} {P : Nat} {all : List T} {st : St} (h : Is w P all st) : lives w P = alive st := by
  obtain ⟨v, k, h⟩ := h
  simp only [Par.lives, h.c2]
  cases st <;> rfl
theorem Tryz.infoSm : (Tryz.prog.info? 83).map (fun i => (i.zero, i.size, i.bytes)) = some (some (.agg #[.int .i64 0, .int .i64 0, .string ⟨#[]⟩, .string ⟨#[]⟩, .slice none 0 0, .int .i64 0, .int .i64 0, .string ⟨#[]⟩, .slice none 0 0, .slice none 0 0, .slice none 0 0]), 11, 176) := by kernel_rfl
/-- The blocks in which the statements read so far may lie: new ones, but not that of their own row. -/
def Off (n : Nat) (v : Value) (w : World) : Nat → Prop := fun g => n ≤ g ∧ v.ownBlock ≠ some g ∧ PlainAt w g
theorem own_plain {w : World} {B e size n : Nat} {v : Value} {xs : List Value} (h : w.ownsRow B e size v n xs) : ∀ k, v.ownBlock = some k → PlainAt w k := by
  intro k hk
  rcases h.2 with ⟨rfl, _⟩ | ⟨g, cap, cur, rfl, hg, hgg, _⟩
  · simp [Value.ownBlock] at hk
  · simp [Value.ownBlock] at hk
    subst hk
    exact ⟨_, _, hgg⟩
theorem after_rem' {f : Pa Sm} (hf : Lt f) (st : St) (he : Er f) : (after f st).rem.length ≤ st.rem.length := after_mon ⟨fun ts a r h => Nat.le_of_lt (hf ts a r h), he⟩ st
theorem own_lt {w : World} {B e size n : Nat} {v : Value} {xs : List Value} (h : w.ownsRow B e size v n xs) : ∀ k, v.ownBlock = some k → B ≤ k ∧ k < w.heap.size := by
  intro k hk
  rcases h.2 with ⟨rfl, _⟩ | ⟨g, cap, cur, rfl, hg, hgg, _⟩
  · simp [Value.ownBlock] at hk
  · simp [Value.ownBlock] at hk
    subst hk
    exact ⟨hg, (Array.getElem?_eq_some_iff.1 hgg).1⟩
theorem cells_new (w : World) (cs : Array Value) (t : TypeId) : ∀ j u, cs.toList[j]? = some u → (w.alloc (.cells cs t)).cell? ((⟨w.heap.size, 0, none⟩ : Addr).add j) = some u := by
  intro j u hj
  have h : cs[j]? = some u := by simpa using hj
  rw [Addr.add_lit]
  simp [h]
/-- What an append leaves of the statements read so far, and of the new one. -/
theorem bso_append {P n0 n e size : Nat} {wr w4 w5 w6 : World} {v v6 : Value} {xs cs : List Value} {o : Obj} (hP : P < n0) (hown : wr.ownsRow n0 e size v n xs) (k45 : Kept P wr w5) (h4 : wr.heap.size ≤ w4.heap.size)
    (hg : (w5.alloc o).grownBy w6 v.ownBlock) (hloc : v6.ownBlock = v.ownBlock ∨ v6.ownBlock = some (w5.alloc o).heap.size) (h04 : n0 ≤ w4.heap.size) (acc : List Sm) (s : Sm)
    (ha : VSs wr (Off n0 v wr) acc xs) (hs : RdS w5 (PF w4.heap.size w5) s cs) : VSs w6 (Off n0 v6 w6) (acc ++ [s]) (xs ++ cs) := by
  have hl := own_lt hown
  have s5 := k45.size
  have c6 : ∀ g, g < w5.heap.size → v.ownBlock ≠ some g → w6.heap[g]? = w5.heap[g]? := fun g hlt hne =>
    (hg.block g (by simp; omega) (fun e => hne e.symm)).trans (Below.heap_alloc _ _ _ hlt)
  have off : ∀ g, n0 ≤ g → g < w5.heap.size → v.ownBlock ≠ some g → PlainAt w6 g → Off n0 v6 w6 g := fun g h0 hlt hne hp => by
    refine ⟨h0, ?_, hp⟩
    rcases hloc with h | h
    · rw [h]; exact hne
    · rw [h]
      intro e
      injection e with e
      simp at e
      omega
  refine VSs.snoc acc xs s cs (VSs.turn ?_ _ _ ha) (RdS.turn ?_ _ _ hs)
  · intro g oo u hgo hc
    have hlt : g < wr.heap.size := block_lt_of_cell (a := ⟨g, oo, none⟩) hc
    have hgP : g ≠ P := by have := hgo.1; omega
    have hb := (c6 g (by omega) hgo.2.1).trans (k45.block g hlt hgP)
    exact ⟨(World.cell?_of_block hb).trans hc, off g hgo.1 (by omega) hgo.2.1 (hgo.2.2.of_block hb)⟩
  · intro g oo u hgo hc
    have hlt : g < w5.heap.size := block_lt_of_cell (a := ⟨g, oo, none⟩) hc
    have hgo2 : w4.heap.size ≤ g := hgo.1
    have hne : v.ownBlock ≠ some g := fun e => by have := (hl g e).2; omega
    have hb := c6 g hlt hne
    exact ⟨(World.cell?_of_block hb).trans hc, off g (by omega) hlt hne (hgo.2.of_block hb)⟩
/-- A row of statements is a slice of them. -/
theorem own_slS {w : World} {n0 : Nat} {a : Option Addr} {n cap : Nat} {xs : List Value} {l : List Sm} {S : Nat → Prop} (hown : w.ownsRow n0 83 11 (.slice a n cap) n xs) (hn : n = l.length) (hv : VSs w S l xs) (hS : ∀ g, S g → PF n0 w g) : SlS w (PF n0 w) l (.slice a n cap) := by
  refine ⟨a, cap, by rw [hn], ?_⟩
  rcases Nat.eq_zero_or_pos n with h0 | h0
  · exact .inl (List.eq_nil_of_length_eq_zero (by omega))
  · obtain ⟨g, cap2, he, hb, hlt⟩ := hown.form h0
    injection he with h1 h2 h3
    refine .inr ⟨g, xs, h1, ⟨hb, own_plain hown g (by rw [h1]; rfl)⟩, VSs.turn (fun k o u hk hc => ⟨hc, hS k hk⟩) _ _ hv, fun j u hj => ?_⟩
    have := hown.cells (g := g) (by rw [h1]; rfl) j u hj
    simpa [Addr.add_lit] using this
end Par

set_option maxHeartbeats 4000000 in
set_option maxRecDepth 100000 in
theorem block_of (f : Pa Sm) (hf : Lt f) (he : Er f) (N : Nat) (hs : SM f N) : BM f N := by
  intro w P all st h hN
  have hP := h.lt
  have CE := Lib.hid (expect_any w P all st ⟨#[123]⟩ h (by decide))
  have HL := Lib.hid (block_split f st)
  have hN1 : (expSt [123] st).rem.length ≤ N := by
    rw [← after_exp]
    exact Nat.le_trans (after_mon (mon_exp _) st) hN
  obtain ⟨st1, hst1⟩ : ∃ st1, st1 = expSt [123] st := ⟨_, rfl⟩
  have CE2 : Hid (Calls Tryz.prog 37 #[.pointer (some ⟨P, 0, none⟩), .string ⟨#[123]⟩] w fun e w' => e = .returned (.tuple #[]) ∧ Went P all st1 w w') := by rw [hst1]; exact CE
  rw [← hst1] at HL hN1
  clear CE h hst1 hN
  have HS := Lib.hid hs
  clear hs
  obtain ⟨i0, hi, hz0, hz1, hz2⟩ := info_parts Tryz.infoSm
  show Calls _ _ _ _ _
  go_enter Tryz.func39, Tryz.ntmps39
  go_wp2_with (go_at_call 37; refine CE2.out.mono ?_; rintro e w1 ⟨rfl, hk1, hi1⟩)
  go_loopw [3] (fun v wr => ∃ n xs st2, wr.ownsRow w.heap.size 83 11 v n xs ∧ Kept P w wr ∧ Is wr P all st2 ∧ BSo f st1 wr (Off w.heap.size v wr) n xs st2 ∧ n + st2.rem.length + alive st2 ≤ 5002 ∧ st2.rem.length ≤ N) (fun _ wr => 2 * (all.length - nxt wr P) + lives wr P)
  case atStart => exact ⟨0, [], st1, ⟨rfl, .inl ⟨rfl, rfl⟩⟩, hk1, hi1, bso_start _ _ _ _, by have := hi1.rem; cases st1 <;> simp only [alive] <;> omega, hN1⟩
  case round =>
    obtain ⟨n, xs, st2, hown, hkr, hir, hso, hn, hN2⟩ := hrel
    obtain ⟨a, cap, rfl⟩ := own_slice hown
    obtain ⟨v2, k2, hat⟩ := id hir
    have c2 := hat.c2
    clear hat
    cases st2 with
    | off q =>
      simp only [St.bad] at c2
      go_wp2_with fail
      go_ret
      refine ⟨a, n, cap, rfl, ⟨hkr, by rw [HL.out.1, hso.1]; exact hir⟩, fun l hl => ?_⟩
      have := HL.out.2 l hl
      rw [hso.2] at this
      cases this
    | on q =>
      simp only [St.bad] at c2
      by_cases ht : txt q = [125]
      · obtain ⟨t, r, rfl, ht2⟩ : ∃ t r, q = t :: r ∧ t.2.1 = [125] := by
          match q, ht with
          | [], ht => cases ht
          | t :: r, ht => exact ⟨t, r, rfl, ht⟩
        have CS := Lib.hid (skip_yes wr P all t r ⟨#[125]⟩ hir ht2)
        have HE := Lib.hid (bso_end hso ht2)
        clear ht ht2 hso
        go_wp2_with (go_at_call 66; refine CS.out.mono ?_; rintro e w4 ⟨rfl, hw4⟩)
        go_ret
        refine ⟨a, n, cap, rfl, ⟨hkr.trans hw4.1, by rw [HL.out.1, HE.out.1]; exact hw4.2⟩, fun l hl => ?_⟩
        obtain ⟨h1, h2⟩ := HE.out.2 l (HL.out.2 l hl)
        exact own_slS (own_kept hown hw4.1 hP) h1 (VSs.turn (S' := PF w.heap.size w4) (fun g o u hg hc => have hb := hw4.1.block g (block_lt_of_cell (a := ⟨g, o, none⟩) hc) (by have := hg.1; omega); ⟨(World.cell?_of_block hb).trans hc, hg.1, hg.2.2.of_block hb⟩) _ _ h2) (fun g hg => hg)
      · have CS := Lib.hid (skip_no wr P all (.on q) ⟨#[125]⟩ hir ht)
        have HSO := Lib.hid hso
        have HT := Lib.hid ht
        have hw0 := hkr.size
        have HNX := Lib.hid hir.nxt
        have HLV := Lib.hid hir.lives
        clear hso ht
        go_wp2_with (first
          | (go_at_call 66; refine CS.out.mono ?_; rintro e w4 ⟨rfl, hw4⟩; have s4 := hw4.1.size)
          | (go_at_call 68; refine (HS.out _ P all _ hw4.2 hN2).mono ?_; rintro e w5 ⟨op, line, nm, ag, a4, l4, c4, e0, e1, e2, a3, l3, c3, a9, l9, c9, a10, l10, c10, rfl, hw5, hv5⟩; have s5 := hw5.1.size; have hown5 := own_kept hown (hw4.1.trans hw5.1) hP)
          | (at_builtin; refine wpList_append_own_at _ rfl (.tmp 16) (.tmp 19) 54 rfl w.heap.size 83 i0 (.agg #[.int .i64 0, .int .i64 0, .string ⟨#[]⟩, .string ⟨#[]⟩, .slice none 0 0, .int .i64 0, .int .i64 0, .string ⟨#[]⟩, .slice none 0 0, .slice none 0 0, .slice none 0 0]) 11 176 Tryz.underlying54 hi hz0 hz1 hz2 rfl (by decide) _ _ _ rfl (hown5.alloc _) ⟨w5.heap.size, 0, none⟩ 1 1 [.int .i64 op, .int .i64 line, .string nm, .string ag, .slice a4 l4 c4, .int .i64 e0, .int .i64 e1, .string e2, .slice a3 l3 c3, .slice a9 l9 c9, .slice a10 l10 c10] rfl rfl (cells_new _ _ _) (by intro u hu; simp only [List.mem_cons, List.not_mem_nil, or_false] at hu; rcases hu with rfl | rfl | rfl | rfl | rfl | rfl | rfl | rfl | rfl | rfl | rfl <;> rfl) (by unfold maxLen; omega) (by omega) (by simp; omega) ?_; intro v6 w6 hown6 hgrow6 hnil6 hloc6))
        have hrow : ∀ k, (Value.slice a n cap).ownBlock = some k → w.heap.size ≤ k := fun k hk => (own_lt hown k hk).1
        have hk6 := Kept.grown ((hkr.trans (hw4.1.trans hw5.1)).alloc (.cells #[.int .i64 op, .int .i64 line, .string nm, .string ag, .slice a4 l4 c4, .int .i64 e0, .int .i64 e1, .string e2, .slice a3 l3 c3, .slice a9 l9 c9, .slice a10 l10 c10] 83)) hgrow6 hrow
        have hi6 : Is w6 P all (after f (.on q)) := (hw5.2.below ((Below.refl _ _).alloc (Nat.le_refl _) (.cells #[.int .i64 op, .int .i64 line, .string nm, .string ag, .slice a4 l4 c4, .int .i64 e0, .int .i64 e1, .string e2, .slice a3 l3 c3, .slice a9 l9 c9, .slice a10 l10 c10] 83))).past ((Below.refl _ _).grown hgrow6 (by simp; omega) (fun k hk => by have := hrow k hk; omega))
        have hrem := after_rem' hf (.on q) he
        have hso6 : BSo f st1 w6 (Off w.heap.size v6 w6) (n + 1) (xs ++ [.int .i64 op, .int .i64 line, .string nm, .string ag, .slice a4 l4 c4, .int .i64 e0, .int .i64 e1, .string e2, .slice a3 l3 c3, .slice a9 l9 c9, .slice a10 l10 c10]) (after f (.on q)) :=
          bso_step hf HSO.out HT.out (fun acc s ha hs => bso_append hP hown (hw4.1.trans hw5.1) s4 hgrow6 hloc6 (by omega) acc s ha (hv5 s hs))
        have hmeas : 2 * (all.length - nxt w6 P) + lives w6 P < 2 * (all.length - nxt wr P) + lives wr P := by
          rw [hi6.nxt, HNX.out, HLV.out, hi6.lives]
          cases hx : f q with
          | error q2 =>
            have e1 : after f (.on q) = .off q2 := by simp [after, hx]
            have := he _ _ hx
            rw [e1]
            simp only [St.rem, alive]
            omega
          | ok p =>
            obtain ⟨s, q2⟩ := p
            have e1 : after f (.on q) = .on q2 := by simp [after, hx]
            have := hf _ _ _ hx
            rw [e1]
            simp only [St.rem, alive]
            omega
        have hbnd : n + 1 + (after f (.on q)).rem.length + alive (after f (.on q)) ≤ 5002 := by
          cases hx : f q with
          | error q2 =>
            have e1 : after f (.on q) = .off q2 := by simp [after, hx]
            have := he _ _ hx
            rw [e1]
            simp only [St.rem, alive] at hn ⊢
            omega
          | ok p =>
            obtain ⟨s, q2⟩ := p
            have e1 : after f (.on q) = .on q2 := by simp [after, hx]
            have := hf _ _ _ hx
            rw [e1]
            simp only [St.rem, alive] at hn ⊢
            omega
        have hbN : (after f (.on q)).rem.length ≤ N := Nat.le_trans hrem hN2
        clear HNX HLV
        go_roundw
        case rel => exact ⟨n + 1, _, _, hown6, hk6, hi6, hso6, hbnd, hbN⟩
        case measure => exact hmeas
end Go.Proofs.YtncflfadgcaldaaGreatDoor

namespace Go.Proofs.YtncflfadgcaldaaGreatDoor
open Go.RowKit
open Par

namespace Par
open Tok (T Bs)
/-- What 'index' leaves. -/
def PostIA (P : Nat) (all : List T) (st : St) (w : World) (e : Ending) (w' : World) : Prop :=
  ∃ a n cap, e = .returned (.slice a n cap) ∧ Went P all (after (index exprA) st) w w' ∧ ∀ l, val (index exprA) st = some l → SlE w' (PF w.heap.size w') l (.slice a n cap)
theorem ix_no {st : St} (h : txt st.see ≠ [91]) : after (index exprA) st = st ∧ ∀ l, val (index exprA) st = some l → l = [] := by
  cases st with
  | off r => exact ⟨rfl, fun l hl => by cases hl⟩
  | on r =>
    simp only [St.see] at h
    have e : index exprA r = .ok ([], r) := by simp only [index]; rw [if_neg h]
    exact ⟨by simp only [after, e], fun l hl => by simp only [val, e] at hl; cases hl; rfl⟩
theorem ix_yes {t : T} {r : List T} (h : t.2.1 = [91]) : after (index exprA) (.on (t :: r)) = after (closed exprA [93]) (.on r) ∧ ∀ l, val (index exprA) (.on (t :: r)) = some l → ∃ e, val (closed exprA [93]) (.on r) = some e ∧ l = [e] := by
  have ht : txt (t :: r) = [91] := h
  cases hx : closed exprA [93] r with
  | error q =>
    have e : index exprA (t :: r) = .error q := by simp only [index]; rw [if_pos ht]; simp [hx]
    simp [after, val, e, hx]
  | ok p =>
    obtain ⟨y, q⟩ := p
    have e : index exprA (t :: r) = .ok ([y], q) := by simp only [index]; rw [if_pos ht]; simp [hx]
    simp [after, val, e, hx]
theorem index_all (w : World) (P : Nat) (all : List T) (st : St) (h : Is w P all st) : Calls Tryz.prog 121 #[.pointer (some ⟨P, 0, none⟩)] w (PostIA P all st w) := by
  by_cases ht : txt st.see = [91]
  · obtain ⟨t, r, rfl, ht2⟩ := see_cons ht (by simp)
    refine (index_yes exprA P all t r w h ht2 (Lib.hid fun w h => exprA_any w P all _ h)).mono ?_
    rintro e w' ⟨g, rfl, hg, hk, hi, hv⟩
    obtain ⟨h1, h2⟩ := ix_yes (r := r) ht2
    refine ⟨_, _, _, rfl, ⟨hk, h1 ▸ hi⟩, fun l hl => ?_⟩
    obtain ⟨e, he, rfl⟩ := h2 l hl
    exact ⟨_, _, rfl, .inr ⟨g, rfl, hg, hv e he⟩⟩
  · refine (index_no P all st w h ht).mono ?_
    rintro e w' ⟨rfl, hw⟩
    obtain ⟨h1, h2⟩ := ix_no ht
    refine ⟨_, _, _, rfl, h1.symm ▸ hw, fun l hl => ?_⟩
    obtain rfl := h2 l hl
    exact slE_nil
theorem after_assign {t : T} {r : List T} (h : t.1 = 1) : after assignP (.on (t :: r)) = expSt [59] (after exprA (expSt [61] (after (index exprA) (.on r)))) ∧
    ∀ s, val assignP (.on (t :: r)) = some s → ∃ ix e, val (index exprA) (.on r) = some ix ∧ val exprA (expSt [61] (after (index exprA) (.on r))) = some e ∧ s = Sm.mk 1 t.2.2 t.2.1 [] ix e [] [] := by
  have e0 : ∀ g : Bs → Pa Sm, after (andThen nameP g) (.on (t :: r)) = after (g t.2.1) (.on r) ∧ val (andThen nameP g) (.on (t :: r)) = val (g t.2.1) (.on r) := by
    intro g
    have : andThen nameP g (t :: r) = g t.2.1 r := by simp [andThen, nameP, knd, h, txt]
    simp only [after, val, this, and_self]
  have e1 : ∀ st, after assignP (.on st) = after (andThen nameP (fun nm => andThen (index exprA) fun ix => andThen (exp [61]) fun _ => andThen exprA fun e => andThen (exp [59]) fun _ => give (Sm.mk 1 (lineOf st) nm [] ix e [] []))) (.on st) := fun st => rfl
  have e2 : ∀ st, val assignP (.on st) = val (andThen nameP (fun nm => andThen (index exprA) fun ix => andThen (exp [61]) fun _ => andThen exprA fun e => andThen (exp [59]) fun _ => give (Sm.mk 1 (lineOf st) nm [] ix e [] []))) (.on st) := fun st => rfl
  rw [e1, e2, (e0 _).1, (e0 _).2]
  refine ⟨by rw [after_andThen _ _ [], after_andThen _ _ (), after_andThen _ _ zeroE, after_andThen _ _ (), after_give, after_exp, after_exp], fun s hs => ?_⟩
  obtain ⟨ix, h1, h2⟩ := val_andThen hs
  obtain ⟨_, _, h3⟩ := val_andThen h2
  obtain ⟨e, h4, h5⟩ := val_andThen h3
  obtain ⟨_, _, h6⟩ := val_andThen h5
  rw [after_exp] at h4
  exact ⟨ix, e, h1, h4, (val_give h6).symm⟩
/-- What an assignment's parts still are when the result is written. -/
theorem assign_end {W w w2 w3 w4 w5 w6 : World} {P : Nat} {ix : List E} {v4 : Value} {e : E} {v : Value} (f3 : Kept2 P w.heap.size w6 W) (k36 : Kept2 P w3.heap.size w3 w6) (k56 : Kept2 P w3.heap.size w5 w6)
    (hP : P < w.heap.size) (h2 : w.heap.size < w2.heap.size) (h23 : w2.heap.size ≤ w3.heap.size) (h34 : w3.heap.size < w4.heap.size)
    (hi : SlE w3 (PF w2.heap.size w3) ix v4) (he : RdE w5 (PF w4.heap.size w5) e v) : SlE W (PF w.heap.size W) ix v4 ∧ RdE W (PF w.heap.size W) e v := by
  refine ⟨hi.turn ?_, RdE.turn (stay f3 (n := w4.heap.size) (by omega) (by omega) (by omega)) _ _ (RdE.turn (stay k56 (by omega) (by omega) (Nat.le_refl _)) _ _ he)⟩
  intro g oo u hg hc
  have hlt : g < w3.heap.size := block_lt_of_cell (a := ⟨g, oo, none⟩) hc
  have hg2 : w2.heap.size ≤ g := hg.1
  have s36 := k36.size
  have hb := (f3.block g (by omega) (by omega) (by omega)).trans (k36.block g hlt (by omega) (by omega))
  exact ⟨(World.cell?_of_block hb).trans hc, show w.heap.size ≤ g by omega, hg.2.of_block hb⟩
/-- The result's eleven cells are written last. -/
theorem fin11 {P : Nat} {all : List T} {st : St} {w w3 : World} (R : Nat) (hR : R = w.heap.size) (hk : Kept P w w3) (hP : P < w.heap.size) (hi : Is w3 P all st) (v0 : Value) (v1 : Value) (v2 : Value) (v3 : Value) (v4 : Value) (v5 : Value) (v6 : Value) (v7 : Value) (v8 : Value) (v9 : Value) (v10 : Value) :
    Kept P w (((((((((((w3.setCell ⟨R, 0, none⟩ v0).setCell ⟨R, 1, none⟩ v1).setCell ⟨R, 2, none⟩ v2).setCell ⟨R, 3, none⟩ v3).setCell ⟨R, 4, none⟩ v4).setCell ⟨R, 5, none⟩ v5).setCell ⟨R, 6, none⟩ v6).setCell ⟨R, 7, none⟩ v7).setCell ⟨R, 8, none⟩ v8).setCell ⟨R, 9, none⟩ v9).setCell ⟨R, 10, none⟩ v10) ∧ Is (((((((((((w3.setCell ⟨R, 0, none⟩ v0).setCell ⟨R, 1, none⟩ v1).setCell ⟨R, 2, none⟩ v2).setCell ⟨R, 3, none⟩ v3).setCell ⟨R, 4, none⟩ v4).setCell ⟨R, 5, none⟩ v5).setCell ⟨R, 6, none⟩ v6).setCell ⟨R, 7, none⟩ v7).setCell ⟨R, 8, none⟩ v8).setCell ⟨R, 9, none⟩ v9).setCell ⟨R, 10, none⟩ v10) P all st ∧ Kept2 P R w3 (((((((((((w3.setCell ⟨R, 0, none⟩ v0).setCell ⟨R, 1, none⟩ v1).setCell ⟨R, 2, none⟩ v2).setCell ⟨R, 3, none⟩ v3).setCell ⟨R, 4, none⟩ v4).setCell ⟨R, 5, none⟩ v5).setCell ⟨R, 6, none⟩ v6).setCell ⟨R, 7, none⟩ v7).setCell ⟨R, 8, none⟩ v8).setCell ⟨R, 9, none⟩ v9).setCell ⟨R, 10, none⟩ v10) := by
  subst hR
  exact ⟨(((((((((((hk.setNew (p := ⟨w.heap.size, 0, none⟩) (Nat.le_refl _) _).setNew (p := ⟨w.heap.size, 1, none⟩) (Nat.le_refl _) _).setNew (p := ⟨w.heap.size, 2, none⟩) (Nat.le_refl _) _).setNew (p := ⟨w.heap.size, 3, none⟩) (Nat.le_refl _) _).setNew (p := ⟨w.heap.size, 4, none⟩) (Nat.le_refl _) _).setNew (p := ⟨w.heap.size, 5, none⟩) (Nat.le_refl _) _).setNew (p := ⟨w.heap.size, 6, none⟩) (Nat.le_refl _) _).setNew (p := ⟨w.heap.size, 7, none⟩) (Nat.le_refl _) _).setNew (p := ⟨w.heap.size, 8, none⟩) (Nat.le_refl _) _).setNew (p := ⟨w.heap.size, 9, none⟩) (Nat.le_refl _) _).setNew (p := ⟨w.heap.size, 10, none⟩) (Nat.le_refl _) _), (((((((((((hi.own hP 0 _).own hP 1 _).own hP 2 _).own hP 3 _).own hP 4 _).own hP 5 _).own hP 6 _).own hP 7 _).own hP 8 _).own hP 9 _).own hP 10 _), ((((((((((((Kept2.refl P w.heap.size w3).set 0 _).set 1 _).set 2 _).set 3 _).set 4 _).set 5 _).set 6 _).set 7 _).set 8 _).set 9 _).set 10 _)⟩
end Par

set_option maxHeartbeats 4000000 in
set_option maxRecDepth 100000 in
theorem assignment_any (w : World) (P : Nat) (all : List Tok.T) (t : Tok.T) (r : List Tok.T) (h : Is w P all (.on (t :: r))) (ht : t.1 = 1) :
    Calls Tryz.prog 97 #[.pointer (some ⟨P, 0, none⟩)] w (PostS assignP P all (.on (t :: r)) w) := by
  have hP := h.lt
  have HA := Lib.hid (after_assign (r := r) ht)
  have H := Lib.hid h
  have hL := tok_line
  have CN : Hid (∀ w, Is w P all (.on (t :: r)) → Calls Tryz.prog 34 #[.pointer (some ⟨P, 0, none⟩)] w fun e w' => e = .returned (.string ⟨t.2.1.toArray⟩) ∧ Went P all (.on r) w w') := Lib.hid (fun w h => by
    have := name_any w P all _ h
    unfold PostName at this
    have e1 : nameTxt (.on (t :: r)) = t.2.1 := by simp [nameTxt, St.see, knd, ht, txt]
    have e2 : nameSt (.on (t :: r)) = .on r := by simp [nameSt, knd, ht]
    rw [e1, e2] at this
    exact this)
  clear h ht
  go_enter Tryz.func97, Tryz.ntmps97
  go_wp2_with (first
    | (go_at_call 14; refine (peek_any _ P all _ (H.out.below ((Below.refl _ _).alloc (Nat.le_refl _) _))).mono ?_; rintro e w1 ⟨rfl, hb1⟩)
    | (go_at_call 34; refine (CN.out _ ((H.out.below ((Below.refl _ _).alloc (Nat.le_refl _) _)).below hb1)).mono ?_; rintro e w2 ⟨rfl, hk2, hi2⟩)
    | (go_at_call 121; refine (index_all _ P all _ hi2).mono ?_; rintro e w3 ⟨a4, n4, cap4, rfl, ⟨hk3, hi3⟩, hv3⟩)
    | (go_at_call 122; refine (exprA_any _ P all _ hi4).mono ?_; rintro e w5 ⟨op, n1, nm, a1, len, cap1, rfl, hk5, hi5, hv5⟩; have b5 := Lib.hid (b4.out.kept hk5 hne3); obtain ⟨c5, f5⟩ := b5.out 5 _ rfl; obtain ⟨c6, f6⟩ := b5.out 6 _ rfl; obtain ⟨c7, f7⟩ := b5.out 7 _ rfl; obtain ⟨c8, f8⟩ := b5.out 8 _ rfl)
    | (go_at_call 37; refine (expect_any _ P all _ ⟨#[59]⟩ ((((hi5.own hPB _ _).own hPB _ _).own hPB _ _).own hPB _ _) (by decide)).mono ?_; rintro e w6 ⟨rfl, hk6, hi6⟩; have b6 := Lib.hid (((((b5.out.set (.int .i64 op) (j := 5) (by simp)).set (.int .i64 n1) (j := 6) (by simp)).set (.string nm) (j := 7) (by simp)).set (.slice a1 len cap1) (j := 8) (by simp)).kept hk6 hne3); have r6 := Lib.hid ((((((r4.out.kept hk5 hneR).far (a := ⟨w3.heap.size, 5, none⟩) hneRB (.int .i64 op)).far (a := ⟨w3.heap.size, 6, none⟩) hneRB (.int .i64 n1)).far (a := ⟨w3.heap.size, 7, none⟩) hneRB (.string nm)).far (a := ⟨w3.heap.size, 8, none⟩) hneRB (.slice a1 len cap1)).kept hk6 hneR); obtain ⟨p0, pf0⟩ := b6.out 0 _ rfl; obtain ⟨p1, pf1⟩ := b6.out 1 _ rfl; obtain ⟨p2, pf2⟩ := b6.out 2 _ rfl; obtain ⟨p3, pf3⟩ := b6.out 3 _ rfl; obtain ⟨p4, pf4⟩ := b6.out 4 _ rfl; obtain ⟨p5, pf5⟩ := b6.out 5 _ rfl; obtain ⟨p6, pf6⟩ := b6.out 6 _ rfl; obtain ⟨p7, pf7⟩ := b6.out 7 _ rfl; obtain ⟨p8, pf8⟩ := b6.out 8 _ rfl; obtain ⟨p9, pf9⟩ := b6.out 9 _ rfl; obtain ⟨p10, pf10⟩ := b6.out 10 _ rfl; obtain ⟨q0, qf0⟩ := r6.out 0 _ rfl; obtain ⟨q1, qf1⟩ := r6.out 1 _ rfl; obtain ⟨q2, qf2⟩ := r6.out 2 _ rfl; obtain ⟨q3, qf3⟩ := r6.out 3 _ rfl; obtain ⟨q4, qf4⟩ := r6.out 4 _ rfl; obtain ⟨q5, qf5⟩ := r6.out 5 _ rfl; obtain ⟨q6, qf6⟩ := r6.out 6 _ rfl; obtain ⟨q7, qf7⟩ := r6.out 7 _ rfl; obtain ⟨q8, qf8⟩ := r6.out 8 _ rfl; obtain ⟨q9, qf9⟩ := r6.out 9 _ rfl; obtain ⟨q10, qf10⟩ := r6.out 10 _ rfl)
    | (go_at_call 37; refine (expect_any _ P all _ ⟨#[61]⟩ (hi3.below ((Below.refl _ _).alloc (Nat.le_refl _) _)) (by decide)).mono ?_; rintro e w4 ⟨rfl, hk4, hi4⟩; have s1 := hb1.size; simp at s1; have s2 := hk2.size; have s3 := hk3.size; have hPB : P < w3.heap.size := (by omega); have hne3 : w3.heap.size ≠ P := (by omega); have hneR : w.heap.size ≠ P := (by omega); have hneRB : w.heap.size ≠ w3.heap.size := (by omega); have b4 := Lib.hid ((Box.new w3 _ _).kept hk4 hne3); have r4 := Lib.hid (((((Box.new w _ _).kept (Kept.of_below hb1) hneR).kept hk2 hneR).kept hk3 hneR).kept (((Kept.refl P w3).alloc _).trans hk4) hneR)))
  have hkA := ((((((Kept.refl P w).alloc (.cells #[.int .i64 0, .int .i64 0, .string ⟨#[]⟩, .string ⟨#[]⟩, .slice none 0 0, .int .i64 0, .int .i64 0, .string ⟨#[]⟩, .slice none 0 0, .slice none 0 0, .slice none 0 0] 83)).trans (Kept.of_below hb1)).trans hk2).trans hk3).alloc (.cells #[.int .i64 1, .int .i64 t.2.2, .string ⟨t.2.1.toArray⟩, .string ⟨#[]⟩, .slice a4 n4 cap4, .int .i64 0, .int .i64 0, .string ⟨#[]⟩, .slice none 0 0, .slice none 0 0, .slice none 0 0] 83)).trans hk4 |>.trans hk5 |>.setNew (p := ⟨w3.heap.size, 5, none⟩) (by show w.heap.size ≤ w3.heap.size; omega) (.int .i64 op) |>.setNew (p := ⟨w3.heap.size, 6, none⟩) (by show w.heap.size ≤ w3.heap.size; omega) (.int .i64 n1) |>.setNew (p := ⟨w3.heap.size, 7, none⟩) (by show w.heap.size ≤ w3.heap.size; omega) (.string nm) |>.setNew (p := ⟨w3.heap.size, 8, none⟩) (by show w.heap.size ≤ w3.heap.size; omega) (.slice a1 len cap1) |>.trans hk6
  obtain ⟨f1, f2, f3⟩ := fin11 w.heap.size rfl hkA hP hi6 (.int .i64 1) (.int .i64 t.2.2) (.string ⟨t.2.1.toArray⟩) (.string ⟨#[]⟩) (.slice a4 n4 cap4) (.int .i64 op) (.int .i64 n1) (.string nm) (.slice a1 len cap1) (.slice none 0 0) (.slice none 0 0)
  refine bodyPost_ret (v := .agg #[.int .i64 1, .int .i64 t.2.2, .string ⟨t.2.1.toArray⟩, .string ⟨#[]⟩, .slice a4 n4 cap4, .int .i64 op, .int .i64 n1, .string nm, .slice a1 len cap1, .slice none 0 0, .slice none 0 0]) (by simp [results, Tryz.results97, go_sem, lin, St.see, *]) rfl
    ⟨_, _, _, _, _, _, _, _, _, _, _, _, _, _, _, _, _, _, _, rfl, ⟨f1, by rw [HA.out.1]; exact f2⟩, fun s hs => ?_⟩
  obtain ⟨ix, e, hix, hee, rfl⟩ := HA.out.2 s hs
  have s4 := hk4.size
  simp at s4
  have k56 := ((((Kept2.refl P w3.heap.size w5).set 5 (.int .i64 op)).set 6 (.int .i64 n1)).set 7 (.string nm)).set 8 (.slice a1 len cap1) |>.trans (.of hk6)
  have k36 := (Kept2.of (B := w3.heap.size) (((Kept.refl P w3).alloc (.cells #[.int .i64 1, .int .i64 t.2.2, .string ⟨t.2.1.toArray⟩, .string ⟨#[]⟩, .slice a4 n4 cap4, .int .i64 0, .int .i64 0, .string ⟨#[]⟩, .slice none 0 0, .slice none 0 0, .slice none 0 0] 83)).trans hk4)).trans (.of hk5) |>.trans k56
  obtain ⟨g1, g2⟩ := assign_end f3 k36 k56 hP (by omega) s3 (by omega) (hv3 ix hix) (hv5 e hee)
  exact ⟨_, _, _, _, _, none, 0, none, 0, rfl, g1, g2, .inl rfl, .inl rfl⟩
end Go.Proofs.YtncflfadgcaldaaGreatDoor
