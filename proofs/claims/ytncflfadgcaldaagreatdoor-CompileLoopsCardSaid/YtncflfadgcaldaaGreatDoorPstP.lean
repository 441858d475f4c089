/-
  statement and block of package parse, by induction on the tokens that are left.
  The contract of thread of package parse.
  Lists of declarations and of threads: plain laws, and how they lie in memory.
  Lists of declarations and threads: what appends and stores leave of them.
-/
import Derived.Test.YtncflfadgcaldaaGreatDoorPstL
import Derived.Test.YtncflfadgcaldaaGreatDoorPstB
import Derived.Deep.RegionHeld3
import Derived.Deep.RegionLaw
import Derived.Deep.AppendLies
import Derived.Deep.DrawnRows
namespace Go.Proofs.YtncflfadgcaldaaGreatDoor
open Go.RowKit
open Par

namespace Par
open Tok (T Bs)
theorem ite_le {p : Prop} [Decidable p] {a b n : Nat} (ha : a ≤ n) (hb : b ≤ n) : (if p then a else b) ≤ n := by
  by_cases h : p
  · rw [if_pos h]; exact ha
  · rw [if_neg h]; exact hb
theorem stmtKind_le (l : Bs) : stmtKind l ≤ 15 := by
  unfold stmtKind
  repeat (refine ite_le (by decide) ?_)
  exact Nat.zero_le _
theorem knd_see {st : St} (h : knd st.see = 1) : ∃ t r, st = .on (t :: r) := by
  match st, h with
  | .off r, h => exact absurd (show (0 : Nat) = 1 from h) (by decide)
  | .on [], h => exact absurd (show (0 : Nat) = 1 from h) (by decide)
  | .on (t :: r), _ => exact ⟨t, r, rfl⟩
end Par

theorem statement_of (g : Pa Sm) (hg : Mon g) (N : Nat) (hb : ∀ M, M < N → BM g M) : SM (stmtStep g) N := by
  intro w P all st h hN
  by_cases hk : knd st.see = 1
  · obtain ⟨t, r, rfl⟩ := knd_see hk
    exact statement_name g w P all t r h hk
  by_cases h0 : stmtKind (txt st.see) = 0
  · exact statement_none g w P all st h hk h0
  obtain ⟨t, r, rfl⟩ := stmtKind_see h0
  replace hk : ¬ t.1 = 1 := hk
  replace h0 : ¬ stmtKind t.2.1 = 0 := h0
  have hbm := hb r.length (by simp [St.rem] at hN; omega)
  obtain ⟨k, hkk⟩ : ∃ k, stmtKind t.2.1 = k := ⟨_, rfl⟩
  have hle : k ≤ 15 := hkk ▸ stmtKind_le _
  have hall : k = 0 ∨ k = 1 ∨ k = 2 ∨ k = 3 ∨ k = 4 ∨ k = 5 ∨ k = 6 ∨ k = 7 ∨ k = 8 ∨ k = 9 ∨ k = 10 ∨ k = 11 ∨ k = 12 ∨ k = 13 ∨ k = 14 ∨ k = 15 := by omega
  rcases hall with rfl | rfl | rfl | rfl | rfl | rfl | rfl | rfl | rfl | rfl | rfl | rfl | rfl | rfl | rfl | rfl
  · exact absurd hkk h0
  · exact statement_word g 127 (.inr (.inr (.inr (.inr (.inr (.inr rfl)))))) 1 w P all t r h hk hkk (by decide) rfl (fun w B h hB hPB => nameOnly_any 1 t.2.2 w P B all (.on r) h hB hPB)
  · exact statement_word g 123 (.inl rfl) 2 w P all t r h hk hkk (by decide) rfl (fun w B h hB hPB => choice_any g hg _ hbm 2 t.2.2 w P B all (.on r) h (Nat.le_refl _) hB hPB)
  · exact statement_word g 124 (.inr (.inl rfl)) 3 w P all t r h hk hkk (by decide) rfl (fun w B h hB hPB => loop_any g _ hbm 3 t.2.2 w P B all (.on r) h (Nat.le_refl _) hB hPB)
  · exact statement_word g 125 (.inr (.inr (.inl rfl))) 4 w P all t r h hk hkk (by decide) rfl (fun w B h hB hPB => namedBlock_any g _ hbm 4 t.2.2 w P B all (.on r) h (Nat.le_refl _) hB hPB)
  · exact statement_word g 125 (.inr (.inr (.inl rfl))) 5 w P all t r h hk hkk (by decide) rfl (fun w B h hB hPB => namedBlock_any g _ hbm 5 t.2.2 w P B all (.on r) h (Nat.le_refl _) hB hPB)
  · exact statement_word g 125 (.inr (.inr (.inl rfl))) 6 w P all t r h hk hkk (by decide) rfl (fun w B h hB hPB => namedBlock_any g _ hbm 6 t.2.2 w P B all (.on r) h (Nat.le_refl _) hB hPB)
  · exact statement_word g 126 (.inr (.inr (.inr (.inl rfl)))) 7 w P all t r h hk hkk (by decide) rfl (fun w B h hB hPB => plainBlock_any g _ hbm 7 t.2.2 w P B all (.on r) h (Nat.le_refl _) hB hPB)
  · exact statement_word g 126 (.inr (.inr (.inr (.inl rfl)))) 8 w P all t r h hk hkk (by decide) rfl (fun w B h hB hPB => plainBlock_any g _ hbm 8 t.2.2 w P B all (.on r) h (Nat.le_refl _) hB hPB)
  · exact statement_word g 127 (.inr (.inr (.inr (.inr (.inr (.inr rfl)))))) 9 w P all t r h hk hkk (by decide) rfl (fun w B h hB hPB => nameOnly_any 9 t.2.2 w P B all (.on r) h hB hPB)
  · exact statement_word g 127 (.inr (.inr (.inr (.inr (.inr (.inr rfl)))))) 10 w P all t r h hk hkk (by decide) rfl (fun w B h hB hPB => nameOnly_any 10 t.2.2 w P B all (.on r) h hB hPB)
  · exact statement_word g 127 (.inr (.inr (.inr (.inr (.inr (.inr rfl)))))) 11 w P all t r h hk hkk (by decide) rfl (fun w B h hB hPB => nameOnly_any 11 t.2.2 w P B all (.on r) h hB hPB)
  · exact statement_word g 127 (.inr (.inr (.inr (.inr (.inr (.inr rfl)))))) 12 w P all t r h hk hkk (by decide) rfl (fun w B h hB hPB => nameOnly_any 12 t.2.2 w P B all (.on r) h hB hPB)
  · exact statement_word g 127 (.inr (.inr (.inr (.inr (.inr (.inr rfl)))))) 13 w P all t r h hk hkk (by decide) rfl (fun w B h hB hPB => nameOnly_any 13 t.2.2 w P B all (.on r) h hB hPB)
  · exact statement_word g 128 (.inr (.inr (.inr (.inr (.inl rfl))))) 14 w P all t r h hk hkk (by decide) rfl (fun w B h hB hPB => setting_any 14 t.2.2 w P B all (.on r) h hB hPB)
  · exact statement_word g 129 (.inr (.inr (.inr (.inr (.inr (.inl rfl)))))) 15 w P all t r h hk hkk (by decide) rfl (fun w B h hB hPB => getting_any 15 t.2.2 w P B all (.on r) h hB hPB)

theorem stmt_both : ∀ N n, N < n → SM (stmtF n) N ∧ BM (stmtF n) N := by
  intro N
  induction N using Nat.strongRecOn with
  | _ N ih =>
    intro n hn
    obtain ⟨m, rfl⟩ : ∃ m, n = m + 1 := ⟨n - 1, by omega⟩
    have hs : SM (stmtF (m + 1)) N := statement_of (stmtF m) (stmtF_mon m) N (fun M hM => (ih M hM m (by omega)).2)
    exact ⟨hs, block_of (stmtF (m + 1)) (stmtF_lt (m + 1)).1 (stmtF_lt (m + 1)).2 N hs⟩
/-- block, where no more than n - 1 tokens are left. -/
theorem block_any (n : Nat) (w : World) (P : Nat) (all : List Tok.T) (st : St) (h : Is w P all st) (hn : st.rem.length < n) : Calls Tryz.prog 39 #[.pointer (some ⟨P, 0, none⟩)] w (PostB (blockP (stmtF n)) P all st w) :=
  (stmt_both st.rem.length n hn).2 w P all st h (Nat.le_refl _)
end Go.Proofs.YtncflfadgcaldaaGreatDoor

namespace Go.Proofs.YtncflfadgcaldaaGreatDoor
open Go.RowKit
open Par

namespace Par
open Tok (T Bs)
/-- The value is a slice of these names. -/
def SlN (w : World) (S : Nat → Prop) (l : List Bs) (v : Value) : Prop := ∃ a cap, v = .slice a l.length cap ∧ (l = [] ∨ ∃ g, a = some ⟨g, 0, none⟩ ∧ S g ∧ (∀ j u, (strs l)[j]? = some u → w.cell? ⟨g, j, none⟩ = some u) ∧ l.length ≤ cap)
theorem SlN.turn {w w' : World} {S S' : Nat → Prop} (h : ∀ k o u, S k → w.cell? ⟨k, o, none⟩ = some u → w'.cell? ⟨k, o, none⟩ = some u ∧ S' k) {l : List Bs} {v : Value} (hl : SlN w S l v) : SlN w' S' l v := by
  obtain ⟨a, cap, rfl, hl⟩ := hl
  refine ⟨a, cap, rfl, ?_⟩
  rcases hl with hl | ⟨g, ha, hg, hr, hcp⟩
  · exact .inl hl
  · match l, hr, hcp with
    | [], _, _ => exact .inl rfl
    | e :: r, hr, hcp => exact .inr ⟨g, ha, (h _ _ _ hg (hr 0 _ rfl)).2, fun j u hj => (h _ _ _ hg (hr j u hj)).1, hcp⟩
theorem own_cap {w : World} {B e size n m cap : Nat} {a : Option Addr} {xs : List Value} (h : w.ownsRow B e size (.slice a m cap) n xs) : n ≤ cap := by
  rcases h.2 with ⟨_, h2⟩ | ⟨g, c, cur, h1, _, _, h2, _⟩
  · omega
  · injection h1 with _ _ h3
    omega
theorem own_slN {w : World} {n0 : Nat} {v : Value} {n : Nat} {xs : List Value} {l : List Bs} (hown : w.ownsRow n0 9 1 v n xs) (hn : n = l.length) (hx : xs = strs l) : SlN w (PF n0 w) l v := by
  subst hx
  rcases Nat.eq_zero_or_pos n with h0 | h0
  · obtain rfl : l = [] := List.eq_nil_of_length_eq_zero (by omega)
    subst hn
    rcases hown.2 with ⟨rfl, _⟩ | ⟨g, cap, cur, rfl, _⟩
    · exact ⟨none, 0, rfl, .inl rfl⟩
    · exact ⟨_, cap, rfl, .inl rfl⟩
  · obtain ⟨g, cap2, rfl, hb, hlt⟩ := hown.form h0
    refine ⟨_, cap2, by rw [hn], .inr ⟨g, rfl, ⟨hb, own_plain hown g rfl⟩, fun j u hj => ?_, by rw [← hn]; exact own_cap hown⟩⟩
    have := hown.cells (g := g) rfl j u hj
    simpa [Addr.add_lit] using this
theorem SlS.move {w w' : World} {S S' : Nat → Prop} (h : ∀ k o u, S k → w.cell? ⟨k, o, none⟩ = some u → w'.cell? ⟨k, o, none⟩ = some u ∧ S' k) {l : List Sm} {v : Value} (hl : SlS w S l v) : SlS w' S' l v := by
  obtain ⟨a, cap, rfl, hl⟩ := hl
  refine ⟨a, cap, rfl, ?_⟩
  rcases hl with hl | ⟨g, xs, ha, hg, hv, hr⟩
  · exact .inl hl
  · match l, hv with
    | [], _ => exact .inl rfl
    | s :: r, hv =>
      have hv2 := VSs.turn h (s :: r) xs hv
      have hlen := hv.len
      have h0 : ∃ u, xs[0]? = some u := ⟨xs[0]'(by simp at hlen; omega), List.getElem?_eq_getElem _⟩
      obtain ⟨u, hu⟩ := h0
      exact .inr ⟨g, xs, ha, (h _ _ _ hg (hr 0 u hu)).2, hv2, fun j u hj => (h _ _ _ hg (hr j u hj)).1⟩
/-- These cells are the thread. -/
def RdT (w : World) (S : Nat → Prop) (t : Th) (cs : List Value) : Prop := ∃ v2 v3, cs = [.string ⟨t.name.toArray⟩, .int .i64 t.line, v2, v3] ∧ SlN w S t.locals v2 ∧ SlS w S t.body v3
theorem RdT.turn {w w' : World} {S S' : Nat → Prop} (h : ∀ k o u, S k → w.cell? ⟨k, o, none⟩ = some u → w'.cell? ⟨k, o, none⟩ = some u ∧ S' k) {t : Th} {cs : List Value} (ht : RdT w S t cs) : RdT w' S' t cs := by
  obtain ⟨v2, v3, rfl, h1, h2⟩ := ht
  exact ⟨v2, v3, rfl, h1.turn h, h2.move h⟩
/-- What 'thread' leaves. -/
def PostT (f : Pa Th) (P : Nat) (all : List T) (st : St) (w : World) (e : Ending) (w' : World) : Prop :=
  ∃ nm line a2 l2 c2 a3 l3 c3, e = .returned (.agg #[.string nm, .int .i64 line, .slice a2 l2 c2, .slice a3 l3 c3]) ∧ Went P all (after f st) w w' ∧
    ∀ t, val f st = some t → RdT w' (PF w.heap.size w') t [.string nm, .int .i64 line, .slice a2 l2 c2, .slice a3 l3 c3]
theorem namesL_mon : ∀ n acc, Mon (namesL n acc)
  | 0, acc => ⟨fun ts a r h => by simp only [namesL] at h; cases h; exact Nat.le_refl _, fun ts q h => by simp [namesL] at h⟩
  | n + 1, acc => by
    constructor
    · intro ts a r h
      simp only [namesL] at h
      split at h
      · split at h
        · cases h
        · rename_i s q hq
          exact Nat.le_trans ((namesL_mon n _).1 _ _ _ h) (Nat.le_trans (mon_nameP.1 _ _ _ hq) (tail_le _))
      · cases h; exact Nat.le_refl _
    · intro ts q h
      simp only [namesL] at h
      split at h
      · split at h
        · rename_i q2 hq
          have := mon_nameP.2 _ _ hq
          cases h
          exact Nat.le_trans this (tail_le _)
        · rename_i s q2 hq
          exact Nat.le_trans ((namesL_mon n _).2 _ _ h) (Nat.le_trans (mon_nameP.1 _ _ _ hq) (tail_le _))
      · cases h
theorem mon_localsRest : Mon localsRest := by
  have hm : Mon (andThen nameP (fun nm => andThen (namesFrom nm) fun l => andThen (exp [41]) fun _ => give l)) :=
    mon_andThen mon_nameP fun nm => mon_andThen ⟨fun ts a r h => (namesL_mon ts.length [nm]).1 ts a r h, fun ts q h => (namesL_mon ts.length [nm]).2 ts q h⟩ fun _ => mon_andThen (mon_exp _) fun _ => mon_give _
  constructor
  · intro ts a r h
    simp only [localsRest] at h
    split at h
    · cases h; exact tail_le _
    · exact hm.1 _ _ _ h
  · intro ts q h
    simp only [localsRest] at h
    split at h
    · cases h
    · exact hm.2 _ _ h
theorem mon_localsP : Mon localsP := mon_andThen (mon_exp _) fun _ => mon_localsRest
def thrL (n line : Nat) : Pa Th := andThen (exp [116, 104, 114, 101, 97, 100]) fun _ => andThen nameP fun nm => andThen localsP fun l => andThen (blockP (stmtF n)) fun b => give ⟨nm, line, l, b⟩
theorem lineOf_lin (ts : List T) : lineOf ts = lin ts := by cases ts <;> rfl
theorem thread_line (n : Nat) (st : St) : after (threadP n) st = after (thrL n (lin st.see)) st ∧ val (threadP n) st = val (thrL n (lin st.see)) st := by
  rw [← lineOf_lin]
  cases st <;> exact ⟨rfl, rfl⟩
theorem after_thread (n : Nat) (st : St) : after (threadP n) st = after (blockP (stmtF n)) (after localsP (nameSt (expSt [116, 104, 114, 101, 97, 100] st))) ∧
    ∀ t, val (threadP n) st = some t → ∃ l b, val localsP (nameSt (expSt [116, 104, 114, 101, 97, 100] st)) = some l ∧ val (blockP (stmtF n)) (after localsP (nameSt (expSt [116, 104, 114, 101, 97, 100] st))) = some b ∧ t = ⟨nameTxt (expSt [116, 104, 114, 101, 97, 100] st), lin st.see, l, b⟩ := by
  rw [(thread_line n st).1, (thread_line n st).2]
  refine ⟨by unfold thrL; rw [after_andThen _ _ (), after_andThen _ _ [], after_andThen _ _ [], after_andThen _ _ [], after_give, after_exp, after_nameP], fun t ht => ?_⟩
  obtain ⟨_, _, h1⟩ := val_andThen ht
  obtain ⟨nm, h2, h3⟩ := val_andThen h1
  obtain ⟨l, h4, h5⟩ := val_andThen h3
  obtain ⟨b, h6, h7⟩ := val_andThen h5
  rw [after_exp] at h2 h3 h4 h5 h6
  rw [after_nameP] at h4 h6
  exact ⟨l, b, h4, h6, by rw [← val_give h7, val_nameP h2]⟩
theorem thread_rem (_n : Nat) (st : St) : (after localsP (nameSt (expSt [116, 104, 114, 101, 97, 100] st))).rem.length ≤ st.rem.length := by
  rw [← after_nameP, ← after_exp]
  exact Nat.le_trans (after_mon mon_localsP _) (Nat.le_trans (after_mon mon_nameP _) (after_mon (mon_exp _) _))
/-- The result's four cells are written last. -/
theorem fin4 {P : Nat} {all : List T} {st : St} {w w3 : World} (R : Nat) (hR : R = w.heap.size) (hk : Kept P w w3) (hP : P < w.heap.size) (hi : Is w3 P all st) (v0 v1 v2 v3 : Value) :
    Kept P w ((((w3.setCell ⟨R, 0, none⟩ v0).setCell ⟨R, 1, none⟩ v1).setCell ⟨R, 2, none⟩ v2).setCell ⟨R, 3, none⟩ v3) ∧ Is ((((w3.setCell ⟨R, 0, none⟩ v0).setCell ⟨R, 1, none⟩ v1).setCell ⟨R, 2, none⟩ v2).setCell ⟨R, 3, none⟩ v3) P all st ∧
      Kept2 P R w3 ((((w3.setCell ⟨R, 0, none⟩ v0).setCell ⟨R, 1, none⟩ v1).setCell ⟨R, 2, none⟩ v2).setCell ⟨R, 3, none⟩ v3) := by
  subst hR
  exact ⟨(((hk.setNew (p := ⟨w.heap.size, 0, none⟩) (Nat.le_refl _) _).setNew (p := ⟨w.heap.size, 1, none⟩) (Nat.le_refl _) _).setNew (p := ⟨w.heap.size, 2, none⟩) (Nat.le_refl _) _).setNew (p := ⟨w.heap.size, 3, none⟩) (Nat.le_refl _) _,
    (((hi.own hP 0 _).own hP 1 _).own hP 2 _).own hP 3 _, ((((Kept2.refl P w.heap.size w3).set 0 _).set 1 _).set 2 _).set 3 _⟩
end Par

set_option maxHeartbeats 4000000 in
set_option maxRecDepth 100000 in
theorem thread_any (n : Nat) (w : World) (P : Nat) (all : List Tok.T) (st : St) (h : Is w P all st) (hn : st.rem.length < n) :
    Calls Tryz.prog 16 #[.pointer (some ⟨P, 0, none⟩)] w (PostT (threadP n) P all st w) := by
  have hP := h.lt
  have HA := Lib.hid (after_thread n st)
  have H := Lib.hid h
  have hL := tok_line
  have HN := Lib.hid (Nat.lt_of_le_of_lt (thread_rem n st) hn)
  obtain ⟨st1, hst1⟩ : ∃ st1, st1 = expSt [116, 104, 114, 101, 97, 100] st := ⟨_, rfl⟩
  have CE : Hid (∀ w, Is w P all st → Calls Tryz.prog 37 #[.pointer (some ⟨P, 0, none⟩), .string ⟨#[116, 104, 114, 101, 97, 100]⟩] w fun e w' => e = .returned (.tuple #[]) ∧ Went P all st1 w w') := Lib.hid (fun w h => by rw [hst1]; exact expect_any w P all st ⟨#[116, 104, 114, 101, 97, 100]⟩ h (by decide))
  rw [← hst1] at HA HN
  clear h hst1 hn
  go_enter Tryz.func16, Tryz.ntmps16
  go_wp2_with (first
    | (go_at_call 14; refine (peek_any _ P all _ (H.out.below ((Below.refl _ _).alloc (Nat.le_refl _) _))).mono ?_; rintro e w1 ⟨rfl, hb1⟩)
    | (go_at_call 39; refine (block_any n _ P all _ (hi4.own hPB _ _) HN.out).mono ?_; rintro e w5 ⟨a5, n5, c5, rfl, ⟨hk5, hi5⟩, hv5⟩; have s5 := hk5.size; simp at s5; have b5 := Lib.hid ((b4.out.set (.slice a4 n4 c4) (j := 2) (by simp)).kept hk5 hneB); have r5 := Lib.hid ((r4.out.far (a := ⟨w1.heap.size, 2, none⟩) hneRB (.slice a4 n4 c4)).kept hk5 hneR); obtain ⟨p0, pf0⟩ := b5.out 0 _ rfl; obtain ⟨p1, pf1⟩ := b5.out 1 _ rfl; obtain ⟨p2, pf2⟩ := b5.out 2 _ rfl; obtain ⟨p3, pf3⟩ := b5.out 3 _ rfl; obtain ⟨q0, qf0⟩ := r5.out 0 _ rfl; obtain ⟨q1, qf1⟩ := r5.out 1 _ rfl; obtain ⟨q2, qf2⟩ := r5.out 2 _ rfl; obtain ⟨q3, qf3⟩ := r5.out 3 _ rfl)
    | (go_at_call 38; refine (locals_any _ P all _ (hi3.own hPB _ _)).mono ?_; rintro e w4 ⟨a4, n4, c4, xs4, rfl, ⟨hk4, hi4⟩, hown4, hv4⟩; have s4 := hk4.size; simp at s4; have b4 := Lib.hid ((b3.out.set (.string ⟨(nameTxt st1).toArray⟩) (j := 0) (by simp)).kept hk4 hneB); have r4 := Lib.hid ((r3.out.far (a := ⟨w1.heap.size, 0, none⟩) hneRB (.string ⟨(nameTxt st1).toArray⟩)).kept hk4 hneR); obtain ⟨c42, f42⟩ := b4.out 2 _ rfl)
    | (go_at_call 34; refine (name_any _ P all _ hi2).mono ?_; rintro e w3 ⟨rfl, hk3, hi3⟩; have s3 := hk3.size; have b3 := Lib.hid (b2.out.kept hk3 hneB); have r3 := Lib.hid (r2.out.kept hk3 hneR); obtain ⟨c30, f30⟩ := b3.out 0 _ rfl)
    | (go_at_call 37; refine (CE.out _ ((H.out.below ((Below.refl _ _).alloc (Nat.le_refl _) _)).below hb1 |>.below ((Below.refl _ _).alloc (Nat.le_refl _) _))).mono ?_; rintro e w2 ⟨rfl, hk2, hi2⟩; have s1 := hb1.size; simp at s1; have s2 := hk2.size; simp at s2; have hPB : P < w1.heap.size := (by omega); have hneB : w1.heap.size ≠ P := (by omega); have hneR : w.heap.size ≠ P := (by omega); have hneRB : w.heap.size ≠ w1.heap.size := (by omega); have b2 := Lib.hid ((Box.new w1 _ _).kept hk2 hneB); have r2 := Lib.hid (((Box.new w _ _).kept (Kept.of_below hb1) hneR).kept (((Kept.refl P w1).alloc _).trans hk2) hneR)))
  have hs41 : (w3.setCell ⟨w1.heap.size, 0, none⟩ (.string ⟨(nameTxt st1).toArray⟩)).heap.size = w3.heap.size := by simp
  have hs51 : (w4.setCell ⟨w1.heap.size, 2, none⟩ (.slice a4 n4 c4)).heap.size = w4.heap.size := by simp
  have hkA := (((((((((Kept.refl P w).alloc (.cells #[.string ⟨#[]⟩, .int .i64 0, .slice none 0 0, .slice none 0 0] 56)).trans (Kept.of_below hb1)).alloc (.cells #[.string ⟨#[]⟩, .int .i64 (lin st.see), .slice none 0 0, .slice none 0 0] 56)).trans hk2).trans hk3).setNew (p := ⟨w1.heap.size, 0, none⟩) (by show w.heap.size ≤ w1.heap.size; omega) (.string ⟨(nameTxt st1).toArray⟩)).trans hk4).setNew (p := ⟨w1.heap.size, 2, none⟩) (by show w.heap.size ≤ w1.heap.size; omega) (.slice a4 n4 c4)).trans hk5 |>.setNew (p := ⟨w1.heap.size, 3, none⟩) (by show w.heap.size ≤ w1.heap.size; omega) (.slice a5 n5 c5)
  obtain ⟨f1, f2, f3⟩ := fin4 w.heap.size rfl hkA hP (hi5.own hPB 3 (.slice a5 n5 c5)) (.string ⟨(nameTxt st1).toArray⟩) (.int .i64 (lin st.see)) (.slice a4 n4 c4) (.slice a5 n5 c5)
  refine bodyPost_ret (v := .agg #[.string ⟨(nameTxt st1).toArray⟩, .int .i64 (lin st.see), .slice a4 n4 c4, .slice a5 n5 c5]) (by simp [results, Tryz.results16, go_sem, *]) rfl ⟨_, _, _, _, _, _, _, _, rfl, ⟨f1, by rw [HA.out.1]; exact f2⟩, fun t ht => ?_⟩
  obtain ⟨l, b, hl, hb, rfl⟩ := HA.out.2 t ht
  have k5 := (Kept2.refl P w1.heap.size w5).set 3 (.slice a5 n5 c5)
  have k45 := ((Kept2.refl P w1.heap.size w4).set 2 (.slice a4 n4 c4)).trans (.of hk5) |>.trans k5
  obtain ⟨hl1, hl2⟩ := hv4 l hl
  exact ⟨_, _, rfl, ((own_slN hown4 hl1 hl2).turn (stay k45 (by omega) (by omega) (Nat.le_refl _))).turn (stay f3 (by omega) (by omega) (by omega)),
    ((hv5 b hb).move (stay k5 (by omega) (by omega) (Nat.le_refl _))).move (stay f3 (by omega) (by omega) (by omega))⟩
end Go.Proofs.YtncflfadgcaldaaGreatDoor

namespace Go.Proofs.YtncflfadgcaldaaGreatDoor
open Go.RowKit
open Par

namespace Par
open Tok (T Bs)
theorem lt_andThen {α β : Type} {f : Pa α} {g : α → Pa β} (hf : Lt f) (hg : ∀ a, Mon (g a)) : Lt (andThen f g) := by
  intro ts b r h
  simp only [andThen] at h
  split at h
  · cases h
  · rename_i a q hq
    exact Nat.lt_of_le_of_lt ((hg a).1 _ _ _ h) (hf _ _ _ hq)
theorem exp_lt {s : Bs} (hs : s ≠ []) : Lt (exp s) := by
  intro ts a r h
  simp only [exp] at h
  split at h
  · rename_i hk
    cases h
    exact tail_lt (by rintro rfl; exact hs hk.symm)
  · cases h
theorem mon_number (n : Nat) : Mon (number n) := ⟨fun ts a r h => Nat.le_of_lt (number_lt n ts a r h), number_er n⟩
theorem mon_sizeP : Mon sizeP := by
  have hm : Mon (andThen (number 1) (fun n => andThen (exp [93]) fun _ => give n)) := mon_andThen (mon_number 1) fun _ => mon_andThen (mon_exp _) fun _ => mon_give _
  constructor
  · intro ts a r h
    simp only [sizeP] at h
    split at h
    · exact Nat.le_trans (hm.1 _ _ _ h) (tail_le _)
    · cases h; exact Nat.le_refl _
  · intro ts q h
    simp only [sizeP] at h
    split at h
    · exact Nat.le_trans (hm.2 _ _ h) (tail_le _)
    · cases h
theorem mon_initP : Mon initP := by
  have h1 : Mon (andThen (number 0) (fun n => give (-(n : Int)))) := mon_andThen (mon_number 0) fun _ => mon_give _
  have h2 : Mon (andThen (number 0) (fun n => give (n : Int))) := mon_andThen (mon_number 0) fun _ => mon_give _
  constructor
  · intro ts a r h
    simp only [initP] at h
    split at h
    · split at h
      · exact Nat.le_trans (h1.1 _ _ _ h) (Nat.le_trans (tail_le _) (tail_le _))
      · exact Nat.le_trans (h2.1 _ _ _ h) (tail_le _)
    · cases h; exact Nat.le_refl _
  · intro ts q h
    simp only [initP] at h
    split at h
    · split at h
      · exact Nat.le_trans (h1.2 _ _ h) (Nat.le_trans (tail_le _) (tail_le _))
      · exact Nat.le_trans (h2.2 _ _ h) (tail_le _)
    · cases h
theorem mon_declRest (k line : Nat) (nm : Bs) : Mon (declRest k line nm) := by
  unfold declRest
  split
  · exact mon_andThen mon_sizeP fun _ => mon_andThen mon_initP fun _ => mon_give _
  · split
    · exact mon_andThen mon_initP fun _ => mon_give _
    · split
      · exact mon_andThen mon_nameP fun _ => mon_give _
      · exact mon_give _
theorem declP_lt : Lt declP := by
  intro ts a r h
  exact Nat.lt_of_lt_of_le ((lt_andThen nameP_lt fun nm => mon_andThen (mon_declRest (declKind (txt ts)) (lineOf ts) nm) fun _ => mon_andThen (mon_exp _) fun _ => mon_give _) ts.tail a r h) (tail_le _)
theorem declP_er : Er declP := by
  intro ts q h
  exact Nat.le_trans ((mon_andThen mon_nameP fun nm => mon_andThen (mon_declRest (declKind (txt ts)) (lineOf ts) nm) fun _ => mon_andThen (mon_exp _) fun _ => mon_give _).2 ts.tail q h) (tail_le _)
theorem threadP_lt (n : Nat) : Lt (threadP n) := fun ts a r h =>
  lt_andThen (exp_lt (s := [116, 104, 114, 101, 97, 100]) (by decide)) (fun _ => mon_andThen mon_nameP fun nm => mon_andThen mon_localsP fun l => mon_andThen (mon_blockP (stmtF_mon n)) fun b => mon_give (⟨nm, lineOf ts, l, b⟩ : Th)) ts a r h
theorem threadP_er (n : Nat) : Er (threadP n) := fun ts q h =>
  (mon_andThen (mon_exp [116, 104, 114, 101, 97, 100]) (fun _ => mon_andThen mon_nameP fun nm => mon_andThen mon_localsP fun l => mon_andThen (mon_blockP (stmtF_mon n)) fun b => mon_give (⟨nm, lineOf ts, l, b⟩ : Th))).2 ts q h

/-- What f reads, as long as the next token is one of c's. -/
def many {α : Type} (c : Bs → Bool) (f : Pa α) : Nat → List α → Pa (List α)
  | 0, acc, ts => .ok (acc, ts)
  | n + 1, acc, ts => if c (txt ts) = true then match f ts with
      | .error q => .error q
      | .ok (a, r) => many c f n (acc ++ [a]) r
    else .ok (acc, ts)
def isDecl (b : Bs) : Bool := declKind b != 0
def isThread (b : Bs) : Bool := b == [116, 104, 114, 101, 97, 100]
theorem declsL_many : ∀ n acc ts, declsL n acc ts = many isDecl declP n acc ts
  | 0, _, _ => rfl
  | n + 1, acc, ts => by
    by_cases h : declKind (txt ts) = 0
    · simp [declsL, many, isDecl, h]
    · simp only [declsL, many, isDecl, h, if_false, bne_iff_ne, ne_eq, not_false_eq_true, if_true]
      split <;> simp_all [declsL_many n]
theorem threadsL_many (m : Nat) : ∀ n acc ts, threadsL m n acc ts = many isThread (threadP m) n acc ts
  | 0, _, _ => rfl
  | n + 1, acc, ts => by
    by_cases h : txt ts = [116, 104, 114, 101, 97, 100]
    · simp only [threadsL, many, isThread, h, if_true, beq_self_eq_true]
      split <;> simp_all [threadsL_many m n]
    · simp [threadsL, many, isThread, h]
/-- What is known at the head of such a loop in state st2 when the list read so far has the property R. -/
def Many {α : Type} (c : Bs → Bool) (f : Pa α) (a0 : List α) (st0 : St) (R : List α → Prop) : St → Prop
  | .off q => after (fun ts => many c f ts.length a0 ts) st0 = .off q ∧ val (fun ts => many c f ts.length a0 ts) st0 = none
  | .on q => ∃ acc m, q.length ≤ m ∧ R acc ∧ after (fun ts => many c f ts.length a0 ts) st0 = after (many c f m acc) (.on q) ∧ val (fun ts => many c f ts.length a0 ts) st0 = val (many c f m acc) (.on q)
theorem many_start {α : Type} (c : Bs → Bool) (f : Pa α) (a0 : List α) (st0 : St) (R : List α → Prop) (h : ∀ q, st0 = .on q → R a0) : Many c f a0 st0 R st0 := by
  cases st0 with
  | off q => exact ⟨rfl, rfl⟩
  | on q => exact ⟨a0, q.length, Nat.le_refl _, h q rfl, rfl, rfl⟩
theorem many_end {α : Type} {c : Bs → Bool} {f : Pa α} {a0 : List α} {st0 st2 : St} {R : List α → Prop} (h : Many c f a0 st0 R st2) (hc : c (txt st2.see) = false) :
    after (fun ts => many c f ts.length a0 ts) st0 = st2 ∧ ∀ l, val (fun ts => many c f ts.length a0 ts) st0 = some l → R l := by
  cases st2 with
  | off q => exact ⟨h.1, fun l hl => by rw [h.2] at hl; cases hl⟩
  | on q =>
    obtain ⟨acc, m, hm, hR, h1, h2⟩ := h
    have e : many c f m acc q = .ok (acc, q) := by
      have hc2 : c (txt q) = false := hc
      cases m with
      | zero => rfl
      | succ j => simp [many, hc2]
    rw [h1, h2]
    exact ⟨by simp [after, e], fun l hl => by simp only [val, e] at hl; cases hl; exact hR⟩
theorem many_step {α : Type} {c : Bs → Bool} {f : Pa α} (hf : Lt f) (hc0 : c [] = false) {a0 : List α} {st0 : St} {q : List T} {R R' : List α → Prop} (h : Many c f a0 st0 R (.on q)) (hc : c (txt q) = true)
    (hR : ∀ acc a, R acc → val f (.on q) = some a → R' (acc ++ [a])) : Many c f a0 st0 R' (after f (.on q)) := by
  obtain ⟨acc, m, hm, h1, h3, h4⟩ := h
  have hq : q ≠ [] := by rintro rfl; rw [show txt [] = ([] : Bs) from rfl, hc0] at hc; cases hc
  have hq0 : 0 < q.length := List.length_pos_iff.2 hq
  obtain ⟨j, rfl⟩ : ∃ j, m = j + 1 := ⟨m - 1, by omega⟩
  cases hx : f q with
  | error q2 =>
    have e : many c f (j + 1) acc q = .error q2 := by simp [many, hc, hx]
    have e1 : after f (.on q) = .off q2 := by simp [after, hx]
    rw [e1]
    exact ⟨by rw [h3]; simp [after, e], by rw [h4]; simp [val, e]⟩
  | ok p =>
    obtain ⟨s, q2⟩ := p
    have e : many c f (j + 1) acc q = many c f j (acc ++ [s]) q2 := by simp [many, hc, hx]
    have e1 : after f (.on q) = .on q2 := by simp [after, hx]
    have hlt := hf _ _ _ hx
    rw [e1]
    exact ⟨acc ++ [s], j, by omega, hR acc s h1 (by simp [val, hx]), by rw [h3]; simp [after, e], by rw [h4]; simp [val, e]⟩
def T0 : Th := ⟨[], 0, [], []⟩
/-- A program's declarations, its first thread, its other threads. -/
theorem prog_split (m : Nat) (st : St) :
    after (progP m) st = after (fun ts => many isThread (threadP m) ts.length [(val (threadP m) (after (fun ts => many isDecl declP ts.length [] ts) st)).getD T0] ts) (after (threadP m) (after (fun ts => many isDecl declP ts.length [] ts) st)) ∧
    ∀ pg, val (progP m) st = some pg → ∃ ds t l, val (fun ts => many isDecl declP ts.length [] ts) st = some ds ∧ val (threadP m) (after (fun ts => many isDecl declP ts.length [] ts) st) = some t ∧
      val (fun ts => many isThread (threadP m) ts.length [t] ts) (after (threadP m) (after (fun ts => many isDecl declP ts.length [] ts) st)) = some l ∧ pg = ⟨ds, l⟩ := by
  have e : progP m = andThen (fun ts => many isDecl declP ts.length [] ts) fun ds => andThen (threadP m) fun t => andThen (fun ts => many isThread (threadP m) ts.length [t] ts) fun l => give (⟨ds, l⟩ : Pg) := by
    unfold progP
    simp only [declsL_many, threadsL_many]
  rw [e]
  refine ⟨by rw [after_andThen _ _ [], after_andThen _ _ T0, after_andThen _ _ [], after_give], fun pg hp => ?_⟩
  obtain ⟨ds, h1, h2⟩ := val_andThen hp
  obtain ⟨t, h3, h4⟩ := val_andThen h2
  obtain ⟨l, h5, h6⟩ := val_andThen h4
  exact ⟨ds, t, l, h1, h3, h5, (val_give h6).symm⟩

/-- These values are the threads, one behind another. -/
def VTs (w : World) (S : Nat → Prop) : List Th → List Value → Prop
  | [], xs => xs = []
  | s :: r, xs => ∃ cs rest, xs = cs ++ rest ∧ RdT w S s cs ∧ VTs w S r rest
theorem VTs.turn {w w' : World} {S S' : Nat → Prop} (h : ∀ k o u, S k → w.cell? ⟨k, o, none⟩ = some u → w'.cell? ⟨k, o, none⟩ = some u ∧ S' k) : ∀ (l : List Th) (xs : List Value), VTs w S l xs → VTs w' S' l xs
  | [], _, hx => hx
  | s :: r, _, hx => by
    obtain ⟨cs, rest, rfl, hs, hr⟩ := hx
    exact ⟨cs, rest, rfl, hs.turn h, VTs.turn h r rest hr⟩
theorem VTs.snoc {w : World} {S : Nat → Prop} : ∀ (l : List Th) (xs : List Value) (s : Th) (cs : List Value), VTs w S l xs → RdT w S s cs → VTs w S (l ++ [s]) (xs ++ cs)
  | [], xs, s, cs, hx, hs => by
    have : xs = [] := hx
    subst this
    exact ⟨cs, [], by simp, hs, rfl⟩
  | t :: r, _, s, cs, hx, hs => by
    obtain ⟨c2, rest, rfl, ht, hr⟩ := hx
    exact ⟨c2, rest ++ cs, by simp, ht, VTs.snoc r rest s cs hr hs⟩
/-- The value is a slice of these declarations; of these threads. -/
def SlD (w : World) (S : Nat → Prop) (l : List Dc) (v : Value) : Prop := ∃ a cap, v = .slice a l.length cap ∧ (l = [] ∨ ∃ g, a = some ⟨g, 0, none⟩ ∧ S g ∧ (∀ j u, (l.flatMap dcells)[j]? = some u → w.cell? ⟨g, j, none⟩ = some u) ∧ l.length ≤ cap)
def SlT (w : World) (S : Nat → Prop) (l : List Th) (v : Value) : Prop := ∃ a cap, v = .slice a l.length cap ∧ (l = [] ∨ ∃ g xs, a = some ⟨g, 0, none⟩ ∧ S g ∧ VTs w S l xs ∧ (∀ j u, xs[j]? = some u → w.cell? ⟨g, j, none⟩ = some u) ∧ l.length ≤ cap)
/-- These two cells are the program. -/
def RdP (w : World) (S : Nat → Prop) (p : Pg) (v0 v1 : Value) : Prop := SlD w S p.decls v0 ∧ SlT w S p.threads v1
/-- What 'program' leaves. -/
def PostP (f : Pa Pg) (P : Nat) (all : List T) (st : St) (w : World) (e : Ending) (w' : World) : Prop :=
  ∃ a0 l0 c0 a1 l1 c1, e = .returned (.agg #[.slice a0 l0 c0, .slice a1 l1 c1]) ∧ Went P all (after f st) w w' ∧ ∀ p, val f st = some p → RdP w' (PF w.heap.size w') p (.slice a0 l0 c0) (.slice a1 l1 c1)
end Par
end Go.Proofs.YtncflfadgcaldaaGreatDoor

namespace Go.Proofs.YtncflfadgcaldaaGreatDoor
open Go.RowKit
open Par

namespace Par
open Tok (T Bs)
theorem Box.grown {w w' : World} {b : Nat} {vs : List Value} {row : Option Nat} (h : Box w b vs) (hg : w.grownBy w' row) (hne : row ≠ some b) : Box w' b vs := fun j u hj => by
  obtain ⟨h1, h2⟩ := h j u hj
  have hl : b < w.heap.size := block_lt_of_cell (a := ⟨b, j, none⟩) h1
  have hb := hg.block b hl (fun e => hne e.symm)
  exact ⟨(World.cell?_of_block hb).trans h1, (World.frozen?_of_block (w := w) hb).trans h2⟩
theorem Tryz.infoDc : (Tryz.prog.info? 71).map (fun i => (i.zero, i.size, i.bytes)) = some (some (.agg #[.int .i64 0, .int .i64 0, .string ⟨#[]⟩, .int .i64 0, .int .i64 0, .string ⟨#[]⟩]), 6, 64) := by kernel_rfl
theorem Tryz.infoTh : (Tryz.prog.info? 56).map (fun i => (i.zero, i.size, i.bytes)) = some (some (.agg #[.string ⟨#[]⟩, .int .i64 0, .slice none 0 0, .slice none 0 0]), 4, 72) := by kernel_rfl
theorem own_ne {w : World} {B e size n : Nat} {v : Value} {xs : List Value} (h : w.ownsRow B e size v n xs) {b : Nat} (hb : b < B) : v.ownBlock ≠ some b := fun e => by have := (own_lt h b e).1; omega
theorem own_nil (w : World) (B e size : Nat) : w.ownsRow B e size (.slice none 0 0) 0 [] := ⟨by simp, .inl ⟨rfl, rfl⟩⟩
/-- The blocks from n on that were there at m. -/
def Mid (n m : Nat) (w : World) : Nat → Prop := fun g => n ≤ g ∧ g < m ∧ PlainAt w g
theorem own_slD {w : World} {n0 : Nat} {v : Value} {n : Nat} {xs : List Value} {l : List Dc} (hown : w.ownsRow n0 71 6 v n xs) (hn : n = l.length) (hx : xs = l.flatMap dcells) : SlD w (Mid n0 w.heap.size w) l v := by
  subst hx
  rcases Nat.eq_zero_or_pos n with h0 | h0
  · obtain rfl : l = [] := List.eq_nil_of_length_eq_zero (by omega)
    subst hn
    rcases hown.2 with ⟨rfl, _⟩ | ⟨g, cap, cur, rfl, _⟩
    · exact ⟨none, 0, rfl, .inl rfl⟩
    · exact ⟨_, cap, rfl, .inl rfl⟩
  · obtain ⟨g, cap2, rfl, hb, hlt⟩ := hown.form h0
    refine ⟨_, cap2, by rw [hn], .inr ⟨g, rfl, ⟨hb, (own_lt hown g rfl).2, own_plain hown g rfl⟩, fun j u hj => ?_, by rw [← hn]; exact own_cap hown⟩⟩
    have := hown.cells (g := g) rfl j u hj
    simpa [Addr.add_lit] using this
theorem dcells_some (d : Dc) (r : List Dc) : ∃ u, ((d :: r).flatMap dcells)[0]? = some u := ⟨_, rfl⟩
theorem SlD.turn {w w' : World} {S S' : Nat → Prop} (h : ∀ k o u, S k → w.cell? ⟨k, o, none⟩ = some u → w'.cell? ⟨k, o, none⟩ = some u ∧ S' k) {l : List Dc} {v : Value} (hl : SlD w S l v) : SlD w' S' l v := by
  obtain ⟨a, cap, rfl, hl⟩ := hl
  refine ⟨a, cap, rfl, ?_⟩
  rcases hl with hl | ⟨g, ha, hg, hr, hcp⟩
  · exact .inl hl
  · match l, hr, hcp with
    | [], _, _ => exact .inl rfl
    | e :: r, hr, hcp =>
      obtain ⟨u, hu⟩ := dcells_some e r
      exact .inr ⟨g, ha, (h _ _ _ hg (hr 0 u hu)).2, fun j u hj => (h _ _ _ hg (hr j u hj)).1, hcp⟩
theorem own_slT {w : World} {n0 : Nat} {a : Option Addr} {n cap : Nat} {xs : List Value} {l : List Th} {S : Nat → Prop} (hown : w.ownsRow n0 56 4 (.slice a n cap) n xs) (hn : n = l.length) (hv : VTs w S l xs) (hS : ∀ g, S g → PF n0 w g) : SlT w (PF n0 w) l (.slice a n cap) := by
  refine ⟨a, cap, by rw [hn], ?_⟩
  rcases Nat.eq_zero_or_pos n with h0 | h0
  · exact .inl (List.eq_nil_of_length_eq_zero (by omega))
  · obtain ⟨g, cap2, he, hb, hlt⟩ := hown.form h0
    injection he with h1 h2 h3
    refine .inr ⟨g, xs, h1, ⟨hb, own_plain hown g (by rw [h1]; rfl)⟩, VTs.turn (fun k o u hk hc => ⟨hc, hS k hk⟩) _ _ hv, fun j u hj => ?_, by rw [← hn]; exact own_cap hown⟩
    have := hown.cells (g := g) (by rw [h1]; rfl) j u hj
    simpa [Addr.add_lit] using this
theorem RdT.len {w : World} {S : Nat → Prop} {t : Th} {cs : List Value} (h : RdT w S t cs) : ∃ u, cs[0]? = some u := by
  obtain ⟨v2, v3, rfl, _⟩ := h
  exact ⟨_, rfl⟩
theorem SlT.turn {w w' : World} {S S' : Nat → Prop} (h : ∀ k o u, S k → w.cell? ⟨k, o, none⟩ = some u → w'.cell? ⟨k, o, none⟩ = some u ∧ S' k) {l : List Th} {v : Value} (hl : SlT w S l v) : SlT w' S' l v := by
  obtain ⟨a, cap, rfl, hl⟩ := hl
  refine ⟨a, cap, rfl, ?_⟩
  rcases hl with hl | ⟨g, xs, ha, hg, hv, hr, hcp⟩
  · exact .inl hl
  · match l, hv, hcp with
    | [], _, _ => exact .inl rfl
    | s :: r, hv, hcp =>
      have hv2 := VTs.turn h (s :: r) xs hv
      obtain ⟨cs, rest, rfl, hs, _⟩ := hv
      have h0 : ∃ u, (cs ++ rest)[0]? = some u := by
        obtain ⟨u, hu⟩ := hs.len
        match cs, hu with
        | c :: _, _ => exact ⟨c, rfl⟩
      obtain ⟨u, hu⟩ := h0
      exact .inr ⟨g, _, ha, (h _ _ _ hg (hr 0 u hu)).2, hv2, fun j u hj => (h _ _ _ hg (hr j u hj)).1, hcp⟩
/-- What an append leaves of the threads read so far, and of the new one. -/
theorem vts_append {P n0 n e size : Nat} {wr w4 w5 w6 : World} {v v6 : Value} {xs cs : List Value} {o : Obj} (hP : P < n0) (hown : wr.ownsRow n0 e size v n xs) (k45 : Kept P wr w5) (h4 : wr.heap.size ≤ w4.heap.size)
    (hg : (w5.alloc o).grownBy w6 v.ownBlock) (hloc : v6.ownBlock = v.ownBlock ∨ v6.ownBlock = some (w5.alloc o).heap.size) (h04 : n0 ≤ w4.heap.size) (acc : List Th) (s : Th)
    (ha : VTs wr (Off n0 v wr) acc xs) (hs : RdT w5 (PF w4.heap.size w5) s cs) : VTs w6 (Off n0 v6 w6) (acc ++ [s]) (xs ++ cs) := by
  have hl := own_lt hown
  have s5 := k45.size
  have c6 : ∀ g, g < w5.heap.size → v.ownBlock ≠ some g → w6.heap[g]? = w5.heap[g]? := fun g hlt hne =>
    (hg.block g (by simp; omega) (fun e => hne e.symm)).trans (Below.heap_alloc _ _ _ hlt)
  have off : ∀ g, n0 ≤ g → g < w5.heap.size → v.ownBlock ≠ some g → PlainAt w6 g → Off n0 v6 w6 g := fun g h0 hlt hne hp => by
    refine ⟨h0, ?_, hp⟩
    rcases hloc with h | h
    · rw [h]; exact hne
    · rw [h]
      intro e
      injection e with e
      simp at e
      omega
  refine VTs.snoc acc xs s cs (VTs.turn ?_ _ _ ha) (hs.turn ?_)
  · intro g oo u hgo hc
    have hlt : g < wr.heap.size := block_lt_of_cell (a := ⟨g, oo, none⟩) hc
    have hgP : g ≠ P := by have := hgo.1; omega
    have hb := (c6 g (by omega) hgo.2.1).trans (k45.block g hlt hgP)
    exact ⟨(World.cell?_of_block hb).trans hc, off g hgo.1 (by omega) hgo.2.1 (hgo.2.2.of_block hb)⟩
  · intro g oo u hgo hc
    have hlt : g < w5.heap.size := block_lt_of_cell (a := ⟨g, oo, none⟩) hc
    have hgo2 : w4.heap.size ≤ g := hgo.1
    have hne : v.ownBlock ≠ some g := fun e => by have := (hl g e).2; omega
    have hb := c6 g hlt hne
    exact ⟨(World.cell?_of_block hb).trans hc, off g (by omega) hlt hne (hgo.2.of_block hb)⟩
theorem val_of_on {α : Type} {f : Pa α} {st : St} {q : List T} (h : after f st = .on q) : ∃ a, val f st = some a := by
  cases st with
  | off r => cases h
  | on r =>
    cases hx : f r with
    | error p => simp [after, hx] at h
    | ok p => exact ⟨p.1, by simp [val, hx]⟩
theorem loc_of {v : Value} {w : World} {gg m cap H : Nat} (h : v.ownBlock = some gg ∨ gg = H) (hH : w.heap.size = H) : (Value.slice (some ⟨gg, 0, none⟩) m cap).ownBlock = v.ownBlock ∨ (Value.slice (some ⟨gg, 0, none⟩) m cap).ownBlock = some w.heap.size := by
  rcases h with h | h
  · exact .inl (by rw [h]; rfl)
  · exact .inr (by rw [hH, ← h]; rfl)
theorem alive_le (st : St) : alive st ≤ 1 := by cases st <;> simp [alive]
/-- A store into an older block. -/
theorem set_far {w : World} {n : Nat} {v : Value} {a : Addr} (ha : a.block < n) (u : Value) : ∀ k o x, Off n v w k → w.cell? ⟨k, o, none⟩ = some x → (w.setCell a u).cell? ⟨k, o, none⟩ = some x ∧ Off n v (w.setCell a u) k := fun k o x hk hc =>
  have hb := Below.heap_setCell w a u k (by have := hk.1; omega)
  ⟨(World.cell?_of_block hb).trans hc, hk.1, hk.2.1, hk.2.2.of_block hb⟩
end Par
end Go.Proofs.YtncflfadgcaldaaGreatDoor
