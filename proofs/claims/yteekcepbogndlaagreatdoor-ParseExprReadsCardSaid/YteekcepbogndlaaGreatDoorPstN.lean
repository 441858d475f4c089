/-
  The contract of thread of package parse.
-/
import Derived.Test.YteekcepbogndlaaGreatDoorPstM
namespace Go.Proofs.YteekcepbogndlaaGreatDoor
open Go.RowKit
open Par

namespace Par
open Tok (T Bs)
/-- The value is a slice of these names. -/
def SlN (w : World) (S : Nat → Prop) (l : List Bs) (v : Value) : Prop := ∃ a cap, v = .slice a l.length cap ∧ (l = [] ∨ ∃ g, a = some ⟨g, 0, none⟩ ∧ S g ∧ ∀ j u, (strs l)[j]? = some u → w.cell? ⟨g, j, none⟩ = some u)
theorem SlN.turn {w w' : World} {S S' : Nat → Prop} (h : ∀ k o u, S k → w.cell? ⟨k, o, none⟩ = some u → w'.cell? ⟨k, o, none⟩ = some u ∧ S' k) {l : List Bs} {v : Value} (hl : SlN w S l v) : SlN w' S' l v := by
  obtain ⟨a, cap, rfl, hl⟩ := hl
  refine ⟨a, cap, rfl, ?_⟩
  rcases hl with hl | ⟨g, ha, hg, hr⟩
  · exact .inl hl
  · match l, hr with
    | [], _ => exact .inl rfl
    | e :: r, hr => exact .inr ⟨g, ha, (h _ _ _ hg (hr 0 _ rfl)).2, fun j u hj => (h _ _ _ hg (hr j u hj)).1⟩
theorem own_slN {w : World} {n0 : Nat} {v : Value} {n : Nat} {xs : List Value} {l : List Bs} (hown : w.ownsRow n0 9 1 v n xs) (hn : n = l.length) (hx : xs = strs l) : SlN w (From n0) l v := by
  subst hx
  rcases Nat.eq_zero_or_pos n with h0 | h0
  · obtain rfl : l = [] := List.eq_nil_of_length_eq_zero (by omega)
    subst hn
    rcases hown.2 with ⟨rfl, _⟩ | ⟨g, cap, cur, rfl, _⟩
    · exact ⟨none, 0, rfl, .inl rfl⟩
    · exact ⟨_, cap, rfl, .inl rfl⟩
  · obtain ⟨g, cap2, rfl, hb, hlt⟩ := hown.form h0
    refine ⟨_, cap2, by rw [hn], .inr ⟨g, rfl, hb, fun j u hj => ?_⟩⟩
    have := hown.cells (g := g) rfl j u hj
    simpa [Addr.add_lit] using this
theorem SlS.move {w w' : World} {S S' : Nat → Prop} (h : ∀ k o u, S k → w.cell? ⟨k, o, none⟩ = some u → w'.cell? ⟨k, o, none⟩ = some u ∧ S' k) {l : List Sm} {v : Value} (hl : SlS w S l v) : SlS w' S' l v := by
  obtain ⟨a, cap, rfl, hl⟩ := hl
  refine ⟨a, cap, rfl, ?_⟩
  rcases hl with hl | ⟨g, xs, ha, hg, hv, hr⟩
  · exact .inl hl
  · match l, hv with
    | [], _ => exact .inl rfl
    | s :: r, hv =>
      have hv2 := VSs.turn h (s :: r) xs hv
      have hlen := hv.len
      have h0 : ∃ u, xs[0]? = some u := ⟨xs[0]'(by simp at hlen; omega), List.getElem?_eq_getElem _⟩
      obtain ⟨u, hu⟩ := h0
      exact .inr ⟨g, xs, ha, (h _ _ _ hg (hr 0 u hu)).2, hv2, fun j u hj => (h _ _ _ hg (hr j u hj)).1⟩
/-- These cells are the thread. -/
def RdT (w : World) (S : Nat → Prop) (t : Th) (cs : List Value) : Prop := ∃ v2 v3, cs = [.string ⟨t.name.toArray⟩, .int .i64 t.line, v2, v3] ∧ SlN w S t.locals v2 ∧ SlS w S t.body v3
theorem RdT.turn {w w' : World} {S S' : Nat → Prop} (h : ∀ k o u, S k → w.cell? ⟨k, o, none⟩ = some u → w'.cell? ⟨k, o, none⟩ = some u ∧ S' k) {t : Th} {cs : List Value} (ht : RdT w S t cs) : RdT w' S' t cs := by
  obtain ⟨v2, v3, rfl, h1, h2⟩ := ht
  exact ⟨v2, v3, rfl, h1.turn h, h2.move h⟩
/-- What 'thread' leaves. -/
def PostT (f : Pa Th) (P : Nat) (all : List T) (st : St) (w : World) (e : Ending) (w' : World) : Prop :=
  ∃ nm line a2 l2 c2 a3 l3 c3, e = .returned (.agg #[.string nm, .int .i64 line, .slice a2 l2 c2, .slice a3 l3 c3]) ∧ Went P all (after f st) w w' ∧
    ∀ t, val f st = some t → RdT w' (From w.heap.size) t [.string nm, .int .i64 line, .slice a2 l2 c2, .slice a3 l3 c3]
theorem namesL_mon : ∀ n acc, Mon (namesL n acc)
  | 0, acc => ⟨fun ts a r h => by simp only [namesL] at h; cases h; exact Nat.le_refl _, fun ts q h => by simp [namesL] at h⟩
  | n + 1, acc => by
    constructor
    · intro ts a r h
      simp only [namesL] at h
      split at h
      · split at h
        · cases h
        · rename_i s q hq
          exact Nat.le_trans ((namesL_mon n _).1 _ _ _ h) (Nat.le_trans (mon_nameP.1 _ _ _ hq) (tail_le _))
      · cases h; exact Nat.le_refl _
    · intro ts q h
      simp only [namesL] at h
      split at h
      · split at h
        · rename_i q2 hq
          have := mon_nameP.2 _ _ hq
          cases h
          exact Nat.le_trans this (tail_le _)
        · rename_i s q2 hq
          exact Nat.le_trans ((namesL_mon n _).2 _ _ h) (Nat.le_trans (mon_nameP.1 _ _ _ hq) (tail_le _))
      · cases h
theorem mon_localsRest : Mon localsRest := by
  have hm : Mon (andThen nameP (fun nm => andThen (namesFrom nm) fun l => andThen (exp [41]) fun _ => give l)) :=
    mon_andThen mon_nameP fun nm => mon_andThen ⟨fun ts a r h => (namesL_mon ts.length [nm]).1 ts a r h, fun ts q h => (namesL_mon ts.length [nm]).2 ts q h⟩ fun _ => mon_andThen (mon_exp _) fun _ => mon_give _
  constructor
  · intro ts a r h
    simp only [localsRest] at h
    split at h
    · cases h; exact tail_le _
    · exact hm.1 _ _ _ h
  · intro ts q h
    simp only [localsRest] at h
    split at h
    · cases h
    · exact hm.2 _ _ h
theorem mon_localsP : Mon localsP := mon_andThen (mon_exp _) fun _ => mon_localsRest
def thrL (n line : Nat) : Pa Th := andThen (exp [116, 104, 114, 101, 97, 100]) fun _ => andThen nameP fun nm => andThen localsP fun l => andThen (blockP (stmtF n)) fun b => give ⟨nm, line, l, b⟩
theorem lineOf_lin (ts : List T) : lineOf ts = lin ts := by cases ts <;> rfl
theorem thread_line (n : Nat) (st : St) : after (threadP n) st = after (thrL n (lin st.see)) st ∧ val (threadP n) st = val (thrL n (lin st.see)) st := by
  rw [← lineOf_lin]
  cases st <;> exact ⟨rfl, rfl⟩
theorem after_thread (n : Nat) (st : St) : after (threadP n) st = after (blockP (stmtF n)) (after localsP (nameSt (expSt [116, 104, 114, 101, 97, 100] st))) ∧
    ∀ t, val (threadP n) st = some t → ∃ l b, val localsP (nameSt (expSt [116, 104, 114, 101, 97, 100] st)) = some l ∧ val (blockP (stmtF n)) (after localsP (nameSt (expSt [116, 104, 114, 101, 97, 100] st))) = some b ∧ t = ⟨nameTxt (expSt [116, 104, 114, 101, 97, 100] st), lin st.see, l, b⟩ := by
  rw [(thread_line n st).1, (thread_line n st).2]
  refine ⟨by unfold thrL; rw [after_andThen _ _ (), after_andThen _ _ [], after_andThen _ _ [], after_andThen _ _ [], after_give, after_exp, after_nameP], fun t ht => ?_⟩
  obtain ⟨_, _, h1⟩ := val_andThen ht
  obtain ⟨nm, h2, h3⟩ := val_andThen h1
  obtain ⟨l, h4, h5⟩ := val_andThen h3
  obtain ⟨b, h6, h7⟩ := val_andThen h5
  rw [after_exp] at h2 h3 h4 h5 h6
  rw [after_nameP] at h4 h6
  exact ⟨l, b, h4, h6, by rw [← val_give h7, val_nameP h2]⟩
theorem thread_rem (n : Nat) (st : St) : (after localsP (nameSt (expSt [116, 104, 114, 101, 97, 100] st))).rem.length ≤ st.rem.length := by
  rw [← after_nameP, ← after_exp]
  exact Nat.le_trans (after_mon mon_localsP _) (Nat.le_trans (after_mon mon_nameP _) (after_mon (mon_exp _) _))
/-- The result's four cells are written last. -/
theorem fin4 {P : Nat} {all : List T} {st : St} {w w3 : World} (R : Nat) (hR : R = w.heap.size) (hk : Kept P w w3) (hP : P < w.heap.size) (hi : Is w3 P all st) (v0 v1 v2 v3 : Value) :
    Kept P w ((((w3.setCell ⟨R, 0, none⟩ v0).setCell ⟨R, 1, none⟩ v1).setCell ⟨R, 2, none⟩ v2).setCell ⟨R, 3, none⟩ v3) ∧ Is ((((w3.setCell ⟨R, 0, none⟩ v0).setCell ⟨R, 1, none⟩ v1).setCell ⟨R, 2, none⟩ v2).setCell ⟨R, 3, none⟩ v3) P all st ∧
      Kept2 P R w3 ((((w3.setCell ⟨R, 0, none⟩ v0).setCell ⟨R, 1, none⟩ v1).setCell ⟨R, 2, none⟩ v2).setCell ⟨R, 3, none⟩ v3) := by
  subst hR
  exact ⟨(((hk.setNew (p := ⟨w.heap.size, 0, none⟩) (Nat.le_refl _) _).setNew (p := ⟨w.heap.size, 1, none⟩) (Nat.le_refl _) _).setNew (p := ⟨w.heap.size, 2, none⟩) (Nat.le_refl _) _).setNew (p := ⟨w.heap.size, 3, none⟩) (Nat.le_refl _) _,
    (((hi.own hP 0 _).own hP 1 _).own hP 2 _).own hP 3 _, ((((Kept2.refl P w.heap.size w3).set 0 _).set 1 _).set 2 _).set 3 _⟩
end Par

set_option maxHeartbeats 4000000 in
set_option maxRecDepth 100000 in
theorem thread_any (n : Nat) (w : World) (P : Nat) (all : List Tok.T) (st : St) (h : Is w P all st) (hn : st.rem.length < n) :
    Calls Tryz.prog 65 #[.pointer (some ⟨P, 0, none⟩)] w (PostT (threadP n) P all st w) := by
  have hP := h.lt
  have HA := Lib.hid (after_thread n st)
  have H := Lib.hid h
  have hL := tok_line
  have HN := Lib.hid (Nat.lt_of_le_of_lt (thread_rem n st) hn)
  obtain ⟨st1, hst1⟩ : ∃ st1, st1 = expSt [116, 104, 114, 101, 97, 100] st := ⟨_, rfl⟩
  have CE : Hid (∀ w, Is w P all st → Calls Tryz.prog 105 #[.pointer (some ⟨P, 0, none⟩), .string ⟨#[116, 104, 114, 101, 97, 100]⟩] w fun e w' => e = .returned (.tuple #[]) ∧ Went P all st1 w w') := Lib.hid (fun w h => by rw [hst1]; exact expect_any w P all st ⟨#[116, 104, 114, 101, 97, 100]⟩ h (by decide))
  rw [← hst1] at HA HN
  clear h hst1 hn
  go_enter Tryz.func65, Tryz.ntmps65
  go_wp2_with (first
    | (go_at_call 63; refine (peek_any _ P all _ (H.out.below ((Below.refl _ _).alloc (Nat.le_refl _) _))).mono ?_; rintro e w1 ⟨rfl, hb1⟩)
    | (go_at_call 107; refine (block_any n _ P all _ (hi4.own hPB _ _) HN.out).mono ?_; rintro e w5 ⟨a5, n5, c5, rfl, ⟨hk5, hi5⟩, hv5⟩; have s5 := hk5.size; simp at s5; have b5 := Lib.hid ((b4.out.set (.slice a4 n4 c4) (j := 2) (by simp)).kept hk5 hneB); have r5 := Lib.hid ((r4.out.far (a := ⟨w1.heap.size, 2, none⟩) hneRB (.slice a4 n4 c4)).kept hk5 hneR); obtain ⟨p0, pf0⟩ := b5.out 0 _ rfl; obtain ⟨p1, pf1⟩ := b5.out 1 _ rfl; obtain ⟨p2, pf2⟩ := b5.out 2 _ rfl; obtain ⟨p3, pf3⟩ := b5.out 3 _ rfl; obtain ⟨q0, qf0⟩ := r5.out 0 _ rfl; obtain ⟨q1, qf1⟩ := r5.out 1 _ rfl; obtain ⟨q2, qf2⟩ := r5.out 2 _ rfl; obtain ⟨q3, qf3⟩ := r5.out 3 _ rfl)
    | (go_at_call 106; refine (locals_any _ P all _ (hi3.own hPB _ _)).mono ?_; rintro e w4 ⟨a4, n4, c4, xs4, rfl, ⟨hk4, hi4⟩, hown4, hv4⟩; have s4 := hk4.size; simp at s4; have b4 := Lib.hid ((b3.out.set (.string ⟨(nameTxt st1).toArray⟩) (j := 0) (by simp)).kept hk4 hneB); have r4 := Lib.hid ((r3.out.far (a := ⟨w1.heap.size, 0, none⟩) hneRB (.string ⟨(nameTxt st1).toArray⟩)).kept hk4 hneR); obtain ⟨c42, f42⟩ := b4.out 2 _ rfl)
    | (go_at_call 102; refine (name_any _ P all _ hi2).mono ?_; rintro e w3 ⟨rfl, hk3, hi3⟩; have s3 := hk3.size; have b3 := Lib.hid (b2.out.kept hk3 hneB); have r3 := Lib.hid (r2.out.kept hk3 hneR); obtain ⟨c30, f30⟩ := b3.out 0 _ rfl)
    | (go_at_call 105; refine (CE.out _ ((H.out.below ((Below.refl _ _).alloc (Nat.le_refl _) _)).below hb1 |>.below ((Below.refl _ _).alloc (Nat.le_refl _) _))).mono ?_; rintro e w2 ⟨rfl, hk2, hi2⟩; have s1 := hb1.size; simp at s1; have s2 := hk2.size; simp at s2; have hPB : P < w1.heap.size := (by omega); have hneB : w1.heap.size ≠ P := (by omega); have hneR : w.heap.size ≠ P := (by omega); have hneRB : w.heap.size ≠ w1.heap.size := (by omega); have b2 := Lib.hid ((Box.new w1 _ _).kept hk2 hneB); have r2 := Lib.hid (((Box.new w _ _).kept (Kept.of_below hb1) hneR).kept (((Kept.refl P w1).alloc _).trans hk2) hneR)))
  have hs41 : (w3.setCell ⟨w1.heap.size, 0, none⟩ (.string ⟨(nameTxt st1).toArray⟩)).heap.size = w3.heap.size := by simp
  have hs51 : (w4.setCell ⟨w1.heap.size, 2, none⟩ (.slice a4 n4 c4)).heap.size = w4.heap.size := by simp
  have hkA := (((((((((Kept.refl P w).alloc (.cells #[.string ⟨#[]⟩, .int .i64 0, .slice none 0 0, .slice none 0 0] 69)).trans (Kept.of_below hb1)).alloc (.cells #[.string ⟨#[]⟩, .int .i64 (lin st.see), .slice none 0 0, .slice none 0 0] 69)).trans hk2).trans hk3).setNew (p := ⟨w1.heap.size, 0, none⟩) (by show w.heap.size ≤ w1.heap.size; omega) (.string ⟨(nameTxt st1).toArray⟩)).trans hk4).setNew (p := ⟨w1.heap.size, 2, none⟩) (by show w.heap.size ≤ w1.heap.size; omega) (.slice a4 n4 c4)).trans hk5 |>.setNew (p := ⟨w1.heap.size, 3, none⟩) (by show w.heap.size ≤ w1.heap.size; omega) (.slice a5 n5 c5)
  obtain ⟨f1, f2, f3⟩ := fin4 w.heap.size rfl hkA hP (hi5.own hPB 3 (.slice a5 n5 c5)) (.string ⟨(nameTxt st1).toArray⟩) (.int .i64 (lin st.see)) (.slice a4 n4 c4) (.slice a5 n5 c5)
  refine bodyPost_ret (v := .agg #[.string ⟨(nameTxt st1).toArray⟩, .int .i64 (lin st.see), .slice a4 n4 c4, .slice a5 n5 c5]) (by simp [results, Tryz.results65, go_sem, *]) rfl ⟨_, _, _, _, _, _, _, _, rfl, ⟨f1, by rw [HA.out.1]; exact f2⟩, fun t ht => ?_⟩
  obtain ⟨l, b, hl, hb, rfl⟩ := HA.out.2 t ht
  have k5 := (Kept2.refl P w1.heap.size w5).set 3 (.slice a5 n5 c5)
  have k45 := ((Kept2.refl P w1.heap.size w4).set 2 (.slice a4 n4 c4)).trans (.of hk5) |>.trans k5
  obtain ⟨hl1, hl2⟩ := hv4 l hl
  exact ⟨_, _, rfl, ((own_slN hown4 hl1 hl2).turn (stay k45 (by omega) (by omega) (Nat.le_refl _))).turn (stay f3 (by omega) (by omega) (by omega)),
    ((hv5 b hb).move (stay k5 (by omega) (by omega) (Nat.le_refl _))).move (stay f3 (by omega) (by omega) (by omega))⟩
end Go.Proofs.YteekcepbogndlaaGreatDoor
