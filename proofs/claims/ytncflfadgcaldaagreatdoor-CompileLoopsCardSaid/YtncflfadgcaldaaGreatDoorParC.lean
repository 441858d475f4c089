/-
  Contracts of number, operator and what operator calls, of package parse.
-/
import Derived.Test.YtncflfadgcaldaaGreatDoorParB
namespace Go.Proofs.YtncflfadgcaldaaGreatDoor
open Go.RowKit
open Par

namespace Par
open Tok (T Bs)
theorem Is.vs {w : World} {P : Nat} {all : List T} {st : St} (h : Is w P all st) : VarS w P := by
  obtain ⟨_, _, h⟩ := h
  exact h.vs
theorem Is.wf {w : World} {P : Nat} {all : List T} {st : St} (h : Is w P all st) : ∀ t ∈ st.rem, WF t := by
  obtain ⟨_, k, h⟩ := h
  intro t ht
  rw [← h.drop] at ht
  exact h.wf t (List.mem_of_mem_drop ht)
theorem Is.lt {w : World} {P : Nat} {all : List T} {st : St} (h : Is w P all st) : P < w.heap.size := by
  obtain ⟨_, _, h⟩ := h
  exact h.lt
def numVal (l : Nat) (st : St) : Nat := (val (number l) st).getD 0
def PostNum (l P : Nat) (all : List T) (st : St) (w : World) (e : Ending) (w' : World) : Prop := e = .returned (.int .i64 (numVal l st)) ∧ Went P all (after (number l) st) w w'
theorem noNum_see {st : St} (h : ∀ t ∈ st.rem, WF t) (hk : ¬ knd st.see = 2) : NoNum (txt st.see) ∧ (txt st.see).length ≤ 4096 := by
  match st, h, hk with
  | .off r, _, _ => exact ⟨rfl, by simp [St.see, txt]⟩
  | .on [], _, _ => exact ⟨rfl, by simp [St.see, txt]⟩
  | .on (t :: r), h, hk => exact ⟨(h t (by simp [St.rem])).no hk, (h t (by simp [St.rem])).short⟩
theorem after_num_no {l : Nat} {st : St} (h : ¬ (knd st.see = 2 ∧ l ≤ Tok.dec 0 (txt st.see))) : after (number l) st = .off st.rem ∧ numVal l st = 0 := by
  cases st with
  | off r => exact ⟨rfl, rfl⟩
  | on r =>
    simp only [St.see] at h
    simp [after, numVal, val, number, h, St.rem]
end Par

set_option maxHeartbeats 1000000 in
set_option maxRecDepth 100000 in
theorem number_par (L : Int) (l : Nat) (hL : L = l) (w : World) (P : Nat) (all : List Tok.T) (st : St) (h : Is w P all st) :
    Calls Tryz.prog 67 #[.pointer (some ⟨P, 0, none⟩), .int .i64 L] w (PostNum l P all st w) := by
  have hwf := h.wf
  by_cases hk : knd st.see = 2
  · obtain ⟨t, r, rfl⟩ : ∃ t r, st = .on (t :: r) := by
      match st, hk with
      | .off r, hk => simp [St.see, knd] at hk
      | .on [], hk => simp [St.see, knd] at hk
      | .on (t :: r), _ => exact ⟨t, r, rfl⟩
    obtain ⟨hd, hne, hlim⟩ := (hwf t (by simp [St.rem])).num hk
    have hsh := (hwf t (by simp [St.rem])).short
    have hP := Tok.parseIntB_ok _ hne hd hlim
    obtain ⟨s, hs⟩ : ∃ s : ByteArray, t.2.1 = s.data.toList := ⟨⟨t.2.1.toArray⟩, rfl⟩
    obtain ⟨n, hn⟩ : ∃ n, n = Tok.dec 0 t.2.1 := ⟨_, rfl⟩
    rw [← hn] at hP hlim
    rw [hs] at hP hsh
    have CI := Lib.hid (fun w => Tryz.strconv_ParseInt_10_at64_ok s (by rw [Tok.size_list] at hsh; omega) _ hP w)
    obtain ⟨ln, cP⟩ := peek_is h 2 s (by rw [hk]; rfl) hs
    have CP := Lib.hid cP
    have H := Lib.hid h
    have hT := tok_text
    by_cases hl : l ≤ n
    · have hE := Lib.hid (show after (number l) (.on (t :: r)) = .on r ∧ numVal l (.on (t :: r)) = n by
        simp only [St.see] at hk
        have ht : txt (t :: r) = t.2.1 := rfl
        simp [after, numVal, val, number, hk, ht, ← hn, hl])
      have hlt : ((n : Int) < L) = False := by simp; omega
      clear hP hlim hs hsh hd hne hn hwf cP h hk hL hl
      go_enter Tryz.func67, Tryz.ntmps67
      go_wp2_with (first
        | (go_at_call 14; refine CP.out.mono ?_; rintro e w1 ⟨rfl, hb⟩)
        | (go_at_call 96; refine (CI.out _).mono ?_; rintro e w2 ⟨rfl, hw⟩)
        | (go_at_call 33; refine (pass_any _ P all t r (((H.out.below hb).below ((Below.refl _ _).alloc (Nat.le_refl _) _)).below (Tok.below_parse hw))).mono ?_; rintro e w3 ⟨rfl, hw3⟩))
      go_ret
      unfold PostNum
      rw [hE.out.1, hE.out.2]
      exact ⟨rfl, ((hw3.from (Tok.below_parse hw)).from ((Below.refl _ _).alloc (Nat.le_refl _) _)).from hb⟩
    · have hE := Lib.hid (after_num_no (l := l) (st := .on (t :: r)) (fun hh => hl (by rw [hn]; exact hh.2)))
      have hlt : ((n : Int) < L) = True := by simp; omega
      clear hP hlim hs hsh hd hne hn hwf cP h hk hL hl
      go_enter Tryz.func67, Tryz.ntmps67
      go_wp2_with (first
        | (go_at_call 14; refine CP.out.mono ?_; rintro e w1 ⟨rfl, hb⟩)
        | (go_at_call 96; refine (CI.out _).mono ?_; rintro e w2 ⟨rfl, hw⟩)
        | (go_at_call 65; refine (fail_any _ P all (.on (t :: r)) (((H.out.below hb).below ((Below.refl _ _).alloc (Nat.le_refl _) _)).below (Tok.below_parse hw))).mono ?_; rintro e w3 ⟨rfl, hw3⟩))
      go_ret
      unfold PostNum
      rw [hE.out.1, hE.out.2]
      exact ⟨rfl, ((hw3.from (Tok.below_parse hw)).from ((Below.refl _ _).alloc (Nat.le_refl _) _)).from hb⟩
  · obtain ⟨hno, hsh⟩ := noNum_see hwf hk
    have hE := Lib.hid (after_num_no (l := l) (st := st) (fun hh => hk hh.1))
    obtain ⟨s, hs⟩ : ∃ s : ByteArray, txt st.see = s.data.toList := ⟨⟨(txt st.see).toArray⟩, rfl⟩
    obtain ⟨ln, cP⟩ := peek_is h _ s rfl hs
    rw [hs] at hno hsh
    have CI0 : ∀ w, VarS w P → Calls Tryz.prog 96 #[.string s, .int .i64 10, .int .i64 64] w fun e w' => ∃ ty pp, e = .returned (.tuple #[.int .i64 0, .iface ty (.pointer (some pp))]) ∧ Below w.heap.size w w' := by
      intro w hv
      obtain ⟨_, _, te, pe, hc⟩ := hv
      refine (Tryz.strconv_ParseInt_10_at64_syntax s (by rw [Tok.size_list] at hsh; omega) hno _ w hc (.inr ⟨te, pe, rfl⟩)).mono ?_
      rintro e w' ⟨N, rfl, _, _, hb⟩
      exact ⟨_, _, rfl, hb⟩
    have CI := Lib.hid CI0
    have CP := Lib.hid cP
    have H := Lib.hid h
    have hT := tok_text
    clear hno hs hsh hwf cP h hk hL CI0
    go_enter Tryz.func67, Tryz.ntmps67
    go_wp2_with (first
      | (go_at_call 14; refine CP.out.mono ?_; rintro e w1 ⟨rfl, hb⟩)
      | (go_at_call 96; refine (CI.out _ ((H.out.below hb).below ((Below.refl _ _).alloc (Nat.le_refl _) _)).vs).mono ?_; rintro e w2 ⟨ty, pp, rfl, hw⟩)
      | (go_at_call 65; refine (fail_any _ P all st (((H.out.below hb).below ((Below.refl _ _).alloc (Nat.le_refl _) _)).below hw)).mono ?_; rintro e w3 ⟨rfl, hw3⟩))
    go_ret
    unfold PostNum
    rw [hE.out.1, hE.out.2]
    exact ⟨rfl, ((hw3.from hw).from ((Below.refl _ _).alloc (Nat.le_refl _) _)).from hb⟩
end Go.Proofs.YtncflfadgcaldaaGreatDoor
