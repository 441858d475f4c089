/-
  Contracts of skip, expect, name, number of package parse's parser.
-/
import Derived.Test.YtncflfadgcaldaaGreatDoorParA
import Derived.Test.YtncflfadgcaldaaGreatDoorTokE
namespace Go.Proofs.YtncflfadgcaldaaGreatDoor
open Go.RowKit
open Par

namespace Par
open Tok (T Bs)
theorem Went.from {P : Nat} {all : List T} {st : St} {w w1 w2 : World} (hb : Below w.heap.size w w1) (h : Went P all st w1 w2) : Went P all st w w2 := ⟨(Kept.of_below hb).trans h.1, h.2⟩
theorem Went.stay {P : Nat} {all : List T} {st : St} {w w1 : World} (h : Is w P all st) (hb : Below w.heap.size w w1) : Went P all st w w1 := ⟨.of_below hb, h.below hb⟩
theorem Went.comp {P : Nat} {all : List T} {st st2 : St} {w w1 w2 : World} (h : Went P all st w w1) (k : Went P all st2 w1 w2) : Went P all st2 w w2 := ⟨h.1.trans k.1, k.2⟩
/-- The state behind a sign or keyword that must stand next. -/
def expSt (s : Bs) : St → St
  | .off r => .off r
  | .on r => if txt r = s then .on r.tail else .off r
theorem str_ne {x s : ByteArray} (h : x.data.toList ≠ s.data.toList) : (x.toList == s.toList) = false ∧ (x.toList != s.toList) = true := by
  rw [Lib.toList_data, Lib.toList_data]
  exact ⟨by simpa using h, by simpa using h⟩
theorem peek_is {w : World} {P : Nat} {all : List T} {st : St} (h : Is w P all st) (k : Int) (x : ByteArray) (hk : (knd st.see : Int) = k) (hx : txt st.see = x.data.toList) :
    ∃ ln : Int, Calls Tryz.prog 14 #[.pointer (some ⟨P, 0, none⟩)] w fun e w' => e = .returned (.agg #[.int .i64 k, .string x, .int .i64 ln]) ∧ Below w.heap.size w w' := by
  refine ⟨lin st.see, (peek_any w P all st h).mono ?_⟩
  rintro e w' ⟨he, hb⟩
  rw [hk, hx, Lib.mk_data] at he
  exact ⟨he, hb⟩
theorem tok_kind (a b : Int) (s : ByteArray) (w : World) : (Instr.field 68 (.agg #[.int .i64 a, .string s, .int .i64 b]) 0).run Tryz.prog w = .ok (.int .i64 a) w := by kernel_rfl
theorem tok_text (a b : Int) (s : ByteArray) (w : World) : (Instr.field 68 (.agg #[.int .i64 a, .string s, .int .i64 b]) 1).run Tryz.prog w = .ok (.string s) w := by kernel_rfl
theorem tok_line (a b : Int) (s : ByteArray) (w : World) : (Instr.field 68 (.agg #[.int .i64 a, .string s, .int .i64 b]) 2).run Tryz.prog w = .ok (.int .i64 b) w := by kernel_rfl
theorem see_cons {st : St} {s : Bs} (h : txt st.see = s) (hs : s ≠ []) : ∃ t r, st = .on (t :: r) ∧ t.2.1 = s := by
  match st, h with
  | .off r, h => exact absurd h.symm hs
  | .on [], h => exact absurd h.symm hs
  | .on (t :: r), h => exact ⟨t, r, rfl, h⟩
end Par

set_option maxHeartbeats 1000000 in
set_option maxRecDepth 100000 in
theorem skip_yes (w : World) (P : Nat) (all : List Tok.T) (t : Tok.T) (r : List Tok.T) (s : ByteArray) (h : Is w P all (.on (t :: r))) (ht : t.2.1 = s.data.toList) :
    Calls Tryz.prog 66 #[.pointer (some ⟨P, 0, none⟩), .string s] w fun e w' => e = .returned (.bool true) ∧ Went P all (.on r) w w' := by
  obtain ⟨ln, cP⟩ := peek_is h _ s rfl ht
  have CP := Lib.hid cP
  have H := Lib.hid h
  clear cP h ht
  have hT := tok_text
  go_enter Tryz.func66, Tryz.ntmps66
  go_wp2_with (first
    | (go_at_call 14; refine CP.out.mono ?_; rintro e w1 ⟨rfl, hb⟩)
    | (go_at_call 33; refine (pass_any _ P all t r (H.out.below hb)).mono ?_; rintro e w2 ⟨rfl, hw2⟩))
  go_ret
  exact ⟨rfl, hw2.from hb⟩

set_option maxHeartbeats 1000000 in
set_option maxRecDepth 100000 in
theorem skip_no (w : World) (P : Nat) (all : List Tok.T) (st : St) (s : ByteArray) (h : Is w P all st) (ht : txt st.see ≠ s.data.toList) :
    Calls Tryz.prog 66 #[.pointer (some ⟨P, 0, none⟩), .string s] w fun e w' => e = .returned (.bool false) ∧ Went P all st w w' := by
  obtain ⟨x, hx⟩ : ∃ x : ByteArray, txt st.see = x.data.toList := ⟨⟨(txt st.see).toArray⟩, rfl⟩
  rw [hx] at ht
  obtain ⟨n1, n2⟩ := str_ne ht
  obtain ⟨ln, cP⟩ := peek_is h _ x rfl hx
  have CP := Lib.hid cP
  have H := Lib.hid h
  clear cP h ht hx
  have hT := tok_text
  go_enter Tryz.func66, Tryz.ntmps66
  go_wp2_with (go_at_call 14; refine CP.out.mono ?_; rintro e w1 ⟨rfl, hb⟩)
  go_ret
  exact ⟨rfl, .stay H.out hb⟩

set_option maxHeartbeats 1000000 in
set_option maxRecDepth 100000 in
theorem expect_any (w : World) (P : Nat) (all : List Tok.T) (st : St) (s : ByteArray) (h : Is w P all st) (hs : s.data.toList ≠ []) :
    Calls Tryz.prog 37 #[.pointer (some ⟨P, 0, none⟩), .string s] w fun e w' => e = .returned (.tuple #[]) ∧ Went P all (expSt s.data.toList st) w w' := by
  by_cases ht : txt st.see = s.data.toList
  · obtain ⟨t, r, rfl, ht2⟩ := see_cons ht hs
    have hE := Lib.hid (show expSt s.data.toList (.on (t :: r)) = .on r by simp [expSt, txt, ht2])
    have C := Lib.hid (skip_yes w P all t r s h ht2)
    clear ht ht2 h hs
    go_enter Tryz.func37, Tryz.ntmps37
    go_wp2_with (go_at_call 66; refine C.out.mono ?_; rintro e w1 ⟨rfl, hw⟩)
    go_end0
    rw [hE.out]
    exact ⟨rfl, hw⟩
  · have hE := Lib.hid (show expSt s.data.toList st = .off st.rem by
      cases st with
      | off r => rfl
      | on r => exact if_neg ht)
    have C := Lib.hid (skip_no w P all st s h ht)
    clear ht h hs
    go_enter Tryz.func37, Tryz.ntmps37
    go_wp2_with (first
      | (go_at_call 66; refine C.out.mono ?_; rintro e w1 ⟨rfl, hw⟩)
      | (go_at_call 65; refine (fail_any _ P all st hw.2).mono ?_; rintro e w2 ⟨rfl, hw2⟩))
    go_end0
    rw [hE.out]
    exact ⟨rfl, hw.comp hw2⟩

namespace Par
open Tok (T Bs)
/-- The state behind a name that must stand next. -/
def nameSt : St → St
  | .off r => .off r
  | .on r => if knd r = 1 then .on r.tail else .off r
/-- What 'name' returns. -/
def nameTxt (st : St) : Bs := if knd st.see = 1 then txt st.see else []
def PostName (P : Nat) (all : List T) (st : St) (w : World) (e : Ending) (w' : World) : Prop := e = .returned (.string ⟨(nameTxt st).toArray⟩) ∧ Went P all (nameSt st) w w'
end Par

set_option maxHeartbeats 1000000 in
set_option maxRecDepth 100000 in
theorem name_any (w : World) (P : Nat) (all : List Tok.T) (st : St) (h : Is w P all st) :
    Calls Tryz.prog 34 #[.pointer (some ⟨P, 0, none⟩)] w (PostName P all st w) := by
  by_cases hk : knd st.see = 1
  · obtain ⟨t, r, rfl⟩ : ∃ t r, st = .on (t :: r) := by
      match st, hk with
      | .off r, hk => simp [St.see, knd] at hk
      | .on [], hk => simp [St.see, knd] at hk
      | .on (t :: r), _ => exact ⟨t, r, rfl⟩
    have hE := Lib.hid (show nameSt (.on (t :: r)) = .on r by simp only [St.see] at hk; simp [nameSt, hk])
    have hV := Lib.hid (show nameTxt (.on (t :: r)) = t.2.1 by unfold nameTxt; rw [if_pos hk]; rfl)
    obtain ⟨ln, cP⟩ := peek_is h 1 ⟨(txt (St.on (t :: r)).see).toArray⟩ (by rw [hk]; rfl) rfl
    have CP := Lib.hid cP
    have H := Lib.hid h
    clear cP h hk
    have hT := tok_text
    have hK := tok_kind
    go_enter Tryz.func34, Tryz.ntmps34
    go_wp2_with (first
      | (go_at_call 14; refine CP.out.mono ?_; rintro e w1 ⟨rfl, hb⟩)
      | (go_at_call 33; refine (pass_any _ P all t r (H.out.below hb)).mono ?_; rintro e w2 ⟨rfl, hw2⟩))
    go_ret
    unfold PostName
    rw [hE.out, hV.out]
    exact ⟨rfl, hw2.from hb⟩
  · have hE := Lib.hid (show nameSt st = .off st.rem by
      cases st with
      | off r => rfl
      | on r => exact if_neg hk)
    have hV := Lib.hid (show nameTxt st = [] from if_neg hk)
    obtain ⟨k, hkk⟩ : ∃ k : Int, (knd st.see : Int) = k := ⟨_, rfl⟩
    have hk1 : (k == 1) = false := by simp; omega
    have hk2 : (k != 1) = true := by simp; omega
    obtain ⟨ln, cP⟩ := peek_is h k ⟨(txt st.see).toArray⟩ hkk rfl
    have CP := Lib.hid cP
    have H := Lib.hid h
    clear cP h hk hkk
    have hT := tok_text
    have hK := tok_kind
    go_enter Tryz.func34, Tryz.ntmps34
    go_wp2_with (first
      | (go_at_call 14; refine CP.out.mono ?_; rintro e w1 ⟨rfl, hb⟩)
      | (go_at_call 65; refine (fail_any _ P all st (H.out.below hb)).mono ?_; rintro e w2 ⟨rfl, hw2⟩))
    go_ret
    unfold PostName
    rw [hE.out, hV.out]
    exact ⟨rfl, hw2.from hb⟩
end Go.Proofs.YtncflfadgcaldaaGreatDoor
