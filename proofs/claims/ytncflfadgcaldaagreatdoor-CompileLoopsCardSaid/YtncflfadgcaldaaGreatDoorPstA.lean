/-
  Contracts of declarationKind, size, initial of package parse.
-/
import Derived.Test.YtncflfadgcaldaaGreatDoorParD
import Derived.Test.YtncflfadgcaldaaGreatDoorPstSpec
namespace Go.Proofs.YtncflfadgcaldaaGreatDoor
open Go.RowKit
open Par

namespace Par
open Tok (T Bs)
theorem after_andThen {α β : Type} (f : Pa α) (g : α → Pa β) (a0 : α) (st : St) : after (andThen f g) st = after (g ((val f st).getD a0)) (after f st) := by
  cases st with
  | off r => rfl
  | on r =>
    cases hx : f r with
    | error q => simp [after, andThen, hx]
    | ok p =>
      obtain ⟨a, q⟩ := p
      simp [after, val, andThen, hx]
theorem val_andThen {α β : Type} {f : Pa α} {g : α → Pa β} {st : St} {b : β} (h : val (andThen f g) st = some b) : ∃ a, val f st = some a ∧ val (g a) (after f st) = some b := by
  cases st with
  | off r => cases h
  | on r =>
    cases hx : f r with
    | error q => simp [val, andThen, hx] at h
    | ok p =>
      obtain ⟨a, q⟩ := p
      refine ⟨a, by simp [val, hx], ?_⟩
      simpa [after, val, andThen, hx] using h
theorem after_give {α : Type} (a : α) (st : St) : after (give a) st = st := by cases st <;> rfl
theorem val_give {α : Type} {a b : α} {st : St} (h : val (give a) st = some b) : a = b := by
  cases st with
  | off r => cases h
  | on r => simpa [val, give] using h
theorem after_exp (s : Bs) (st : St) : after (exp s) st = expSt s st := by
  cases st with
  | off r => rfl
  | on r =>
    by_cases h : txt r = s
    · simp [after, exp, expSt, h]
    · simp [after, exp, expSt, h]
theorem after_nameP (st : St) : after nameP st = nameSt st := by
  cases st with
  | off r => rfl
  | on r =>
    by_cases h : knd r = 1
    · simp [after, nameP, nameSt, h]
    · simp [after, nameP, nameSt, h]
theorem val_nameP {st : St} {a : Bs} (h : val nameP st = some a) : nameTxt st = a := by
  cases st with
  | off r => cases h
  | on r =>
    by_cases h2 : knd r = 1
    · simpa [val, nameP, h2, nameTxt, St.see] using h
    · simp [val, nameP, h2] at h
theorem val_number {l : Nat} {st : St} {n : Nat} (h : val (number l) st = some n) : numVal l st = n := by simp [numVal, h]
theorem numVal_lt {l : Nat} {st : St} (h : ∀ t ∈ st.rem, WF t) : numVal l st < Tok.lim := by
  have h0 : 0 < Tok.lim := by decide
  cases st with
  | off r => exact h0
  | on r =>
    simp only [numVal, val]
    by_cases hk : knd r = 2 ∧ l ≤ Tok.dec 0 (txt r)
    · have e : number l r = .ok (Tok.dec 0 (txt r), r.tail) := by simp [number, hk]
      rw [e]
      match r, h, hk with
      | t :: q, h, hk => exact ((h t (by simp [St.rem])).num hk.1).2.2
      | [], _, hk => exact absurd hk.1 (by simp [knd])
    · have e : number l r = .error r := by simp [number, hk]
      rw [e]
      exact h0
/-- What 'size' leaves. -/
def PostSz (P : Nat) (all : List T) (st : St) (w : World) (e : Ending) (w' : World) : Prop := ∃ n : Nat, e = .returned (.int .i64 n) ∧ Went P all (after sizeP st) w w' ∧ ∀ v, val sizeP st = some v → v = n
def PostIn (P : Nat) (all : List T) (st : St) (w : World) (e : Ending) (w' : World) : Prop := ∃ n : Int, e = .returned (.int .i64 n) ∧ Went P all (after initP st) w w' ∧ ∀ v, val initP st = some v → v = n
theorem size_no {st : St} (h : txt st.see ≠ [91]) : after sizeP st = st ∧ ∀ v, val sizeP st = some v → v = 0 := by
  cases st with
  | off r => exact ⟨rfl, fun v hv => by cases hv⟩
  | on r =>
    simp only [St.see] at h
    simp [after, val, sizeP, h]
theorem size_yes {t : T} {r : List T} (h : t.2.1 = [91]) : after sizeP (.on (t :: r)) = expSt [93] (after (number 1) (.on r)) ∧ ∀ v, val sizeP (.on (t :: r)) = some v → v = numVal 1 (.on r) := by
  have e : sizeP (t :: r) = andThen (number 1) (fun n => andThen (exp [93]) fun _ => give n) r := by simp [sizeP, txt, h]
  have e1 : after sizeP (.on (t :: r)) = after (andThen (number 1) (fun n => andThen (exp [93]) fun _ => give n)) (.on r) := by simp only [after, e]
  have e2 : val sizeP (.on (t :: r)) = val (andThen (number 1) (fun n => andThen (exp [93]) fun _ => give n)) (.on r) := by simp only [val, e]
  refine ⟨?_, fun v hv => ?_⟩
  · rw [e1, after_andThen _ _ 0, after_andThen _ _ (), after_give, after_exp]
  · rw [e2] at hv
    obtain ⟨n, h1, h2⟩ := val_andThen hv
    obtain ⟨_, _, h3⟩ := val_andThen h2
    rw [← val_give h3]
    exact (val_number h1).symm
theorem init_no {st : St} (h : txt st.see ≠ [61]) : after initP st = st ∧ ∀ v, val initP st = some v → v = 0 := by
  cases st with
  | off r => exact ⟨rfl, fun v hv => by cases hv⟩
  | on r =>
    simp only [St.see] at h
    simp [after, val, initP, h]
theorem init_minus {t t2 : T} {r : List T} (h : t.2.1 = [61]) (h2 : t2.2.1 = [45]) : after initP (.on (t :: t2 :: r)) = after (number 0) (.on r) ∧ ∀ v, val initP (.on (t :: t2 :: r)) = some v → v = -(numVal 0 (.on r) : Int) := by
  have e : initP (t :: t2 :: r) = andThen (number 0) (fun n => give (-(n : Int))) r := by simp [initP, txt, h, h2]
  have e1 : after initP (.on (t :: t2 :: r)) = after (andThen (number 0) (fun n => give (-(n : Int)))) (.on r) := by simp only [after, e]
  have e2 : val initP (.on (t :: t2 :: r)) = val (andThen (number 0) (fun n => give (-(n : Int)))) (.on r) := by simp only [val, e]
  refine ⟨?_, fun v hv => ?_⟩
  · rw [e1, after_andThen _ _ 0, after_give]
  · rw [e2] at hv
    obtain ⟨n, h1, h2⟩ := val_andThen hv
    rw [← val_give h2, val_number h1]
theorem init_plus {t : T} {r : List T} (h : t.2.1 = [61]) (h2 : txt r ≠ [45]) : after initP (.on (t :: r)) = after (number 0) (.on r) ∧ ∀ v, val initP (.on (t :: r)) = some v → v = (numVal 0 (.on r) : Int) := by
  have e : initP (t :: r) = andThen (number 0) (fun n => give (n : Int)) r := by simp [initP, txt, h] ; simp [txt] at h2 ; simp [h2]
  have e1 : after initP (.on (t :: r)) = after (andThen (number 0) (fun n => give (n : Int))) (.on r) := by simp only [after, e]
  have e2 : val initP (.on (t :: r)) = val (andThen (number 0) (fun n => give (n : Int))) (.on r) := by simp only [val, e]
  refine ⟨?_, fun v hv => ?_⟩
  · rw [e1, after_andThen _ _ 0, after_give]
  · rw [e2] at hv
    obtain ⟨n, h1, h2⟩ := val_andThen hv
    rw [← val_give h2, val_number h1]
end Par

set_option maxHeartbeats 1000000 in
theorem declarationKind_any (s : ByteArray) (w : World) : Calls Tryz.prog 13 #[.string s] w fun e w' => e = .returned (.int .i64 (declKind s.data.toList)) ∧ w = w' := by
  go_enter Tryz.func13, Tryz.ntmps13
  go_wp2
  all_goals
    go_ret
    refine ⟨?_, rfl⟩
    rw [← Lib.toList_data]
    simp_all [declKind]

set_option maxHeartbeats 1000000 in
set_option maxRecDepth 100000 in
theorem size_any (w : World) (P : Nat) (all : List Tok.T) (st : St) (h : Is w P all st) :
    Calls Tryz.prog 35 #[.pointer (some ⟨P, 0, none⟩)] w (PostSz P all st w) := by
  by_cases ht : txt st.see = [91]
  · obtain ⟨t, r, rfl, ht2⟩ := see_cons ht (by simp)
    have C := Lib.hid (skip_yes w P all t r ⟨#[91]⟩ h ht2)
    have HS := Lib.hid (size_yes (r := r) ht2)
    clear ht ht2 h
    go_enter Tryz.func35, Tryz.ntmps35
    go_wp2_with (first
      | (go_at_call 66; refine C.out.mono ?_; rintro e w1 ⟨rfl, hw1⟩)
      | (go_at_call 67; refine (number_par 1 1 rfl _ P all _ hw1.2).mono ?_; rintro e w2 ⟨rfl, hw2⟩)
      | (go_at_call 37; refine (expect_any _ P all _ ⟨#[93]⟩ hw2.2 (by decide)).mono ?_; rintro e w3 ⟨rfl, hw3⟩))
    go_ret
    exact ⟨_, rfl, HS.out.1 ▸ (hw1.comp hw2).comp hw3, HS.out.2⟩
  · have C := Lib.hid (skip_no w P all st ⟨#[91]⟩ h ht)
    have HS := Lib.hid (size_no ht)
    clear ht h
    go_enter Tryz.func35, Tryz.ntmps35
    go_wp2_with (go_at_call 66; refine C.out.mono ?_; rintro e w1 ⟨rfl, hw1⟩)
    go_ret
    exact ⟨0, rfl, HS.out.1.symm ▸ hw1, HS.out.2⟩

set_option maxHeartbeats 1000000 in
set_option maxRecDepth 100000 in
theorem initial_any (w : World) (P : Nat) (all : List Tok.T) (st : St) (h : Is w P all st) :
    Calls Tryz.prog 36 #[.pointer (some ⟨P, 0, none⟩)] w (PostIn P all st w) := by
  by_cases ht : txt st.see = [61]
  · obtain ⟨t, r, rfl, ht2⟩ := see_cons ht (by simp)
    have C := Lib.hid (skip_yes w P all t r ⟨#[61]⟩ h ht2)
    have hwf := h.wf
    by_cases hm : txt r = [45]
    · obtain ⟨t2, r2, rfl, hm2⟩ : ∃ t2 r2, r = t2 :: r2 ∧ t2.2.1 = [45] := by
        match r, hm with
        | [], hm => cases hm
        | t2 :: r2, hm => exact ⟨t2, r2, rfl, hm⟩
      have HS := Lib.hid (init_minus (r := r2) ht2 hm2)
      have C2 := Lib.hid (fun w h => skip_yes w P all t2 r2 ⟨#[45]⟩ h hm2)
      have hlt := numVal_lt (l := 0) (st := .on r2) (fun t ht => hwf t (by simp only [St.rem] at ht ⊢; simp [ht]))
      have hwr : wrap64 (-(numVal 0 (.on r2) : Int)) = -(numVal 0 (.on r2) : Int) := by unfold Tok.lim at hlt; unfold wrap64; omega
      clear ht ht2 h hm hm2 hwf hlt
      generalize hg : (numVal 0 (.on r2)) = N at *
      go_enter Tryz.func36, Tryz.ntmps36
      go_wp2_with (first
        | (go_at_call 66; refine (C2.out _ hw1.2).mono ?_; rintro e w3 ⟨rfl, hw3⟩)
        | (go_at_call 66; refine C.out.mono ?_; rintro e w1 ⟨rfl, hw1⟩)
        | (go_at_call 67; refine (number_par 0 0 rfl _ P all _ hw3.2).mono ?_; rintro e w2 ⟨rfl, hw2⟩; rw [hg]))
      go_ret
      exact ⟨_, rfl, HS.out.1 ▸ (hw1.comp hw3).comp hw2, by rw [hwr]; exact HS.out.2⟩
    · have HS := Lib.hid (init_plus (r := r) ht2 hm)
      have C2 := Lib.hid (fun w h => skip_no w P all (.on r) ⟨#[45]⟩ h hm)
      clear ht ht2 h hm hwf
      go_enter Tryz.func36, Tryz.ntmps36
      go_wp2_with (first
        | (go_at_call 66; refine (C2.out _ hw1.2).mono ?_; rintro e w3 ⟨rfl, hw3⟩)
        | (go_at_call 66; refine C.out.mono ?_; rintro e w1 ⟨rfl, hw1⟩)
        | (go_at_call 67; refine (number_par 0 0 rfl _ P all _ hw3.2).mono ?_; rintro e w2 ⟨rfl, hw2⟩))
      go_ret
      exact ⟨_, rfl, HS.out.1 ▸ (hw1.comp hw3).comp hw2, HS.out.2⟩
  · have C := Lib.hid (skip_no w P all st ⟨#[61]⟩ h ht)
    have HS := Lib.hid (init_no ht)
    clear ht h
    go_enter Tryz.func36, Tryz.ntmps36
    go_wp2_with (go_at_call 66; refine C.out.mono ?_; rintro e w1 ⟨rfl, hw1⟩)
    go_ret
    exact ⟨0, rfl, HS.out.1.symm ▸ hw1, HS.out.2⟩
end Go.Proofs.YtncflfadgcaldaaGreatDoor
