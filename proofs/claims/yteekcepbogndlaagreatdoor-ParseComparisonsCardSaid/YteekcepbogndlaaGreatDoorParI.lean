/-
  Contracts of variable and primary of package parse.
-/
import Derived.Test.YteekcepbogndlaaGreatDoorParH
namespace Go.Proofs.YteekcepbogndlaaGreatDoor
open Go.RowKit
open Par

namespace Par
open Tok (T Bs)
theorem named_no {f : Pa E} {t : T} {r : List T} (h : txt r ≠ [91]) : after (named f) (.on (t :: r)) = .on r ∧ val (named f) (.on (t :: r)) = some (.mk 2 0 ⟨t.2.1.toArray⟩ []) := by
  have e : index f r = .ok ([], r) := by simp only [index]; rw [if_neg h]
  simp [after, val, named, e, txt]
theorem named_yes {f : Pa E} {t t2 : T} {r2 : List T} (h : t2.2.1 = [91]) : after (named f) (.on (t :: t2 :: r2)) = after (closed f [93]) (.on r2) ∧
    ∀ x, val (named f) (.on (t :: t2 :: r2)) = some x → ∃ e, val (closed f [93]) (.on r2) = some e ∧ x = .mk 3 0 ⟨t.2.1.toArray⟩ [e] := by
  have ht : txt (t2 :: r2) = [91] := h
  cases hx : closed f [93] r2 with
  | error q =>
    have e : index f (t2 :: r2) = .error q := by simp only [index]; rw [if_pos ht]; simp [hx]
    simp [after, val, named, e, hx]
  | ok p =>
    obtain ⟨y, q⟩ := p
    have e : index f (t2 :: r2) = .ok ([y], q) := by simp only [index]; rw [if_pos ht]; simp [hx]
    simp [after, val, named, e, hx, txt]
end Par

set_option maxHeartbeats 1000000 in
set_option maxRecDepth 100000 in
theorem variable_any (f : Pa E) (P : Nat) (all : List Tok.T) (t : Tok.T) (r : List Tok.T) (w : World) (h : Is w P all (.on (t :: r))) (hk : t.1 = 1)
    (CE : ∀ t2 r2, r = t2 :: r2 → Hid (∀ (w : World), Is w P all (.on r2) → Calls Tryz.prog 40 #[.pointer (some ⟨P, 0, none⟩)] w (PostE f P all (.on r2) w))) :
    Calls Tryz.prog 190 #[.pointer (some ⟨P, 0, none⟩)] w (PostE (named f) P all (.on (t :: r)) w) := by
  have hP := h.lt
  have CN : Hid (∀ w, Is w P all (.on (t :: r)) → Calls Tryz.prog 102 #[.pointer (some ⟨P, 0, none⟩)] w fun e w' => e = .returned (.string ⟨t.2.1.toArray⟩) ∧ Went P all (.on r) w w') := Lib.hid (fun w h => by
    have := name_any w P all _ h
    unfold PostName at this
    have e1 : nameTxt (.on (t :: r)) = t.2.1 := by simp [nameTxt, St.see, knd, hk, txt]
    have e2 : nameSt (.on (t :: r)) = .on r := by simp [nameSt, knd, hk]
    rw [e1, e2] at this
    exact this)
  have H := Lib.hid h
  clear h hk
  by_cases ht : txt r = [91]
  · obtain ⟨t2, r2, rfl, ht2⟩ : ∃ t2 r2, r = t2 :: r2 ∧ t2.2.1 = [91] := by
      match r, ht with
      | [], ht => cases ht
      | t2 :: r2, ht => exact ⟨t2, r2, rfl, ht⟩
    have CX := Lib.hid (fun w h => index_yes f P all t2 r2 w h ht2 (CE t2 r2 rfl))
    have HN := Lib.hid (named_yes (f := f) (t := t) (r2 := r2) ht2)
    clear ht ht2 CE
    go_enter Tryz.func190, Tryz.ntmps190
    go_wp2_with (first
      | (go_at_call 102; refine (CN.out _ (H.out.below ((Below.refl _ _).alloc (Nat.le_refl _) _))).mono ?_; rintro e w1 ⟨rfl, hk1, hi1⟩; have s1 := hk1.size; simp at s1)
      | (go_at_call 171; refine (CX.out _ hi1).mono ?_; rintro e w2 ⟨g, rfl, hg, hk2, hi2, hv2⟩; have s2 := hk2.size; obtain ⟨r0, r1, r2, r3, g0, g1, g2, g3, hz, hn1, hn2⟩ := Kept.new4 (hk1.trans hk2) hP))
    obtain ⟨⟨hkW, hiW⟩, hrd, _⟩ := fin_build (n := w.heap.size + 1) (.int .i64 3) (.int .i64 0) (.string ⟨t.2.1.toArray⟩) (.slice (some ⟨g, 0, none⟩) 1 1) (cs := #[.int .i64 3, .int .i64 0, .string ⟨t.2.1.toArray⟩, .slice (some ⟨g, 0, none⟩) 1 1]) (t := 34)
      ((((Kept.refl P w).alloc _).trans hk1).trans hk2) hP hi2 (by omega) rfl
    refine bodyPost_ret (v := .agg #[.int .i64 3, .int .i64 0, .string ⟨t.2.1.toArray⟩, .slice (some ⟨g, 0, none⟩) 1 1]) (by simp [results, Tryz.results190, go_sem, *]) rfl ⟨_, _, _, _, _, _, rfl, hkW, HN.out.1 ▸ hiW, fun x hx => ?_⟩
    obtain ⟨e, he, rfl⟩ := HN.out.2 x hx
    refine hrd _ _ (RdE.weak (S := From w1.heap.size) ⟨_, _, rfl, .inr ⟨g, rfl, hg, hv2 e he⟩⟩ (from_weak s1))
  · have CX := Lib.hid (fun w h => index_no P all (.on r) w h ht)
    have HN := Lib.hid (named_no (f := f) (t := t) ht)
    clear ht CE
    go_enter Tryz.func190, Tryz.ntmps190
    go_wp2_with (first
      | (go_at_call 102; refine (CN.out _ (H.out.below ((Below.refl _ _).alloc (Nat.le_refl _) _))).mono ?_; rintro e w1 ⟨rfl, hk1, hi1⟩; have s1 := hk1.size; simp at s1)
      | (go_at_call 171; refine (CX.out _ hi1).mono ?_; rintro e w2 ⟨rfl, hk2, hi2⟩; have s2 := hk2.size; obtain ⟨r0, r1, r2, r3, g0, g1, g2, g3, hz, hn1, hn2⟩ := Kept.new4 (hk1.trans hk2) hP))
    obtain ⟨⟨hkW, hiW⟩, hrd, _⟩ := fin_build (n := w.heap.size + 1) (.int .i64 2) (.int .i64 0) (.string ⟨t.2.1.toArray⟩) (.slice none 0 0) (cs := #[.int .i64 2, .int .i64 0, .string ⟨t.2.1.toArray⟩, .slice none 0 0]) (t := 34)
      ((((Kept.refl P w).alloc _).trans hk1).trans hk2) hP hi2 (by omega) rfl
    refine bodyPost_ret (v := .agg #[.int .i64 2, .int .i64 0, .string ⟨t.2.1.toArray⟩, .slice none 0 0]) (by simp [results, Tryz.results190, go_sem, *]) rfl ⟨_, _, _, _, _, _, rfl, hkW, HN.out.1 ▸ hiW, fun x hx => ?_⟩
    rw [HN.out.2] at hx
    cases hx
    exact ⟨_, _, rfl, .inl rfl⟩

namespace Par
open Tok (T Bs)
theorem prim_name {f : Pa E} {t : T} {r : List T} (h : t.1 = 1) : after (primary f) (.on (t :: r)) = after (named f) (.on (t :: r)) ∧ val (primary f) (.on (t :: r)) = val (named f) (.on (t :: r)) := by
  have e : primary f (t :: r) = named f (t :: r) := by simp [primary, knd, h]
  simp only [after, val, e, and_self]
theorem prim_paren {f : Pa E} {t : T} {r : List T} (h : ¬ t.1 = 1) (h2 : t.2.1 = [40]) : after (primary f) (.on (t :: r)) = after (closed f [41]) (.on r) ∧ val (primary f) (.on (t :: r)) = val (closed f [41]) (.on r) := by
  have e : primary f (t :: r) = closed f [41] r := by simp [primary, knd, txt, h, h2]
  simp only [after, val, e, and_self]
theorem prim_num {f : Pa E} {st : St} (h : ¬ knd st.see = 1) (h2 : txt st.see ≠ [40]) : after (primary f) st = after (number 0) st ∧ ∀ x, val (primary f) st = some x → x = .mk 1 (numVal 0 st) ⟨#[]⟩ [] := by
  cases st with
  | off r => exact ⟨rfl, fun x hx => by cases hx⟩
  | on r =>
    simp only [St.see] at h h2
    cases hx : number 0 r with
    | error q =>
      have e : primary f r = .error q := by simp [primary, h, h2, hx]
      simp [after, val, e, hx]
    | ok p =>
      obtain ⟨n, q⟩ := p
      have e : primary f r = .ok (.mk 1 n ⟨#[]⟩ [], q) := by simp [primary, h, h2, hx]
      simp only [after, val, e, hx, numVal, Option.getD_some, true_and]
      intro x hx
      cases hx
      rfl
end Par
end Go.Proofs.YteekcepbogndlaaGreatDoor
