/-
  Contracts of variable and primary of package parse.
  Contracts of primary and unary of package parse, and of all readers of expressions together.
  The contract of unary of package parse; and, by induction on the tokens that are left, of expr.
-/
import Derived.Test.YtncflfadgcaldaaGreatDoorParH
namespace Go.Proofs.YtncflfadgcaldaaGreatDoor
open Go.RowKit
open Par

namespace Par
open Tok (T Bs)
theorem named_no {f : Pa E} {t : T} {r : List T} (h : txt r ≠ [91]) : after (named f) (.on (t :: r)) = .on r ∧ val (named f) (.on (t :: r)) = some (.mk 2 0 ⟨t.2.1.toArray⟩ []) := by
  have e : index f r = .ok ([], r) := by simp only [index]; rw [if_neg h]
  simp [after, val, named, e, txt]
theorem named_yes {f : Pa E} {t t2 : T} {r2 : List T} (h : t2.2.1 = [91]) : after (named f) (.on (t :: t2 :: r2)) = after (closed f [93]) (.on r2) ∧
    ∀ x, val (named f) (.on (t :: t2 :: r2)) = some x → ∃ e, val (closed f [93]) (.on r2) = some e ∧ x = .mk 3 0 ⟨t.2.1.toArray⟩ [e] := by
  have ht : txt (t2 :: r2) = [91] := h
  cases hx : closed f [93] r2 with
  | error q =>
    have e : index f (t2 :: r2) = .error q := by simp only [index]; rw [if_pos ht]; simp [hx]
    simp [after, val, named, e, hx]
  | ok p =>
    obtain ⟨y, q⟩ := p
    have e : index f (t2 :: r2) = .ok ([y], q) := by simp only [index]; rw [if_pos ht]; simp [hx]
    simp [after, val, named, e, hx, txt]
end Par

set_option maxHeartbeats 1000000 in
set_option maxRecDepth 100000 in
theorem variable_any (f : Pa E) (P : Nat) (all : List Tok.T) (t : Tok.T) (r : List Tok.T) (w : World) (h : Is w P all (.on (t :: r))) (hk : t.1 = 1)
    (CE : ∀ t2 r2, r = t2 :: r2 → Hid (∀ (w : World), Is w P all (.on r2) → Calls Tryz.prog 122 #[.pointer (some ⟨P, 0, none⟩)] w (PostE f P all (.on r2) w))) :
    Calls Tryz.prog 189 #[.pointer (some ⟨P, 0, none⟩)] w (PostE (named f) P all (.on (t :: r)) w) := by
  have hP := h.lt
  have CN : Hid (∀ w, Is w P all (.on (t :: r)) → Calls Tryz.prog 34 #[.pointer (some ⟨P, 0, none⟩)] w fun e w' => e = .returned (.string ⟨t.2.1.toArray⟩) ∧ Went P all (.on r) w w') := Lib.hid (fun w h => by
    have := name_any w P all _ h
    unfold PostName at this
    have e1 : nameTxt (.on (t :: r)) = t.2.1 := by simp [nameTxt, St.see, knd, hk, txt]
    have e2 : nameSt (.on (t :: r)) = .on r := by simp [nameSt, knd, hk]
    rw [e1, e2] at this
    exact this)
  have H := Lib.hid h
  clear h hk
  by_cases ht : txt r = [91]
  · obtain ⟨t2, r2, rfl, ht2⟩ : ∃ t2 r2, r = t2 :: r2 ∧ t2.2.1 = [91] := by
      match r, ht with
      | [], ht => cases ht
      | t2 :: r2, ht => exact ⟨t2, r2, rfl, ht⟩
    have CX := Lib.hid (fun w h => index_yes f P all t2 r2 w h ht2 (CE t2 r2 rfl))
    have HN := Lib.hid (named_yes (f := f) (t := t) (r2 := r2) ht2)
    clear ht ht2 CE
    go_enter Tryz.func189, Tryz.ntmps189
    go_wp2_with (first
      | (go_at_call 34; refine (CN.out _ (H.out.below ((Below.refl _ _).alloc (Nat.le_refl _) _))).mono ?_; rintro e w1 ⟨rfl, hk1, hi1⟩; have s1 := hk1.size; simp at s1)
      | (go_at_call 121; refine (CX.out _ hi1).mono ?_; rintro e w2 ⟨g, rfl, hg, hk2, hi2, hv2⟩; have s2 := hk2.size; obtain ⟨r0, r1, r2, r3, g0, g1, g2, g3, hz, hn1, hn2⟩ := Kept.new4 (hk1.trans hk2) hP))
    obtain ⟨⟨hkW, hiW⟩, hrd, _, _⟩ := fin_build (n := w.heap.size + 1) (.int .i64 3) (.int .i64 0) (.string ⟨t.2.1.toArray⟩) (.slice (some ⟨g, 0, none⟩) 1 1) (cs := #[.int .i64 3, .int .i64 0, .string ⟨t.2.1.toArray⟩, .slice (some ⟨g, 0, none⟩) 1 1]) (t := 81)
      ((((Kept.refl P w).alloc _).trans hk1).trans hk2) hP hi2 (by omega) rfl
    refine bodyPost_ret (v := .agg #[.int .i64 3, .int .i64 0, .string ⟨t.2.1.toArray⟩, .slice (some ⟨g, 0, none⟩) 1 1]) (by simp [results, Tryz.results189, go_sem, *]) rfl ⟨_, _, _, _, _, _, rfl, hkW, HN.out.1 ▸ hiW, fun x hx => ?_⟩
    obtain ⟨e, he, rfl⟩ := HN.out.2 x hx
    exact hrd _ _ (RdE.pweak (n := w1.heap.size) ⟨_, _, rfl, .inr ⟨g, rfl, hg, hv2 e he⟩⟩ s1)
  · have CX := Lib.hid (fun w h => index_no P all (.on r) w h ht)
    have HN := Lib.hid (named_no (f := f) (t := t) ht)
    clear ht CE
    go_enter Tryz.func189, Tryz.ntmps189
    go_wp2_with (first
      | (go_at_call 34; refine (CN.out _ (H.out.below ((Below.refl _ _).alloc (Nat.le_refl _) _))).mono ?_; rintro e w1 ⟨rfl, hk1, hi1⟩; have s1 := hk1.size; simp at s1)
      | (go_at_call 121; refine (CX.out _ hi1).mono ?_; rintro e w2 ⟨rfl, hk2, hi2⟩; have s2 := hk2.size; obtain ⟨r0, r1, r2, r3, g0, g1, g2, g3, hz, hn1, hn2⟩ := Kept.new4 (hk1.trans hk2) hP))
    obtain ⟨⟨hkW, hiW⟩, hrd, _, _⟩ := fin_build (n := w.heap.size + 1) (.int .i64 2) (.int .i64 0) (.string ⟨t.2.1.toArray⟩) (.slice none 0 0) (cs := #[.int .i64 2, .int .i64 0, .string ⟨t.2.1.toArray⟩, .slice none 0 0]) (t := 81)
      ((((Kept.refl P w).alloc _).trans hk1).trans hk2) hP hi2 (by omega) rfl
    refine bodyPost_ret (v := .agg #[.int .i64 2, .int .i64 0, .string ⟨t.2.1.toArray⟩, .slice none 0 0]) (by simp [results, Tryz.results189, go_sem, *]) rfl ⟨_, _, _, _, _, _, rfl, hkW, HN.out.1 ▸ hiW, fun x hx => ?_⟩
    rw [HN.out.2] at hx
    cases hx
    exact ⟨_, _, rfl, .inl rfl⟩

namespace Par
open Tok (T Bs)
theorem prim_name {f : Pa E} {t : T} {r : List T} (h : t.1 = 1) : after (primary f) (.on (t :: r)) = after (named f) (.on (t :: r)) ∧ val (primary f) (.on (t :: r)) = val (named f) (.on (t :: r)) := by
  have e : primary f (t :: r) = named f (t :: r) := by simp [primary, knd, h]
  simp only [after, val, e, and_self]
theorem prim_paren {f : Pa E} {t : T} {r : List T} (h : ¬ t.1 = 1) (h2 : t.2.1 = [40]) : after (primary f) (.on (t :: r)) = after (closed f [41]) (.on r) ∧ val (primary f) (.on (t :: r)) = val (closed f [41]) (.on r) := by
  have e : primary f (t :: r) = closed f [41] r := by simp [primary, knd, txt, h, h2]
  simp only [after, val, e, and_self]
theorem prim_num {f : Pa E} {st : St} (h : ¬ knd st.see = 1) (h2 : txt st.see ≠ [40]) : after (primary f) st = after (number 0) st ∧ ∀ x, val (primary f) st = some x → x = .mk 1 (numVal 0 st) ⟨#[]⟩ [] := by
  cases st with
  | off r => exact ⟨rfl, fun x hx => by cases hx⟩
  | on r =>
    simp only [St.see] at h h2
    cases hx : number 0 r with
    | error q =>
      have e : primary f r = .error q := by simp [primary, h, h2, hx]
      simp [after, val, e, hx]
    | ok p =>
      obtain ⟨n, q⟩ := p
      have e : primary f r = .ok (.mk 1 n ⟨#[]⟩ [], q) := by simp [primary, h, h2, hx]
      simp only [after, val, e, hx, numVal, Option.getD_some, true_and]
      intro x hx
      cases hx
      rfl
end Par
end Go.Proofs.YtncflfadgcaldaaGreatDoor

namespace Go.Proofs.YtncflfadgcaldaaGreatDoor
open Go.RowKit
open Par

set_option maxHeartbeats 1000000 in
set_option maxRecDepth 100000 in
theorem primary_of (f : Pa E) (N : Nat) (hm : ∀ M, M < N → EM 122 f M) : EM 186 (primary f) N := by
  intro w P all st h hN
  have hP := h.lt
  have H := Lib.hid h
  by_cases hk : knd st.see = 1
  · obtain ⟨t, r, rfl⟩ : ∃ t r, st = .on (t :: r) := by
      match st, hk with
      | .off r, hk => simp [St.see, knd] at hk
      | .on [], hk => simp [St.see, knd] at hk
      | .on (t :: r), _ => exact ⟨t, r, rfl⟩
    have hk1 : t.1 = 1 := hk
    obtain ⟨ln, cP⟩ := peek_is (h.below ((Below.refl _ _).alloc (Nat.le_refl _) (.cells #[.int .i64 0, .int .i64 0, .string ⟨#[]⟩, .slice none 0 0] 81))) 1 ⟨(txt (St.on (t :: r)).see).toArray⟩ (by rw [hk]; rfl) rfl
    have CP := Lib.hid cP
    have CV := Lib.hid (fun w h => variable_any f P all t r w h hk1 (fun t2 r2 e => Lib.hid fun w h => hm (N - 2) (by subst e; simp only [St.rem, List.length_cons] at hN; omega) w P all _ h (by subst e; simp only [St.rem, List.length_cons] at hN ⊢; omega)))
    have HN := Lib.hid (prim_name (f := f) (t := t) (r := r) hk1)
    have hK := tok_kind
    clear hk hk1 cP h hm hN
    show Calls _ _ _ _ _
    go_enter Tryz.func186, Tryz.ntmps186
    go_wp2_with (first
      | (go_at_call 14; refine CP.out.mono ?_; rintro e w1 ⟨rfl, hb⟩; have s1 := hb.size; simp at s1)
      | (go_at_call 189; refine (CV.out _ ((H.out.below ((Below.refl _ _).alloc (Nat.le_refl _) _)).below hb)).mono ?_; rintro e w2 ⟨op, n, nm, a, len, cap, rfl, hk2, hi2, hv2⟩; obtain ⟨r0, r1, r2, r3, g0, g1, g2, g3, hz, hn1, hn2⟩ := Kept.new4 ((Kept.of_below hb).trans hk2) hP))
    exact bodyPost_ret (v := .agg #[.int .i64 op, .int .i64 n, .string nm, .slice a len cap]) (by simp [results, Tryz.results186, go_sem, *]) rfl ⟨_, _, _, _, _, _, rfl, fin_store _ _ _ _ ((((Kept.refl P w).alloc _).trans (Kept.of_below hb)).trans hk2) hP (HN.out.1 ▸ hi2) (n := w1.heap.size) (by omega) (fun x hx => hv2 x (HN.out.2 ▸ hx)) rfl⟩
  · obtain ⟨k, hkk⟩ : ∃ k : Int, (knd st.see : Int) = k := ⟨_, rfl⟩
    have hk1 : (k == 1) = false := by simp; omega
    obtain ⟨ln, cP⟩ := peek_is (h.below ((Below.refl _ _).alloc (Nat.le_refl _) (.cells #[.int .i64 0, .int .i64 0, .string ⟨#[]⟩, .slice none 0 0] 81))) k ⟨(txt st.see).toArray⟩ hkk rfl
    have CP := Lib.hid cP
    have hK := tok_kind
    by_cases ht : txt st.see = [40]
    · obtain ⟨t, r, rfl, ht2⟩ := see_cons ht (by simp)
      have CS := Lib.hid (fun w h => skip_yes w P all t r ⟨#[40]⟩ h ht2)
      have CE : Hid (∀ (w : World), Is w P all (.on r) → Calls Tryz.prog 122 #[.pointer (some ⟨P, 0, none⟩)] w (PostE f P all (.on r) w)) :=
        Lib.hid fun w h => hm (N - 1) (by simp only [St.rem, List.length_cons] at hN; omega) w P all _ h (by simp only [St.rem, List.length_cons] at hN ⊢; omega)
      have HN := Lib.hid (prim_paren (f := f) (t := t) (r := r) hk ht2)
      have HA := Lib.hid (after_closed f [41] (.on r))
      clear hk hkk cP h hm hN ht ht2
      show Calls _ _ _ _ _
      go_enter Tryz.func186, Tryz.ntmps186
      go_wp2_with (first
        | (go_at_call 14; refine CP.out.mono ?_; rintro e w1 ⟨rfl, hb⟩; have s1 := hb.size; simp at s1)
        | (go_at_call 66; refine (CS.out _ ((H.out.below ((Below.refl _ _).alloc (Nat.le_refl _) _)).below hb)).mono ?_; rintro e w2 ⟨rfl, hk2, hi2⟩; have s2 := hk2.size)
        | (go_at_call 122; refine (CE.out _ hi2).mono ?_; rintro e w3 ⟨op, n, nm, a, len, cap, rfl, hk3, hi3, hv3⟩; have s3 := hk3.size)
        | (go_at_call 37; refine (expect_any _ P all _ ⟨#[41]⟩ (hi3.below ((Below.refl _ _).alloc (Nat.le_refl _) _)) (by decide)).mono ?_; rintro e w4 ⟨rfl, hk4, hi4⟩; obtain ⟨d0, d1, d2, d3, _, _, _, _, hzd, _, _⟩ := Kept.new4 hk4 (show P < w3.heap.size by omega); obtain ⟨r0, r1, r2, r3, g0, g1, g2, g3, hz, hn1, hn2⟩ := Kept.new4 ((((Kept.of_below hb).trans hk2).trans hk3).trans (((Kept.refl P w3).alloc _).trans hk4)) hP))
      have hk34 := ((Kept.refl P w3).alloc (.cells #[.int .i64 op, .int .i64 n, .string nm, .slice a len cap] 81)).trans hk4
      refine bodyPost_ret (v := .agg #[.int .i64 op, .int .i64 n, .string nm, .slice a len cap]) (by simp [results, Tryz.results186, go_sem, *]) rfl ⟨_, _, _, _, _, _, rfl, fin_store _ _ _ _ ((((((Kept.refl P w).alloc _).trans (Kept.of_below hb)).trans hk2).trans hk3).trans hk34) hP (by rw [HN.out.1, HA.out]; exact hi4) (n := w2.heap.size) (by omega) (fun x hx => ?_) rfl⟩
      rw [HN.out.2] at hx
      exact (hv3 x (val_closed hx)).goes hk34 (by omega) (Nat.le_refl _)
    · have CS := Lib.hid (fun w h => skip_no w P all st ⟨#[40]⟩ h ht)
      have CNu := Lib.hid (fun w h => number_par 0 0 rfl w P all st h)
      have HN := Lib.hid (prim_num (f := f) hk ht)
      clear hk hkk cP h hm hN ht
      show Calls _ _ _ _ _
      go_enter Tryz.func186, Tryz.ntmps186
      go_wp2_with (first
        | (go_at_call 14; refine CP.out.mono ?_; rintro e w1 ⟨rfl, hb⟩; have s1 := hb.size; simp at s1)
        | (go_at_call 66; refine (CS.out _ ((H.out.below ((Below.refl _ _).alloc (Nat.le_refl _) _)).below hb)).mono ?_; rintro e w2 ⟨rfl, hk2, hi2⟩; have s2 := hk2.size)
        | (go_at_call 67; refine (CNu.out _ hi2).mono ?_; rintro e w3 ⟨rfl, hk3, hi3⟩; obtain ⟨r0, r1, r2, r3, g0, g1, g2, g3, hz, hn1, hn2⟩ := Kept.new4 (((Kept.of_below hb).trans hk2).trans hk3) hP))
      refine bodyPost_ret (v := .agg #[.int .i64 1, .int .i64 (numVal 0 st), .string ⟨#[]⟩, .slice none 0 0]) (by simp [results, Tryz.results186, go_sem, *]) rfl ⟨_, _, _, _, _, _, rfl, fin_store _ _ _ _ (((((Kept.refl P w).alloc _).trans (Kept.of_below hb)).trans hk2).trans hk3) hP (by rw [HN.out.1]; exact hi3) (n := w2.heap.size) (by omega) (fun x hx => ?_) rfl⟩
      obtain rfl := HN.out.2 x hx
      exact ⟨_, _, rfl, .inl rfl⟩
end Go.Proofs.YtncflfadgcaldaaGreatDoor

namespace Go.Proofs.YtncflfadgcaldaaGreatDoor
open Go.RowKit
open Par

namespace Par
open Tok (T Bs)
theorem EM.mono {k : FuncId} {f : Pa E} {M N : Nat} (h : EM k f N) (hM : M ≤ N) : EM k f M := fun w P all st hi hr => h w P all st hi (Nat.le_trans hr hM)
theorem after_signed (u : Pa E) (o : Int) (st : St) : after (signed u o) st = after u st ∧ ∀ x, val (signed u o) st = some x → ∃ e, val u st = some e ∧ x = .mk o 0 ⟨#[]⟩ [e] := by
  cases st with
  | off r => exact ⟨rfl, fun x hx => by cases hx⟩
  | on r =>
    cases hx : u r with
    | error q => simp [after, val, signed, hx]
    | ok p =>
      obtain ⟨e, q⟩ := p
      simp [after, val, signed, hx]
/-- What unary makes of tokens, over what it makes of fewer. -/
def unStep (u : Pa E) : Pa E := fun ts =>
  if txt ts = [45] then signed u 4 ts.tail
  else if txt ts = [33] then signed u 5 ts.tail
  else primary (exprP u) ts
theorem unaryF_succ (n : Nat) : unaryF (n + 1) = unStep (unaryF n) := rfl
theorem un_minus {u : Pa E} {t : T} {r : List T} (h : t.2.1 = [45]) : after (unStep u) (.on (t :: r)) = after (signed u 4) (.on r) ∧ val (unStep u) (.on (t :: r)) = val (signed u 4) (.on r) := by
  have e : unStep u (t :: r) = signed u 4 r := by simp [unStep, txt, h]
  simp only [after, val, e, and_self]
theorem un_not {u : Pa E} {t : T} {r : List T} (h : t.2.1 = [33]) : after (unStep u) (.on (t :: r)) = after (signed u 5) (.on r) ∧ val (unStep u) (.on (t :: r)) = val (signed u 5) (.on r) := by
  have e : unStep u (t :: r) = signed u 5 r := by simp [unStep, txt, h]
  simp only [after, val, e, and_self]
theorem un_prim {u : Pa E} {st : St} (h : txt st.see ≠ [45]) (h2 : txt st.see ≠ [33]) : after (unStep u) st = after (primary (exprP u)) st ∧ val (unStep u) st = val (primary (exprP u)) st := by
  cases st with
  | off r => exact ⟨rfl, rfl⟩
  | on r =>
    simp only [St.see] at h h2
    have e : unStep u r = primary (exprP u) r := by simp [unStep, h, h2]
    simp only [after, val, e, and_self]
end Par

set_option maxHeartbeats 1000000 in
set_option maxRecDepth 100000 in
theorem unary_of (u : Pa E) (N : Nat) (hu : ∀ M, M < N → EM 180 u M) (hp : EM 186 (primary (exprP u)) N) : EM 180 (unStep u) N := by
  intro w P all st h hN
  have hP := h.lt
  have H := Lib.hid h
  by_cases h1 : txt st.see = [45]
  · obtain ⟨t, r, rfl, ht⟩ := see_cons h1 (by simp)
    have CS := Lib.hid (fun w h => skip_yes w P all t r ⟨#[45]⟩ h ht)
    have CU : Hid (∀ (w : World), Is w P all (.on r) → Calls Tryz.prog 180 #[.pointer (some ⟨P, 0, none⟩)] w (PostE u P all (.on r) w)) :=
      Lib.hid fun w h => hu (N - 1) (by simp only [St.rem, List.length_cons] at hN; omega) w P all _ h (by simp only [St.rem, List.length_cons] at hN ⊢; omega)
    have HN := Lib.hid (un_minus (u := u) (r := r) ht)
    have HS := Lib.hid (after_signed u 4 (.on r))
    clear h1 ht h hN hu hp
    show Calls _ _ _ _ _
    go_enter Tryz.func180, Tryz.ntmps180
    go_wp2_with (first
      | (go_at_call 66; refine (CS.out _ (H.out.below ((Below.refl _ _).alloc (Nat.le_refl _) _))).mono ?_; rintro e w1 ⟨rfl, hk1, hi1⟩; have s1 := hk1.size; simp at s1)
      | (go_at_call 180; refine (CU.out _ hi1).mono ?_; rintro e w2 ⟨op, n, nm, a, len, cap, rfl, hk2, hi2, hv2⟩; have s2 := hk2.size; obtain ⟨r0, r1, r2, r3, g0, g1, g2, g3, hz, hn1, hn2⟩ := Kept.new4 (hk1.trans hk2) hP))
    obtain ⟨⟨hkW, hiW⟩, hrd, hpl, hnew⟩ := fin_build (n := w.heap.size + 1) (.int .i64 4) (.int .i64 0) (.string ⟨#[]⟩) (.slice (some ⟨w2.heap.size, 0, none⟩) 1 1) (cs := #[.int .i64 op, .int .i64 n, .string nm, .slice a len cap]) (t := 81)
      ((((Kept.refl P w).alloc _).trans hk1).trans hk2) hP hi2 (by omega) rfl
    refine bodyPost_ret (v := .agg #[.int .i64 4, .int .i64 0, .string ⟨#[]⟩, .slice (some ⟨w2.heap.size, 0, none⟩) 1 1]) (by simp [results, Tryz.results180, go_sem, *]) rfl ⟨_, _, _, _, _, _, rfl, hkW, by rw [HN.out.1, HS.out.1]; exact hiW, fun x hx => ?_⟩
    rw [HN.out.2] at hx
    obtain ⟨e, he, rfl⟩ := HS.out.2 x hx
    exact ⟨_, _, rfl, .inr ⟨w2.heap.size, rfl, ⟨by omega, hpl⟩, rdL_one (hnew 0 _ rfl) (hnew 1 _ rfl) (hnew 2 _ rfl) (hnew 3 _ rfl) (hrd _ _ ((hv2 e he).pweak s1))⟩⟩
  · have CS1 := Lib.hid (fun w h => skip_no w P all st ⟨#[45]⟩ h h1)
    by_cases h2 : txt st.see = [33]
    · obtain ⟨t, r, rfl, ht⟩ := see_cons h2 (by simp)
      have CS := Lib.hid (fun w h => skip_yes w P all t r ⟨#[33]⟩ h ht)
      have CU : Hid (∀ (w : World), Is w P all (.on r) → Calls Tryz.prog 180 #[.pointer (some ⟨P, 0, none⟩)] w (PostE u P all (.on r) w)) :=
        Lib.hid fun w h => hu (N - 1) (by simp only [St.rem, List.length_cons] at hN; omega) w P all _ h (by simp only [St.rem, List.length_cons] at hN ⊢; omega)
      have HN := Lib.hid (un_not (u := u) (r := r) ht)
      have HS := Lib.hid (after_signed u 5 (.on r))
      clear h1 h2 ht h hN hu hp
      show Calls _ _ _ _ _
      go_enter Tryz.func180, Tryz.ntmps180
      go_wp2_with (first
        | (go_at_call 66; refine (CS.out _ hi1).mono ?_; rintro e w3 ⟨rfl, hk3, hi3⟩; have s3 := hk3.size)
        | (go_at_call 66; refine (CS1.out _ (H.out.below ((Below.refl _ _).alloc (Nat.le_refl _) _))).mono ?_; rintro e w1 ⟨rfl, hk1, hi1⟩; have s1 := hk1.size; simp at s1)
        | (go_at_call 180; refine (CU.out _ hi3).mono ?_; rintro e w2 ⟨op, n, nm, a, len, cap, rfl, hk2, hi2, hv2⟩; have s2 := hk2.size; obtain ⟨r0, r1, r2, r3, g0, g1, g2, g3, hz, hn1, hn2⟩ := Kept.new4 ((hk1.trans hk3).trans hk2) hP))
      obtain ⟨⟨hkW, hiW⟩, hrd, hpl, hnew⟩ := fin_build (n := w.heap.size + 1) (.int .i64 5) (.int .i64 0) (.string ⟨#[]⟩) (.slice (some ⟨w2.heap.size, 0, none⟩) 1 1) (cs := #[.int .i64 op, .int .i64 n, .string nm, .slice a len cap]) (t := 81)
        (((((Kept.refl P w).alloc _).trans hk1).trans hk3).trans hk2) hP hi2 (by omega) rfl
      refine bodyPost_ret (v := .agg #[.int .i64 5, .int .i64 0, .string ⟨#[]⟩, .slice (some ⟨w2.heap.size, 0, none⟩) 1 1]) (by simp [results, Tryz.results180, go_sem, *]) rfl ⟨_, _, _, _, _, _, rfl, hkW, by rw [HN.out.1, HS.out.1]; exact hiW, fun x hx => ?_⟩
      rw [HN.out.2] at hx
      obtain ⟨e, he, rfl⟩ := HS.out.2 x hx
      exact ⟨_, _, rfl, .inr ⟨w2.heap.size, rfl, ⟨by omega, hpl⟩, rdL_one (hnew 0 _ rfl) (hnew 1 _ rfl) (hnew 2 _ rfl) (hnew 3 _ rfl) (hrd _ _ ((hv2 e he).pweak (by omega)))⟩⟩
    · have CS := Lib.hid (fun w h => skip_no w P all st ⟨#[33]⟩ h h2)
      have CP : Hid (∀ (w : World), Is w P all st → Calls Tryz.prog 186 #[.pointer (some ⟨P, 0, none⟩)] w (PostE (primary (exprP u)) P all st w)) :=
        Lib.hid fun w h => hp w P all _ h hN
      have HN := Lib.hid (un_prim (u := u) h1 h2)
      clear h1 h2 h hN hu hp
      show Calls _ _ _ _ _
      go_enter Tryz.func180, Tryz.ntmps180
      go_wp2_with (first
        | (go_at_call 66; refine (CS.out _ hi1).mono ?_; rintro e w3 ⟨rfl, hk3, hi3⟩; have s3 := hk3.size)
        | (go_at_call 66; refine (CS1.out _ (H.out.below ((Below.refl _ _).alloc (Nat.le_refl _) _))).mono ?_; rintro e w1 ⟨rfl, hk1, hi1⟩; have s1 := hk1.size; simp at s1)
        | (go_at_call 186; refine (CP.out _ hi3).mono ?_; rintro e w2 ⟨op, n, nm, a, len, cap, rfl, hk2, hi2, hv2⟩; have s2 := hk2.size; obtain ⟨r0, r1, r2, r3, g0, g1, g2, g3, hz, hn1, hn2⟩ := Kept.new4 ((hk1.trans hk3).trans hk2) hP))
      exact bodyPost_ret (v := .agg #[.int .i64 op, .int .i64 n, .string nm, .slice a len cap]) (by simp [results, Tryz.results180, go_sem, *]) rfl ⟨_, _, _, _, _, _, rfl, fin_store _ _ _ _ (((((Kept.refl P w).alloc _).trans hk1).trans hk3).trans hk2) hP (by rw [HN.out.1]; exact hi2) (n := w3.heap.size) (by omega) (fun x hx => hv2 x (HN.out.2 ▸ hx)) rfl⟩

namespace Par
theorem expr_up {u : Pa E} {N : Nat} (hl : Lt u) (he : Er u) (hu : EM 180 u N) : EM 122 (exprP u) N := by
  have p1 := product_of u N hl he hu
  have p2 := sum_of _ N (series_lt hl) (series_er hl he) p1
  have p3 := comparison_of _ N (series_lt (series_lt hl)) (series_er (series_lt hl) (series_er hl he)) p2
  have l3 := cmp_lt (series_lt (ops := sumOps) (series_lt (ops := mulOps) hl))
  have e3 := cmp_er (series_lt (ops := sumOps) (series_lt (ops := mulOps) hl)) (series_er (ops := sumOps) (series_lt (ops := mulOps) hl) (series_er (ops := mulOps) hl he))
  have p4 := and_of _ N l3 e3 p3
  exact expr_of _ N (series_lt l3) (series_er l3 e3) p4
theorem unary_all : ∀ N, EM 180 (unaryF (N + 1)) N
  | 0 => by
    rw [unaryF_succ]
    exact unary_of _ 0 (fun M h => absurd h (by omega)) (primary_of _ 0 (fun M h => absurd h (by omega)))
  | N + 1 => by
    have ih := unary_all N
    rw [unaryF_succ]
    exact unary_of _ (N + 1) (fun M h => ih.mono (by omega)) (primary_of _ (N + 1) (fun M h => (expr_up (unaryF_lt _) (unaryF_er _) ih).mono (by omega)))
/-- The expression that tokens spell. -/
def exprAll (ts : List Tok.T) : Except (List Tok.T) (E × List Tok.T) := exprP (unaryF (ts.length + 1)) ts
theorem expr_all (N : Nat) : EM 122 (exprP (unaryF (N + 1))) N := expr_up (unaryF_lt _) (unaryF_er _) (unary_all N)
end Par
end Go.Proofs.YtncflfadgcaldaaGreatDoor
