/-
  The contract of statement of package parse, over that of block; and, by induction on the tokens that are left, of statement and block.
-/
import Derived.Test.YtncflfadgcaldaaGreatDoorPstJ
namespace Go.Proofs.YtncflfadgcaldaaGreatDoor
open Go.RowKit
open Par

namespace Par
open Tok (T Bs)
theorem Box.kept2 {P B : Nat} {w w' : World} {b : Nat} {vs : List Value} (h : Box w b vs) (k : Kept2 P B w w') (hp : b ≠ P) (hb : b ≠ B) : Box w' b vs := fun j u hj => by
  obtain ⟨h1, h2⟩ := h j u hj
  have hl : b < w.heap.size := block_lt_of_cell (a := ⟨b, j, none⟩) h1
  exact ⟨(k.cell hl hp hb).trans h1, (World.frozen?_of_block (w := w) (k.block b hl hp hb)).trans h2⟩
theorem step_name {g : Pa Sm} {t : T} {r : List T} (h : t.1 = 1) : after (stmtStep g) (.on (t :: r)) = after assignP (.on (t :: r)) ∧ val (stmtStep g) (.on (t :: r)) = val assignP (.on (t :: r)) := by
  have e : stmtStep g (t :: r) = assignP (t :: r) := by simp [stmtStep, knd, h]
  simp only [after, val, e, and_self]
theorem step_none {g : Pa Sm} {st : St} (h : ¬ knd st.see = 1) (h2 : stmtKind (txt st.see) = 0) : after (stmtStep g) st = .off st.rem ∧ val (stmtStep g) st = none := by
  cases st with
  | off r => exact ⟨rfl, rfl⟩
  | on r =>
    simp only [St.see] at h h2
    have e : stmtStep g r = .error r := by simp [stmtStep, h, h2]
    simp only [after, val, e, St.rem, and_self]
theorem step_word {g : Pa Sm} {t : T} {r : List T} {k : Nat} (h : ¬ t.1 = 1) (h2 : stmtKind t.2.1 = k) (h3 : k ≠ 0) : after (stmtStep g) (.on (t :: r)) = after (restP g k t.2.2) (.on r) ∧ val (stmtStep g) (.on (t :: r)) = val (restP g k t.2.2) (.on r) := by
  subst h2
  have e : stmtStep g (t :: r) = restP g (stmtKind t.2.1) t.2.2 r := by simp [stmtStep, knd, txt, lineOf, h, h3]
  simp only [after, val, e, and_self]
theorem stmtKind_see {st : St} (h : stmtKind (txt st.see) ≠ 0) : ∃ t r, st = .on (t :: r) := by
  match st, h with
  | .off r, h => exact absurd rfl h
  | .on [], h => exact absurd rfl h
  | .on (t :: r), _ => exact ⟨t, r, rfl⟩
theorem nil_nil (w : World) : (binOp .eql 159 .nilFunc .nilFunc).run Tryz.prog w = .ok (.bool true) w := by kernel_rfl
theorem fn_nil (id : FuncId) (w : World) : (binOp .eql 159 (.func (.func id) #[] #[]) .nilFunc).run Tryz.prog w = .ok (.bool false) w := by kernel_rfl
end Par

set_option maxHeartbeats 4000000 in
set_option maxRecDepth 100000 in
theorem statement_name (g : Pa Sm) (w : World) (P : Nat) (all : List Tok.T) (t : Tok.T) (r : List Tok.T) (h : Is w P all (.on (t :: r))) (ht : t.1 = 1) :
    Calls Tryz.prog 68 #[.pointer (some ⟨P, 0, none⟩)] w (PostS (stmtStep g) P all (.on (t :: r)) w) := by
  have hP := h.lt
  have HN := Lib.hid (step_name (g := g) (r := r) ht)
  have H := Lib.hid h
  have CA := Lib.hid (fun w h => assignment_any w P all t r h ht)
  have CP : Hid (∀ w, Is w P all (.on (t :: r)) → Calls Tryz.prog 14 #[.pointer (some ⟨P, 0, none⟩)] w fun e w' => e = .returned (.agg #[.int .i64 1, .string ⟨t.2.1.toArray⟩, .int .i64 t.2.2]) ∧ Below w.heap.size w w') := Lib.hid (fun w h => by
    have := peek_any w P all _ h
    unfold PostTok at this
    simp only [St.see, knd, txt, lin, ht] at this
    exact this)
  clear h ht
  go_enter Tryz.func68, Tryz.ntmps68
  go_wp2_with (first
    | (go_at_call 14; refine (CP.out _ (H.out.below ((Below.refl _ _).alloc (Nat.le_refl _) _))).mono ?_; rintro e w1 ⟨rfl, hb1⟩)
    | (go_at_call 97; refine (CA.out _ (((H.out.below ((Below.refl _ _).alloc (Nat.le_refl _) _)).below hb1).below ((Below.refl _ _).alloc (Nat.le_refl _) _))).mono ?_; rintro e w2 ⟨op, line, nm, ag, a4, l4, c4, e0, e1, e2, a3, l3, c3, a9, l9, c9, a10, l10, c10, rfl, ⟨hk2, hi2⟩, hv2⟩; have s1 := hb1.size; simp at s1; have s2 := hk2.size; simp at s2; have hneR : w.heap.size ≠ P := (by omega); have rr := Lib.hid (((Box.new w _ _).kept (Kept.of_below hb1) hneR).kept (((Kept.refl P w1).alloc _).trans hk2) hneR); have hl2 : w.heap.size < w2.heap.size := (by omega); obtain ⟨q0, qf0⟩ := rr.out 0 _ rfl; obtain ⟨q1, qf1⟩ := rr.out 1 _ rfl; obtain ⟨q2, qf2⟩ := rr.out 2 _ rfl; obtain ⟨q3, qf3⟩ := rr.out 3 _ rfl; obtain ⟨q4, qf4⟩ := rr.out 4 _ rfl; obtain ⟨q5, qf5⟩ := rr.out 5 _ rfl; obtain ⟨q6, qf6⟩ := rr.out 6 _ rfl; obtain ⟨q7, qf7⟩ := rr.out 7 _ rfl; obtain ⟨q8, qf8⟩ := rr.out 8 _ rfl; obtain ⟨q9, qf9⟩ := rr.out 9 _ rfl; obtain ⟨q10, qf10⟩ := rr.out 10 _ rfl))
  obtain ⟨f1, f2, f3⟩ := fin11 w.heap.size rfl (((((Kept.refl P w).alloc (.cells #[.int .i64 0, .int .i64 0, .string ⟨#[]⟩, .string ⟨#[]⟩, .slice none 0 0, .int .i64 0, .int .i64 0, .string ⟨#[]⟩, .slice none 0 0, .slice none 0 0, .slice none 0 0] 83)).trans (Kept.of_below hb1)).alloc _).trans hk2) hP hi2 (.int .i64 op) (.int .i64 line) (.string nm) (.string ag) (.slice a4 l4 c4) (.int .i64 e0) (.int .i64 e1) (.string e2) (.slice a3 l3 c3) (.slice a9 l9 c9) (.slice a10 l10 c10)
  refine bodyPost_ret (v := .agg #[.int .i64 op, .int .i64 line, .string nm, .string ag, .slice a4 l4 c4, .int .i64 e0, .int .i64 e1, .string e2, .slice a3 l3 c3, .slice a9 l9 c9, .slice a10 l10 c10]) (by simp [results, Tryz.results68, go_sem, *]) rfl ⟨_, _, _, _, _, _, _, _, _, _, _, _, _, _, _, _, _, _, _, rfl, ⟨f1, by rw [HN.out.1]; exact f2⟩, fun s hs => ?_⟩
  rw [HN.out.2] at hs
  exact RdS.turn (stay f3 (by simp; omega) (by simp; omega) (by simp; omega)) _ _ (hv2 s hs)

set_option maxHeartbeats 4000000 in
set_option maxRecDepth 100000 in
theorem statement_none (g : Pa Sm) (w : World) (P : Nat) (all : List Tok.T) (st : St) (h : Is w P all st) (hk : ¬ knd st.see = 1) (h0 : stmtKind (txt st.see) = 0) :
    Calls Tryz.prog 68 #[.pointer (some ⟨P, 0, none⟩)] w (PostS (stmtStep g) P all st w) := by
  have hP := h.lt
  have HN := Lib.hid (step_none (g := g) hk h0)
  have H := Lib.hid h
  obtain ⟨k, hkk⟩ : ∃ k : Int, (knd st.see : Int) = k := ⟨_, rfl⟩
  obtain ⟨x, hx⟩ : ∃ x : ByteArray, txt st.see = x.data.toList := ⟨⟨(txt st.see).toArray⟩, rfl⟩
  have hk1 : (k == 1) = false := by simp; omega
  have CP : Hid (∀ w, Is w P all st → ∃ ln : Int, Calls Tryz.prog 14 #[.pointer (some ⟨P, 0, none⟩)] w fun e w' => e = .returned (.agg #[.int .i64 k, .string x, .int .i64 ln]) ∧ Below w.heap.size w w') := Lib.hid (fun w h => peek_is h k x hkk hx)
  have CK : Hid (∀ w, Calls Tryz.prog 98 #[.string x] w fun e w' => e = .returned (.tuple #[.int .i64 0, .nilFunc]) ∧ w = w') := Lib.hid (fun w => by
    have := keywordStatement_any x w
    rw [← hx, h0] at this
    exact this)
  obtain ⟨ln, cp⟩ := CP.out _ (H.out.below ((Below.refl _ w).alloc (Nat.le_refl _) (.cells #[.int .i64 0, .int .i64 0, .string ⟨#[]⟩, .string ⟨#[]⟩, .slice none 0 0, .int .i64 0, .int .i64 0, .string ⟨#[]⟩, .slice none 0 0, .slice none 0 0, .slice none 0 0] 83)))
  have CP2 := Lib.hid cp
  clear h hk h0 hkk hx cp CP
  have HE := nil_nil
  go_enter Tryz.func68, Tryz.ntmps68
  go_wp2_with (first
    | (go_at_call 14; refine CP2.out.mono ?_; rintro e w1 ⟨rfl, hb1⟩)
    | (go_at_call 98; refine (CK.out _).mono ?_; rintro e w' ⟨rfl, rfl⟩)
    | (go_at_call 65; refine (fail_any _ P all _ (((H.out.below ((Below.refl _ _).alloc (Nat.le_refl _) _)).below hb1).below ((Below.refl _ _).alloc (Nat.le_refl _) _))).mono ?_; rintro e w2 ⟨rfl, hk2, hi2⟩; have s1 := hb1.size; simp at s1; have s2 := hk2.size; simp at s2; have hneR : w.heap.size ≠ P := (by omega); have rr := Lib.hid (((Box.new w _ _).kept (Kept.of_below hb1) hneR).kept (((Kept.refl P w1).alloc _).trans hk2) hneR); have hl2 : w.heap.size < w2.heap.size := (by omega); obtain ⟨q0, qf0⟩ := rr.out 0 _ rfl; obtain ⟨q1, qf1⟩ := rr.out 1 _ rfl; obtain ⟨q2, qf2⟩ := rr.out 2 _ rfl; obtain ⟨q3, qf3⟩ := rr.out 3 _ rfl; obtain ⟨q4, qf4⟩ := rr.out 4 _ rfl; obtain ⟨q5, qf5⟩ := rr.out 5 _ rfl; obtain ⟨q6, qf6⟩ := rr.out 6 _ rfl; obtain ⟨q7, qf7⟩ := rr.out 7 _ rfl; obtain ⟨q8, qf8⟩ := rr.out 8 _ rfl; obtain ⟨q9, qf9⟩ := rr.out 9 _ rfl; obtain ⟨q10, qf10⟩ := rr.out 10 _ rfl))
  obtain ⟨f1, f2, f3⟩ := fin11 w.heap.size rfl (((((Kept.refl P w).alloc (.cells #[.int .i64 0, .int .i64 0, .string ⟨#[]⟩, .string ⟨#[]⟩, .slice none 0 0, .int .i64 0, .int .i64 0, .string ⟨#[]⟩, .slice none 0 0, .slice none 0 0, .slice none 0 0] 83)).trans (Kept.of_below hb1)).alloc _).trans hk2) hP hi2 (.int .i64 0) (.int .i64 0) (.string ⟨#[]⟩) (.string ⟨#[]⟩) (.slice none 0 0) (.int .i64 0) (.int .i64 0) (.string ⟨#[]⟩) (.slice none 0 0) (.slice none 0 0) (.slice none 0 0)
  refine bodyPost_ret (v := .agg #[.int .i64 0, .int .i64 0, .string ⟨#[]⟩, .string ⟨#[]⟩, .slice none 0 0, .int .i64 0, .int .i64 0, .string ⟨#[]⟩, .slice none 0 0, .slice none 0 0, .slice none 0 0]) (by simp [results, Tryz.results68, go_sem, *]) rfl ⟨_, _, _, _, _, _, _, _, _, _, _, _, _, _, _, _, _, _, _, rfl, ⟨f1, by rw [HN.out.1]; exact f2⟩, fun s hs => ?_⟩
  rw [HN.out.2] at hs
  cases hs

set_option maxHeartbeats 4000000 in
set_option maxRecDepth 100000 in
theorem statement_word (g : Pa Sm) (id : FuncId) (hid : id = 123 ∨ id = 124 ∨ id = 125 ∨ id = 126 ∨ id = 128 ∨ id = 129 ∨ id = 127) (k : Nat) (w : World) (P : Nat) (all : List Tok.T) (t : Tok.T) (r : List Tok.T) (h : Is w P all (.on (t :: r)))
    (hk : ¬ t.1 = 1) (h0 : stmtKind t.2.1 = k) (h1 : k ≠ 0) (hfn : fnOf k = .func (.func id) #[] #[])
    (hc : ∀ (w : World) (B : Nat), Is w P all (.on r) → Box w B (bare k t.2.2) → P < B → Calls Tryz.prog id #[.pointer (some ⟨P, 0, none⟩), .pointer (some ⟨B, 0, none⟩)] w (PostMe (restP g k t.2.2) P B all (.on r) w)) :
    Calls Tryz.prog 68 #[.pointer (some ⟨P, 0, none⟩)] w (PostS (stmtStep g) P all (.on (t :: r)) w) := by
  have hP := h.lt
  have HN := Lib.hid (step_word (g := g) (r := r) hk h0 h1)
  have H := Lib.hid h
  have hk1 : (((t.1 : Nat) : Int) == 1) = false := by simpa using (by omega : ¬ ((t.1 : Nat) : Int) = 1)
  have CP : Hid (∀ w, Is w P all (.on (t :: r)) → Calls Tryz.prog 14 #[.pointer (some ⟨P, 0, none⟩)] w fun e w' => e = .returned (.agg #[.int .i64 t.1, .string ⟨t.2.1.toArray⟩, .int .i64 t.2.2]) ∧ Below w.heap.size w w') := Lib.hid (fun w h => peek_any w P all _ h)
  have CK : Hid (∀ w, Calls Tryz.prog 98 #[.string ⟨t.2.1.toArray⟩] w fun e w' => e = .returned (.tuple #[.int .i64 k, .func (.func id) #[] #[]]) ∧ w = w') := Lib.hid (fun w => by
    have := keywordStatement_any ⟨t.2.1.toArray⟩ w
    simp only at this
    rw [h0, hfn] at this
    exact this)
  have CM := Lib.hid hc
  clear h hk h0 h1 hfn hc
  have HE := fn_nil id
  rcases hid with rfl | rfl | rfl | rfl | rfl | rfl | rfl
  all_goals
    go_enter Tryz.func68, Tryz.ntmps68
    go_wp2_with (first
      | (go_at_call 14; refine (CP.out _ (H.out.below ((Below.refl _ _).alloc (Nat.le_refl _) _))).mono ?_; rintro e w1 ⟨rfl, hb1⟩)
      | (go_at_call 98; refine (CK.out _).mono ?_; rintro e w' ⟨rfl, rfl⟩)
      | (go_at_call 33; refine (pass_any _ P all t r (((H.out.below ((Below.refl _ _).alloc (Nat.le_refl _) _)).below hb1).below ((Below.refl _ _).alloc (Nat.le_refl _) _))).mono ?_; rintro e w2 ⟨rfl, hk2, hi2⟩; have s1 := hb1.size; simp at s1; obtain ⟨x0, x1, x2, _, _, _, hz2, _, _⟩ := Kept.new3 hk2 (show P < w1.heap.size by omega))
      | ((first | go_at_call 123 | go_at_call 124 | go_at_call 125 | go_at_call 126 | go_at_call 128 | go_at_call 129 | go_at_call 127); refine (CM.out _ w2.heap.size (hi2.below ((Below.refl _ _).alloc (Nat.le_refl _) _)) (Box.new w2 _ _) (by omega)).mono ?_; rintro e w3 ⟨rfl, hk3, hi3, vs, hbx, ⟨op, line, nm, ag, a4, l4, c4, e0, e1, e2, a3, l3, c3, a9, l9, c9, a10, l10, c10, rfl⟩, hv3⟩; have s3 := hk3.size; simp at s3; have hneR : w.heap.size ≠ P := (by omega); have hneRB : w.heap.size ≠ w2.heap.size := (by omega); have bb := Lib.hid hbx; have rr := Lib.hid (((((Box.new w _ _).kept (Kept.of_below hb1) hneR).kept (((Kept.refl P w1).alloc _).trans hk2) hneR).kept ((Kept.refl P w2).alloc _) hneR).kept2 hk3 hneR hneRB); have hl2 : w.heap.size < w3.heap.size := (by omega); have hl3 : w2.heap.size < w3.heap.size := (by omega); obtain ⟨q0, qf0⟩ := rr.out 0 _ rfl; obtain ⟨q1, qf1⟩ := rr.out 1 _ rfl; obtain ⟨q2, qf2⟩ := rr.out 2 _ rfl; obtain ⟨q3, qf3⟩ := rr.out 3 _ rfl; obtain ⟨q4, qf4⟩ := rr.out 4 _ rfl; obtain ⟨q5, qf5⟩ := rr.out 5 _ rfl; obtain ⟨q6, qf6⟩ := rr.out 6 _ rfl; obtain ⟨q7, qf7⟩ := rr.out 7 _ rfl; obtain ⟨q8, qf8⟩ := rr.out 8 _ rfl; obtain ⟨q9, qf9⟩ := rr.out 9 _ rfl; obtain ⟨q10, qf10⟩ := rr.out 10 _ rfl; obtain ⟨p0, pf0⟩ := bb.out 0 _ rfl; obtain ⟨p1, pf1⟩ := bb.out 1 _ rfl; obtain ⟨p2, pf2⟩ := bb.out 2 _ rfl; obtain ⟨p3, pf3⟩ := bb.out 3 _ rfl; obtain ⟨p4, pf4⟩ := bb.out 4 _ rfl; obtain ⟨p5, pf5⟩ := bb.out 5 _ rfl; obtain ⟨p6, pf6⟩ := bb.out 6 _ rfl; obtain ⟨p7, pf7⟩ := bb.out 7 _ rfl; obtain ⟨p8, pf8⟩ := bb.out 8 _ rfl; obtain ⟨p9, pf9⟩ := bb.out 9 _ rfl; obtain ⟨p10, pf10⟩ := bb.out 10 _ rfl))
    have hkA := Kept2.drop (((((((Kept.refl P w).alloc (.cells #[.int .i64 0, .int .i64 0, .string ⟨#[]⟩, .string ⟨#[]⟩, .slice none 0 0, .int .i64 0, .int .i64 0, .string ⟨#[]⟩, .slice none 0 0, .slice none 0 0, .slice none 0 0] 83)).trans (Kept.of_below hb1)).alloc _).trans hk2).alloc _)) hk3 (by omega)
    obtain ⟨f1, f2, f3⟩ := fin11 w.heap.size rfl hkA hP hi3 (.int .i64 op) (.int .i64 line) (.string nm) (.string ag) (.slice a4 l4 c4) (.int .i64 e0) (.int .i64 e1) (.string e2) (.slice a3 l3 c3) (.slice a9 l9 c9) (.slice a10 l10 c10)
    refine bodyPost_ret (v := .agg #[.int .i64 op, .int .i64 line, .string nm, .string ag, .slice a4 l4 c4, .int .i64 e0, .int .i64 e1, .string e2, .slice a3 l3 c3, .slice a9 l9 c9, .slice a10 l10 c10]) (by simp [results, Tryz.results68, go_sem, *]) rfl ⟨_, _, _, _, _, _, _, _, _, _, _, _, _, _, _, _, _, _, _, rfl, ⟨f1, by rw [HN.out.1]; exact f2⟩, fun s hs => ?_⟩
    rw [HN.out.2] at hs
    exact RdS.turn (stay f3 (by simp; omega) (by simp; omega) (by simp; omega)) _ _ (hv3 s hs)
end Go.Proofs.YtncflfadgcaldaaGreatDoor
