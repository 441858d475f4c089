/-
  The contract of locals of package parse: names with commas between them.
-/
import Derived.Test.YtncflfadgcaldaaGreatDoorPstA
import Derived.Test.YtncflfadgcaldaaGreatDoorParE
import Derived.OwnWalk
import Derived.Deep.LoopGhost
namespace Go.Proofs.YtncflfadgcaldaaGreatDoor
open Go.RowKit
open Par

namespace Par
open Tok (T Bs)
def strs (l : List Bs) : List Value := l.map fun s => .string ⟨s.toArray⟩
def namesFrom (nm : Bs) : Pa (List Bs) := fun ts => namesL ts.length [nm] ts
def localsRest : Pa (List Bs) := fun ts =>
  if txt ts = [41] then .ok ([], ts.tail)
  else andThen nameP (fun nm => andThen (namesFrom nm) fun l => andThen (exp [41]) fun _ => give l) ts
theorem locals_split (st : St) : after localsP st = after localsRest (expSt [40] st) ∧ ∀ l, val localsP st = some l → val localsRest (expSt [40] st) = some l := by
  have e : localsP = andThen (exp [40]) fun _ => localsRest := rfl
  rw [e, ← after_exp]
  refine ⟨after_andThen _ _ () st, fun l hl => ?_⟩
  obtain ⟨_, _, h⟩ := val_andThen hl
  exact h
theorem rest_end {t : T} {r : List T} (h : t.2.1 = [41]) : after localsRest (.on (t :: r)) = .on r ∧ val localsRest (.on (t :: r)) = some [] := by
  have e : localsRest (t :: r) = .ok ([], r) := by simp [localsRest, txt, h]
  simp [after, val, e]
theorem rest_names {st : St} (h : txt st.see ≠ [41]) : after localsRest st = expSt [41] (after (namesFrom (nameTxt st)) (nameSt st)) ∧ ∀ l, val localsRest st = some l → val (namesFrom (nameTxt st)) (nameSt st) = some l := by
  have e1 : after localsRest st = after (andThen nameP (fun nm => andThen (namesFrom nm) fun l => andThen (exp [41]) fun _ => give l)) st ∧ val localsRest st = val (andThen nameP (fun nm => andThen (namesFrom nm) fun l => andThen (exp [41]) fun _ => give l)) st := by
    cases st with
    | off r => exact ⟨rfl, rfl⟩
    | on r =>
      simp only [St.see] at h
      simp [after, val, localsRest, h]
  refine ⟨?_, fun l hl => ?_⟩
  · rw [e1.1, after_andThen _ _ (nameTxt st), after_andThen _ _ [], after_andThen _ _ (), after_give, after_exp, after_nameP]
    have : (val nameP st).getD (nameTxt st) = nameTxt st := by
      cases hv : val nameP st with
      | none => rfl
      | some a => exact (val_nameP hv).symm
    rw [this]
  · rw [e1.2] at hl
    obtain ⟨nm, h1, h2⟩ := val_andThen hl
    obtain ⟨l2, h3, h4⟩ := val_andThen h2
    obtain ⟨_, _, h5⟩ := val_andThen h4
    rw [val_nameP h1, ← after_nameP, ← val_give h5]
    exact h3
/-- What is known when the parser is in state st2 and n names, whose cells are xs, have been read; F: what is to be read in all, from state st1. -/
def LocSo (F : Pa (List Bs)) (st1 : St) (n : Nat) (xs : List Value) : St → Prop
  | .off q => after F st1 = .off q ∧ val F st1 = none
  | .on q => ∃ acc m, q.length ≤ m ∧ n = acc.length ∧ xs = strs acc ∧ after F st1 = after (namesL m acc) (.on q) ∧ val F st1 = val (namesL m acc) (.on q)
theorem loc_start (nm : Bs) (st1 : St) : LocSo (namesFrom nm) st1 1 [.string ⟨nm.toArray⟩] st1 := by
  cases st1 with
  | off q => exact ⟨rfl, rfl⟩
  | on q => exact ⟨[nm], q.length, Nat.le_refl _, rfl, rfl, rfl, rfl⟩
theorem loc_stop {F : Pa (List Bs)} {st1 st2 : St} {n : Nat} {xs : List Value} (h : LocSo F st1 n xs st2) (hn : txt st2.see ≠ [44]) : after F st1 = st2 ∧ ∀ l, val F st1 = some l → n = l.length ∧ xs = strs l := by
  cases st2 with
  | off q => exact ⟨h.1, fun l hl => by rw [h.2] at hl; cases hl⟩
  | on q =>
    obtain ⟨acc, m, hm, h1, h2, h3, h4⟩ := h
    simp only [St.see] at hn
    have e : namesL m acc q = .ok (acc, q) := by
      cases m with
      | zero => rfl
      | succ m => simp [namesL, hn]
    rw [h3, h4]
    refine ⟨by simp [after, e], fun l hl => ?_⟩
    simp only [val, e] at hl
    cases hl
    exact ⟨h1, h2⟩
theorem loc_step {F : Pa (List Bs)} {st1 : St} {n : Nat} {xs : List Value} {t : T} {r : List T} (h : LocSo F st1 n xs (.on (t :: r))) (ht : t.2.1 = [44]) : LocSo F st1 (n + 1) (xs ++ [.string ⟨(nameTxt (.on r)).toArray⟩]) (nameSt (.on r)) := by
  obtain ⟨acc, m, hm, h1, h2, h3, h4⟩ := h
  obtain ⟨j, rfl⟩ : ∃ j, m = j + 1 := ⟨m - 1, by simp only [List.length_cons] at hm; omega⟩
  simp only [List.length_cons] at hm
  by_cases hk : knd r = 1
  · have e : nameP r = .ok (txt r, r.tail) := by simp [nameP, hk]
    have e2 : namesL (j + 1) acc (t :: r) = namesL j (acc ++ [txt r]) r.tail := by simp [namesL, txt, ht, e]
    have e3 : nameSt (.on r) = .on r.tail := by simp [nameSt, hk]
    have e4 : nameTxt (.on r) = txt r := by simp [nameTxt, St.see, hk]
    have hl := tail_le r
    rw [e3, e4]
    refine ⟨acc ++ [txt r], j, by omega, by simp [h1], by simp [h2, strs], ?_, ?_⟩
    · rw [h3]; simp [after, e2]
    · rw [h4]; simp [val, e2]
  · have e : nameP r = .error r := by simp [nameP, hk]
    have e2 : namesL (j + 1) acc (t :: r) = .error r := by simp [namesL, txt, ht, e]
    have e3 : nameSt (.on r) = .off r := by simp [nameSt, hk]
    rw [e3]
    exact ⟨by rw [h3]; simp [after, e2], by rw [h4]; simp [val, e2]⟩
theorem nameSt_rem (st : St) : (nameSt st).rem.length ≤ st.rem.length := by
  cases st with
  | off r => exact Nat.le_refl _
  | on r =>
    have := tail_le r
    simp only [nameSt]
    split
    · simp [St.rem]
    · exact Nat.le_refl _
theorem Is.rem {w : World} {P : Nat} {all : List T} {st : St} (h : Is w P all st) : st.rem.length ≤ 5000 := by
  obtain ⟨v, k, h⟩ := h
  have h1 := h.sm
  have := congrArg List.length h.drop
  rw [List.length_drop] at this
  omega
/-- What 'locals' leaves. -/
def PostL (P : Nat) (all : List T) (st : St) (w : World) (e : Ending) (w' : World) : Prop :=
  ∃ a n cap xs, e = .returned (.slice a n cap) ∧ Went P all (after localsP st) w w' ∧ w'.ownsRow w.heap.size 9 1 (.slice a n cap) n xs ∧ ∀ l, val localsP st = some l → n = l.length ∧ xs = strs l
theorem Tryz.infoStr : (Tryz.prog.info? 9).map (fun i => (i.zero, i.size, i.bytes)) = some (some (.string ⟨#[]⟩), 1, 16) := by kernel_rfl
theorem own_slice {w : World} {B e size n : Nat} {v : Value} {xs : List Value} (h : w.ownsRow B e size v n xs) : ∃ a cap, v = .slice a n cap := by
  rcases h.2 with ⟨rfl, rfl⟩ | ⟨g, cap, cur, rfl, _⟩
  · exact ⟨none, 0, rfl⟩
  · exact ⟨_, cap, rfl⟩
theorem own_kept {P : Nat} {w w' : World} {B e size n : Nat} {v : Value} {xs : List Value} (h : w.ownsRow B e size v n xs) (k : Kept P w w') (hP : P < B) : w'.ownsRow B e size v n xs := by
  refine ⟨h.1, ?_⟩
  rcases h.2 with hn | ⟨g, cap, cur, rfl, hg, hgg, rest⟩
  · exact .inl hn
  · exact .inr ⟨g, cap, cur, rfl, hg, by rw [k.block g (Array.getElem?_eq_some_iff.1 hgg).1 (by omega)]; exact hgg, rest⟩
theorem Kept.grown {P : Nat} {a w w' : World} {row : Option Nat} (h : Kept P a w) (hg : w.grownBy w' row) (hr : ∀ k, row = some k → a.heap.size ≤ k) : Kept P a w' :=
  ⟨hg.os.trans h.os, hg.tape.trans h.tape, hg.output.trans h.output, Nat.le_trans h.size hg.size, fun k hk hp => (hg.block k (Nat.lt_of_lt_of_le hk h.size) (fun e => by have := hr k e.symm; omega)).trans (h.block k hk hp)⟩
/-- A new block is a row of its own. -/
theorem own_new (w : World) (B e size : Nat) (cs : Array Value) (n : Nat) (hB : B ≤ w.heap.size) (hn : cs.size = n * size) (hm : n ≤ maxLen) : (w.alloc (.cells cs e)).ownsRow B e size (.slice (some ⟨w.heap.size, 0, none⟩) n n) n cs.toList := by
  refine ⟨by simpa using hn, .inr ⟨w.heap.size, n, cs, rfl, hB, ?_, Nat.le_refl _, hm, hn, ?_⟩⟩
  · exact heap_alloc_new _ _
  · exact List.take_of_length_le (by simp; omega)
end Par

set_option maxHeartbeats 4000000 in
set_option maxRecDepth 100000 in
theorem locals_any (w : World) (P : Nat) (all : List Tok.T) (st : St) (h : Is w P all st) :
    Calls Tryz.prog 38 #[.pointer (some ⟨P, 0, none⟩)] w (PostL P all st w) := by
  have hP := h.lt
  have CE := Lib.hid (expect_any w P all st ⟨#[40]⟩ h (by decide))
  have HL := Lib.hid (locals_split st)
  obtain ⟨st1, hst1⟩ : ∃ st1, st1 = expSt [40] st := ⟨_, rfl⟩
  have CE2 : Hid (Calls Tryz.prog 37 #[.pointer (some ⟨P, 0, none⟩), .string ⟨#[40]⟩] w fun e w' => e = .returned (.tuple #[]) ∧ Went P all st1 w w') := by rw [hst1]; exact CE
  rw [← hst1] at HL
  clear CE h hst1
  obtain ⟨i0, hi, hz0, hz1, hz2⟩ := info_parts Tryz.infoStr
  by_cases ht : txt st1.see = [41]
  · obtain ⟨t, r, rfl, ht2⟩ := see_cons ht (by simp)
    have HR := Lib.hid (rest_end (r := r) ht2)
    have CS := Lib.hid (fun w h => skip_yes w P all t r ⟨#[41]⟩ h ht2)
    clear ht ht2
    go_enter Tryz.func38, Tryz.ntmps38
    go_wp2_with (first
      | (go_at_call 37; refine CE2.out.mono ?_; rintro e w1 ⟨rfl, hw1⟩)
      | (go_at_call 66; refine (CS.out _ hw1.2).mono ?_; rintro e w2 ⟨rfl, hw2⟩))
    go_ret
    refine ⟨none, 0, 0, [], rfl, ?_, ⟨rfl, .inl ⟨rfl, rfl⟩⟩, fun l hl => ?_⟩
    · rw [HL.out.1, HR.out.1]
      exact hw1.comp hw2
    · have := HL.out.2 l hl
      rw [HR.out.2] at this
      cases this
      exact ⟨rfl, rfl⟩
  · have HR := Lib.hid (rest_names ht)
    have CS := Lib.hid (fun w h => skip_no w P all st1 ⟨#[41]⟩ h ht)
    clear ht
    go_enter Tryz.func38, Tryz.ntmps38
    go_wp2_with (first
      | (go_at_call 37; refine CE2.out.mono ?_; rintro e w1 ⟨rfl, hw1⟩)
      | (go_at_call 66; refine (CS.out _ hw1.2).mono ?_; rintro e w2 ⟨rfl, hw2⟩)
      | (go_at_call 34; refine (name_any _ P all _ hw2.2).mono ?_; rintro e w3 ⟨rfl, hw3⟩))
    have hk3 := (hw1.comp hw2).comp hw3
    have hb3 := hk3.1.size
    go_loopw [3] (fun v wr => ∃ n xs st2, wr.ownsRow w.heap.size 9 1 v n xs ∧ Kept P w wr ∧ Is wr P all st2 ∧ LocSo (namesFrom (nameTxt st1)) (nameSt st1) n xs st2 ∧ n + st2.rem.length ≤ 5001) (fun _ wr => all.length - nxt wr P)
    case atStart =>
      refine ⟨1, [.string ⟨(nameTxt st1).toArray⟩], nameSt st1, own_new w3 w.heap.size 9 1 #[.string ⟨(nameTxt st1).toArray⟩] 1 hb3 rfl (by decide), hk3.1.alloc _, hk3.2.below ((Below.refl _ _).alloc (Nat.le_refl _) _), loc_start _ _, ?_⟩
      have := hk3.2.rem
      omega
    case round =>
      obtain ⟨n, xs, st2, hown, hkr, hir, hso, hn⟩ := hrel
      by_cases hc : txt st2.see = [44]
      · obtain ⟨t, r, rfl, ht2⟩ := see_cons hc (by simp)
        have C1 := Lib.hid (skip_yes wr P all t r ⟨#[44]⟩ hir ht2)
        have HSO := Lib.hid (loc_step hso ht2)
        have HNX := Lib.hid hir.nxt
        obtain ⟨a, cap, rfl⟩ := own_slice hown
        have hw0 := hkr.size
        clear hc ht2 hso
        go_wp2_with (first
          | (go_at_call 66; refine C1.out.mono ?_; rintro e w4 ⟨rfl, hw4⟩)
          | (go_at_call 34; refine (name_any _ P all _ hw4.2).mono ?_; rintro e w5 ⟨rfl, hw5⟩; have hk5 := hw4.comp hw5; have hs5 := hk5.1.size; have hown5 := own_kept hown hk5.1 hP)
          | (at_builtin; refine wpList_append_own _ rfl (.tmp 13) (.tmp 16) 32 rfl w.heap.size 9 i0 (.string ⟨#[]⟩) 1 16 Tryz.underlying32 hi hz0 hz1 hz2 rfl (by decide) _ _ _ rfl (hown5.alloc _) ⟨w5.heap.size, 0, none⟩ 1 1 [.string ⟨(nameTxt (.on r)).toArray⟩] rfl rfl (cell_one_new _ _ _) (by intro u hu; simp at hu; subst hu; rfl) (by unfold maxLen; omega) (by omega) (by simp; omega) ?_; intro v6 w6 hown6 hgrow6 hnil6))
        have hrow : ∀ k, (Value.slice a n cap).ownBlock = some k → w.heap.size ≤ k := Tok.own_block_ge hown
        have hk6 := Kept.grown ((hkr.trans hk5.1).alloc (.cells #[.string ⟨(nameTxt (.on r)).toArray⟩] 9)) hgrow6 hrow
        have hi6 : Is w6 P all (nameSt (.on r)) := (hk5.2.below ((Below.refl _ _).alloc (Nat.le_refl _) (.cells #[.string ⟨(nameTxt (.on r)).toArray⟩] 9))).past ((Below.refl _ _).grown hgrow6 (by simp; omega) (fun k hk => by have := hrow k hk; omega))
        go_roundw
        case rel => exact ⟨n + 1, xs ++ [.string ⟨(nameTxt (.on r)).toArray⟩], nameSt (.on r), hown6, hk6, hi6, HSO.out, by have := nameSt_rem (.on r); simp only [St.rem, List.length_cons] at hn this ⊢; omega⟩
        case measure => rw [hi6.nxt, HNX.out]; have := nameSt_rem (.on r); simp only [St.rem, List.length_cons] at this ⊢; omega
      · have C1 := Lib.hid (skip_no wr P all st2 ⟨#[44]⟩ hir hc)
        obtain ⟨hfin, hval⟩ := loc_stop hso hc
        obtain ⟨a, cap, rfl⟩ := own_slice hown
        have HF := Lib.hid hfin
        clear hc hso hfin
        go_wp2_with (first
          | (go_at_call 66; refine C1.out.mono ?_; rintro e w4 ⟨rfl, hw4⟩)
          | (go_at_call 37; refine (expect_any _ P all st2 ⟨#[41]⟩ hw4.2 (by decide)).mono ?_; rintro e w5 ⟨rfl, hw5⟩))
        go_ret
        refine ⟨_, _, _, _, rfl, ⟨hkr.trans (hw4.1.trans hw5.1), ?_⟩, own_kept hown (hw4.1.trans hw5.1) hP, fun l hl => ?_⟩
        · rw [HL.out.1, HR.out.1, HF.out]
          exact hw5.2
        · exact hval l (HR.out.2 l (HL.out.2 l hl))
end Go.Proofs.YtncflfadgcaldaaGreatDoor
