/-
  The reference's parser: how its state lies in memory; contracts of its small methods (fail, is, kind, want, name, number, line).
  Contracts of the reference's is, kind, want, name, number, line.
  Contracts of the reference's number, line and binary.
  The contract of the reference's expr at a level of operators that associate to the left, over the next level's.
  Contracts of the reference's expr at comparisons and above the operators, of unary and primary; and, by induction on the tokens that are left, of expr at every level.
  Contracts of the reference's unary and primary, and of expr at every level; the contract of the reference's Expr.
-/
import Derived.Test.YthgicmdaenkjbaaGreatDoorParL
import Derived.Test.YthgicmdaenkjbaaGreatDoorRefB
namespace Go.Proofs.YthgicmdaenkjbaaGreatDoor
open Go.RowKit
open Par

namespace Par
open Tok (T Bs)
theorem go_lines : ∀ (f : Nat) (l : Bs) (ln : Nat) (acc : List T), 1 ≤ ln → (∀ t ∈ acc, 1 ≤ t.2.2) → ∀ t ∈ (Tok.go f l ln acc).1, 1 ≤ t.2.2
  | 0, l, ln, acc, _, ha => by simpa [Tok.go] using ha
  | f + 1, l, ln, acc, hl, ha => by
    simp only [Tok.go]
    split
    · exact ha
    · split
      · exact go_lines f _ _ _ (by omega) ha
      · split
        · rename_i h
          refine go_lines f _ _ _ hl ?_
          intro t ht
          rcases List.mem_append.1 ht with ht | ht
          · exact ha t ht
          · obtain rfl := List.mem_singleton.1 ht
            exact hl
        · intro t ht
          cases ht
theorem scan_lines (l : Bs) : ∀ t ∈ (Tok.scan l).1, 1 ≤ t.2.2 := by
  unfold Tok.scan
  split
  · intro t ht; cases ht
  · exact go_lines _ _ _ _ (Nat.le_refl _) (fun t ht => by cases ht)
/-- The line that the reference's parser remembers; 0 while it reads. -/
def badOf (all : List T) : St → Nat
  | .on _ => 0
  | .off q => lineAt all q
/-- The reference's parser lies in block P. -/
structure RAt (w : World) (P : Nat) (all : List T) (st : St) (v : Value) (k : Nat) : Prop where
  toks : Toks w P v all
  le : k ≤ all.length
  drop : all.drop k = st.rem
  c0 : w.cell? ⟨P, 0, none⟩ = some v
  c1 : w.cell? ⟨P, 1, none⟩ = some (.int .i64 k)
  c2 : w.cell? ⟨P, 2, none⟩ = some (.int .i64 (badOf all st))
  f1 : w.frozen? ⟨P, 1, none⟩ = false
  f2 : w.frozen? ⟨P, 2, none⟩ = false
  lt : P < w.heap.size
  sm : all.length ≤ 5000
  wf : ∀ t ∈ all, WF t
  ln : ∀ t ∈ all, 1 ≤ t.2.2
def RIs (w : World) (P : Nat) (all : List T) (st : St) : Prop := ∃ v k, RAt w P all st v k
theorem RAt.past {w w' : World} {P : Nat} {all : List T} {st : St} {v : Value} {k : Nat} (h : RAt w P all st v k) (b : Below (P + 1) w w') : RAt w' P all st v k :=
  have hP : P < P + 1 := Nat.lt_succ_self P
  ⟨h.toks.below (b.mono (Nat.le_succ P)), h.le, h.drop, (b.cell (p := ⟨P, 0, none⟩) hP).trans h.c0, (b.cell (p := ⟨P, 1, none⟩) hP).trans h.c1, (b.cell (p := ⟨P, 2, none⟩) hP).trans h.c2,
    (b.frozen (p := ⟨P, 1, none⟩) hP).trans h.f1, (b.frozen (p := ⟨P, 2, none⟩) hP).trans h.f2, Nat.lt_of_lt_of_le h.lt b.size, h.sm, h.wf, h.ln⟩
theorem RAt.below {w w' : World} {P : Nat} {all : List T} {st : St} {v : Value} {k : Nat} (h : RAt w P all st v k) (b : Below w.heap.size w w') : RAt w' P all st v k := h.past (b.mono h.lt)
theorem RIs.past {w w' : World} {P : Nat} {all : List T} {st : St} (h : RIs w P all st) (b : Below (P + 1) w w') : RIs w' P all st := by
  obtain ⟨v, k, h⟩ := h
  exact ⟨v, k, h.past b⟩
theorem RIs.below {w w' : World} {P : Nat} {all : List T} {st : St} (h : RIs w P all st) (b : Below w.heap.size w w') : RIs w' P all st := by
  obtain ⟨v, k, h⟩ := h
  exact ⟨v, k, h.below b⟩
theorem RIs.lt {w : World} {P : Nat} {all : List T} {st : St} (h : RIs w P all st) : P < w.heap.size := by
  obtain ⟨v, k, h⟩ := h
  exact h.lt
theorem RIs.alloc {w : World} {P : Nat} {all : List T} {st : St} (h : RIs w P all st) (o : Obj) : RIs (w.alloc o) P all st := h.below ((Below.refl _ _).alloc (Nat.le_refl _) o)
theorem RIs.drew {w : World} {P : Nat} {all : List T} {st : St} (h : RIs w P all st) : RIs w.drew P all st := h.below (Below.refl _ _).drew
/-- One token further. -/
theorem RAt.step {w w' : World} {P : Nat} {all : List T} {t : T} {r : List T} {v : Value} {k : Nat} (h : RAt w P all (.on (t :: r)) v k) (hk : Kept P w w')
    (c0 : w'.cell? ⟨P, 0, none⟩ = some v) (c1 : w'.cell? ⟨P, 1, none⟩ = some (.int .i64 ((k : Int) + 1))) (c2 : w'.cell? ⟨P, 2, none⟩ = some (.int .i64 0))
    (f1 : w'.frozen? ⟨P, 1, none⟩ = false) (f2 : w'.frozen? ⟨P, 2, none⟩ = false) : RAt w' P all (.on r) v (k + 1) := by
  have hd := h.drop
  have hlen := congrArg List.length hd
  simp only [St.rem, List.length_drop, List.length_cons] at hlen
  refine ⟨h.toks.below (hk.lower (Nat.le_of_lt h.lt)), by omega, ?_, c0, ?_, c2, f1, f2, Nat.lt_of_lt_of_le h.lt hk.size, h.sm, h.wf, h.ln⟩
  · rw [← List.tail_drop, hd]; rfl
  · rw [c1]; norm_cast
/-- The parser has failed. -/
theorem RAt.fail {w w' : World} {P : Nat} {all : List T} {q : List T} {v : Value} {k : Nat} (h : RAt w P all (.on q) v k) (hk : Kept P w w')
    (c0 : w'.cell? ⟨P, 0, none⟩ = some v) (c1 : w'.cell? ⟨P, 1, none⟩ = some (.int .i64 k)) (c2 : w'.cell? ⟨P, 2, none⟩ = some (.int .i64 (lineAt all q)))
    (f1 : w'.frozen? ⟨P, 1, none⟩ = false) (f2 : w'.frozen? ⟨P, 2, none⟩ = false) : RAt w' P all (.off q) v k :=
  ⟨h.toks.below (hk.lower (Nat.le_of_lt h.lt)), h.le, h.drop, c0, c1, c2, f1, f2, Nat.lt_of_lt_of_le h.lt hk.size, h.sm, h.wf, h.ln⟩
theorem lineAt_pos {all q : List T} (h : ∀ t ∈ all, 1 ≤ t.2.2) (hq : ∀ t ∈ q, t ∈ all) : 1 ≤ lineAt all q := by
  cases q with
  | cons t r => exact h t (hq t (List.mem_cons_self ..))
  | nil =>
    simp only [lineAt]
    split
    · rename_i t ht
      exact h t (List.mem_of_getLast? ht)
    · exact Nat.le_refl _
theorem RAt.pos {w : World} {P : Nat} {all : List T} {q : List T} {v : Value} {k : Nat} (h : RAt w P all (.off q) v k) : 1 ≤ lineAt all q :=
  lineAt_pos h.ln (fun t ht => by have := h.drop; simp only [St.rem] at this; rw [← this] at ht; exact List.mem_of_mem_drop ht)
def RWent (P : Nat) (all : List T) (st : St) (w w' : World) : Prop := Kept P w w' ∧ RIs w' P all st
theorem RWent.from {P : Nat} {all : List T} {st : St} {w w1 w2 : World} (hb : Below w.heap.size w w1) (h : RWent P all st w1 w2) : RWent P all st w w2 := ⟨(Kept.of_below hb).trans h.1, h.2⟩
theorem RWent.stay {P : Nat} {all : List T} {st : St} {w w1 : World} (h : RIs w P all st) (hb : Below w.heap.size w w1) : RWent P all st w w1 := ⟨.of_below hb, h.below hb⟩
theorem RWent.comp {P : Nat} {all : List T} {st st2 : St} {w w1 w2 : World} (h : RWent P all st w w1) (k : RWent P all st2 w1 w2) : RWent P all st2 w w2 := ⟨h.1.trans k.1, k.2⟩
theorem Kept.drew {P : Nat} {a w : World} (h : Kept P a w) : Kept P a w.drew := h.trans (Kept.of_below (Below.refl _ _).drew)
theorem str_eq {x s : ByteArray} (h : x.data.toList = s.data.toList) : (x.toList == s.toList) = true := by
  rw [Lib.toList_data, Lib.toList_data]
  simpa using h
end Par

set_option maxHeartbeats 1000000 in
set_option maxRecDepth 100000 in
theorem rfail_any (w : World) (P : Nat) (all : List Tok.T) (st : St) (h : RIs w P all st) :
    Calls Tryz.prog 59 #[.pointer (some ⟨P, 0, none⟩)] w fun e w' => e = .returned (.tuple #[]) ∧ RWent P all (.off st.rem) w w' := by
  obtain ⟨v, k, h⟩ := h
  have H := Lib.hid h
  have hP := h.lt
  have c0 := h.c0
  have c1 := h.c1
  have c2 := h.c2
  have f1 := h.f1
  have f2 := h.f2
  have hk := h.le
  have hl := h.sm
  have hd := Lib.hid h.drop
  have ht := Lib.hid h.toks
  cases st with
  | off q =>
    have hp := h.pos
    clear h
    simp only [badOf] at c2
    obtain ⟨b, hb⟩ : ∃ b, b = lineAt all q := ⟨_, rfl⟩
    rw [← hb] at c2 hp
    have hb1 : (0 : Int) < b := by omega
    clear hb
    go_enter Tryz.func59, Tryz.ntmps59
    go_wp2_with fail
    refine bodyPost_ret (results_none rfl _ _ _) rfl ?_
    exact ⟨rfl, Kept.refl _ _, v, k, H.out⟩
  | on q =>
    simp only [badOf] at c2
    by_cases hk2 : k < all.length
    · obtain ⟨g, cap, rfl, hgp, hg, t0, t1, t2⟩ := ht.out.at_ k hk2
      have hL := Lib.hid (show lineAt all q = all[k].2.2 by
        have := hd.out
        rw [List.drop_eq_getElem_cons hk2] at this
        simp only [St.rem] at this
        rw [← this]
        rfl)
      clear h
      go_enter Tryz.func59, Tryz.ntmps59
      go_wp2_with fail
      go_quiet (fail)
      go_wp2_with fail
      go_region
      all_goals
        go_wp2_with fail
        go_end0
        refine ⟨rfl, and_use ?_ fun HK => ⟨_, k, H.out.fail HK ?_ ?_ (by rw [hL.out]; simp [go_sem, c2]) ?_ ?_⟩⟩
        · repeat (first | exact Kept.refl _ _ | apply Kept.setOwn | apply Kept.drew | apply Kept.drewN)
        all_goals simp [go_sem, c0, c1, f1, f2]
    · have hke : k = all.length := by omega
      have hq0 : q = [] := by
        have := hd.out
        rw [List.drop_eq_nil_of_le (by omega)] at this
        exact this.symm
      by_cases h0 : all.length = 0
      · obtain ⟨ad, cap, rfl, _⟩ := ht.out
        have hL := Lib.hid (show lineAt all q = 1 by
          have e1 : all = [] := List.eq_nil_of_length_eq_zero h0
          subst e1
          rw [hq0]
          rfl)
        rw [h0] at c0
        have hk0 : k = 0 := by omega
        subst hk0
        have hc1 : w.cell? ⟨P, 1, none⟩ = some (.int .i64 ((0 : Nat) : Int)) := c1
        clear h hke hk2 hk hl
        go_enter Tryz.func59, Tryz.ntmps59
        go_wp2_with fail
        go_quiet (fail)
        go_wp2_with fail
        go_end0
        refine ⟨rfl, and_use ?_ fun HK => ⟨_, 0, H.out.fail HK ?_ ?_ (by rw [hL.out]; simp [go_sem, c2]) ?_ ?_⟩⟩
        · repeat (first | exact Kept.refl _ _ | apply Kept.setOwn | apply Kept.drew | apply Kept.drewN)
        · rw [h0]; simp [go_sem, c0]
        all_goals simp [go_sem, c1, f1, f2]
      · obtain ⟨j, hj⟩ : ∃ j, j = all.length - 1 := ⟨_, rfl⟩
        have hjl : j < all.length := by omega
        obtain ⟨g, cap, rfl, hgp, hg, t0, t1, t2⟩ := ht.out.at_ j hjl
        have hL := Lib.hid (show lineAt all q = all[j].2.2 by
          rw [hq0]
          simp only [lineAt]
          subst hj
          rw [List.getLast?_eq_getElem?, List.getElem?_eq_getElem hjl])
        have hm : ((all.length : Int) - 1).toNat = j := by omega
        have t3 : w.cell? ⟨g, (all.length - 1) * 3 + 2, none⟩ = some (.int .i64 all[j].2.2) := by rw [← hj]; exact t2
        have hpos : (0 : Int) < all.length := by omega
        have hge : ¬ ((k : Int) < all.length) := by omega
        clear h t0 t1 t2 hm
        go_enter Tryz.func59, Tryz.ntmps59
        go_wp2_with fail
        go_quiet (fail)
        go_wp2_with fail
        go_region
        all_goals
          go_wp2_with fail
          go_end0
          refine ⟨rfl, and_use ?_ fun HK => ⟨_, k, H.out.fail HK ?_ ?_ (by rw [hL.out]; simp [go_sem, c2, hj]) ?_ ?_⟩⟩
          · repeat (first | exact Kept.refl _ _ | apply Kept.setOwn | apply Kept.drew | apply Kept.drewN)
          all_goals simp [go_sem, c0, c1, f1, f2]
end Go.Proofs.YthgicmdaenkjbaaGreatDoor

namespace Go.Proofs.YthgicmdaenkjbaaGreatDoor
open Go.RowKit
open Par
section
open Tok
set_option maxHeartbeats 1000000 in
theorem number_ref2 (s : ByteArray) (w : World) (h0 : 0 < s.size) (hs : s.size ≤ 65536) (hd : ∀ c ∈ s.data.toList, isDigit c = true) :
    Calls Tryz.prog 88 #[.string s] w fun e w' => (∃ v : Int, e = .returned (.tuple #[.int .i64 v, .bool (decide (dec 0 s.data.toList < lim))]) ∧ (dec 0 s.data.toList < lim → v = dec 0 s.data.toList)) ∧ w = w' := by
  have HD := Lib.hid hd
  clear hd
  go_enter Tryz.func88, Tryz.ntmps88
  go_wp2_with fail
  go_loop [4, 5] (fun nv iv => NumTo s.data.toList s.size nv iv) (fun _ iv => s.size - (intOf iv).toNat)
  case atStart => exact ⟨0, 0, by omega, rfl, rfl, by omega, rfl⟩
  case round =>
    obtain ⟨k, v, hk, rfl, rfl, hv, hvd⟩ := hrel
    have HV := Lib.hid hvd
    clear hvd
    by_cases hlt : k < s.size
    · have hkl : k < s.data.toList.length := by rw [size_list]; exact hlt
      have hdig : isDigit s[k] = true := HD.out _ (List.getElem_mem hkl)
      have hbd : 48 ≤ s[k].toNat ∧ s[k].toNat ≤ 57 := by simpa [isDigit] using hdig
      have hsn := dec_snoc s.data.toList k hkl
      have hmono := dec_take_le s.data.toList (k + 1)
      have hget : s.data.toList[k] = s[k] := rfl
      rw [hget, ← HV.out] at hsn
      have HSN := Lib.hid hsn
      have HMO := Lib.hid hmono
      clear hsn hmono hget
      obtain ⟨d, hdd⟩ : ∃ d : Nat, s[k].toNat = d + 48 := ⟨s[k].toNat - 48, by omega⟩
      have hd9 : d ≤ 9 := by omega
      rw [hdd] at HSN
      have hDI : isDigI ((d : Int) + 48) = true := by rw [← isDigI_cast, hdd] at hdig; simpa using hdig
      have hsub : d + 48 - 48 = d := by omega
      rw [hsub] at HSN
      clear hsub
      go_wp2_with (first | (go_at_call 87; refine (refDigit_any _ _).mono ?_; rintro e w' ⟨rfl, rfl⟩))
      · have HE := Lib.hid (show ¬ dec 0 s.data.toList < lim by
          have h1 := HSN.out
          have h2 := HMO.out
          unfold lim
          omega)
        go_ret2
        exact ⟨⟨0, ret_two rfl (by rw [decide_eq_false HE.out]), fun h => absurd h HE.out⟩, rfl⟩
      · go_round
        case rel => exact ⟨k + 1, v * 10 + d, by omega, by go_num, by go_num, by omega, HSN.out.symm⟩
        case measure => simp [intOf]; omega
    · have HE := Lib.hid (show dec 0 s.data.toList < lim by
        have := HV.out
        rw [List.take_of_length_le (by rw [size_list]; omega)] at this
        unfold lim
        omega)
      go_wp2_with fail
      go_ret2
      exact ⟨⟨v, ret_two rfl (by rw [decide_eq_true HE.out]), fun _ => by rw [HV.out, List.take_of_length_le (by rw [size_list]; omega)]⟩, rfl⟩

end

namespace Par
open Tok (T Bs)
theorem RIs.split {w : World} {P : Nat} {all : List T} {t : T} {r : List T} (h : RIs w P all (.on (t :: r))) :
    ∃ g cap k, w.cell? ⟨P, 0, none⟩ = some (.slice (some ⟨g, 0, none⟩) all.length cap) ∧ w.cell? ⟨P, 1, none⟩ = some (.int .i64 (k : Nat)) ∧ w.cell? ⟨P, 2, none⟩ = some (.int .i64 0) ∧ k < all.length ∧ all.length ≤ 5000 ∧
      w.cell? ⟨g, k * 3, none⟩ = some (.int .i64 t.1) ∧ w.cell? ⟨g, k * 3 + 1, none⟩ = some (.string ⟨t.2.1.toArray⟩) ∧ w.cell? ⟨g, k * 3 + 2, none⟩ = some (.int .i64 t.2.2) ∧ WF t ∧ g ≠ P := by
  obtain ⟨v, k, h⟩ := h
  have hd := h.drop
  simp only [St.rem] at hd
  have hk : k < all.length := by
    rcases Nat.lt_or_ge k all.length with h1 | h1
    · exact h1
    · rw [List.drop_eq_nil_of_le h1] at hd; cases hd
  obtain ⟨g, cap, hv, hgp, hg, t0, t1, t2⟩ := h.toks.at_ k hk
  rw [List.drop_eq_getElem_cons hk] at hd
  have e : all[k] = t := (List.cons.inj hd).1
  rw [e] at t0 t1 t2
  refine ⟨g, cap, k, by rw [h.c0, hv], h.c1, h.c2, hk, h.sm, t0, t1, t2, ?_, by omega⟩
  rw [← e]
  exact h.wf _ (List.getElem_mem hk)
theorem RIs.none {w : World} {P : Nat} {all : List T} (h : RIs w P all (.on [])) :
    ∃ a cap, w.cell? ⟨P, 0, Option.none⟩ = some (.slice a all.length cap) ∧ w.cell? ⟨P, 1, Option.none⟩ = some (.int .i64 all.length) ∧ w.cell? ⟨P, 2, Option.none⟩ = some (.int .i64 0) ∧ all.length ≤ 5000 := by
  obtain ⟨v, k, h⟩ := h
  have hd := h.drop
  have hl := h.le
  simp only [St.rem, List.drop_eq_nil_iff] at hd
  have : k = all.length := by omega
  obtain ⟨a, cap, hv, _⟩ := h.toks
  exact ⟨a, cap, by rw [h.c0, hv], by rw [h.c1, this], h.c2, h.sm⟩
theorem RIs.bad {w : World} {P : Nat} {all : List T} {q : List T} (h : RIs w P all (.off q)) :
    ∃ a cap k b, w.cell? ⟨P, 0, Option.none⟩ = some (.slice a all.length cap) ∧ w.cell? ⟨P, 1, Option.none⟩ = some (.int .i64 (k : Nat)) ∧ w.cell? ⟨P, 2, Option.none⟩ = some (.int .i64 (b : Nat)) ∧ 1 ≤ b ∧ b = lineAt all q := by
  obtain ⟨v, k, h⟩ := h
  obtain ⟨a, cap, hv, _⟩ := h.toks
  exact ⟨a, cap, k, lineAt all q, by rw [h.c0, hv], h.c1, h.c2, h.pos, rfl⟩
end Par

set_option maxHeartbeats 1000000 in
set_option maxRecDepth 100000 in
theorem ris_yes (w : World) (P : Nat) (all : List Tok.T) (t : Tok.T) (r : List Tok.T) (s : ByteArray) (h : RIs w P all (.on (t :: r))) (hs : s.data.toList ∈ Tok.keywords ∨ s.data.toList ∈ Tok.signs) (ht : t.2.1 = s.data.toList) :
    Calls Tryz.prog 90 #[.pointer (some ⟨P, 0, none⟩), .string s] w fun e w' => e = .returned (.bool true) ∧ Below w.heap.size w w' := by
  obtain ⟨g, cap, k, c0, c1, c2, hk, hl, t0, t1, t2, hwf, hg⟩ := h.split
  have hw := hwf.word (by rw [ht]; exact hs)
  have e1 : (⟨t.2.1.toArray⟩ : ByteArray) = s := by rw [ht, Lib.mk_data]
  rw [e1] at t1
  clear hwf h ht hs e1
  rcases hw with hw | hw
  all_goals
    rw [hw] at t0
    go_enter Tryz.func90, Tryz.ntmps90
    go_wp2_with fail
    go_quiet (fail)
    go_wp2_with fail
    go_ret
    exact ⟨rfl, below_drewN (Below.refl _ _) _⟩

set_option maxHeartbeats 1000000 in
set_option maxRecDepth 100000 in
theorem ris_no (w : World) (P : Nat) (all : List Tok.T) (st : St) (s : ByteArray) (h : RIs w P all st) (ht : txt st.see ≠ s.data.toList) :
    Calls Tryz.prog 90 #[.pointer (some ⟨P, 0, none⟩), .string s] w fun e w' => e = .returned (.bool false) ∧ Below w.heap.size w w' := by
  match st, h, ht with
  | .off q, h, ht =>
    obtain ⟨a, cap, k, b, c0, c1, c2, hb, hbe⟩ := h.bad
    have hb0 : ((b : Int) == 0) = false := by simp; omega
    clear h hbe ht
    go_enter Tryz.func90, Tryz.ntmps90
    go_wp2_with fail
    go_quiet (fail)
    go_wp2_with fail
    go_ret
    exact ⟨rfl, below_drewN (Below.refl _ _) _⟩
  | .on [], h, ht =>
    obtain ⟨a, cap, c0, c1, c2, hl⟩ := h.none
    obtain ⟨n, hn⟩ : ∃ n, n = all.length := ⟨_, rfl⟩
    rw [← hn] at c0 c1
    clear h hn hl ht
    go_enter Tryz.func90, Tryz.ntmps90
    go_wp2_with fail
    go_quiet (fail)
    go_wp2_with fail
    go_ret
    exact ⟨rfl, below_drewN (Below.refl _ _) _⟩
  | .on (t :: r), h, ht =>
    obtain ⟨g, cap, k, c0, c1, c2, hk, hl, t0, t1, t2, hwf, hg⟩ := h.split
    obtain ⟨x, hx⟩ : ∃ x : ByteArray, t.2.1 = x.data.toList := ⟨⟨t.2.1.toArray⟩, rfl⟩
    have e1 : (⟨t.2.1.toArray⟩ : ByteArray) = x := by rw [hx, Lib.mk_data]
    rw [e1] at t1
    have ht2 : x.data.toList ≠ s.data.toList := by rw [← hx]; exact ht
    obtain ⟨n1, n2⟩ := str_ne ht2
    clear h hwf ht hx e1 ht2
    go_enter Tryz.func90, Tryz.ntmps90
    go_wp2_with fail
    go_quiet (fail)
    go_wp2_with fail
    go_ret
    exact ⟨rfl, below_drewN (Below.refl _ _) _⟩

set_option maxHeartbeats 1000000 in
set_option maxRecDepth 100000 in
theorem rkind_any (w : World) (P : Nat) (all : List Tok.T) (st : St) (h : RIs w P all st) (j : Int) (b : Bool) (hj : j ≠ 0) (hb : decide ((knd st.see : Int) = j) = b) :
    Calls Tryz.prog 93 #[.pointer (some ⟨P, 0, none⟩), .int .i64 j] w fun e w' => e = .returned (.bool b) ∧ Below w.heap.size w w' := by
  match st, h, hb with
  | .off q, h, hb =>
    have e0 : b = false := by rw [← hb]; exact decide_eq_false (fun h => by have h2 : ((0 : Nat) : Int) = j := h; omega)
    subst e0
    obtain ⟨a, cap, k, b, c0, c1, c2, hb, hbe⟩ := h.bad
    have hb0 : ((b : Int) == 0) = false := by simp; omega
    clear h hbe
    go_enter Tryz.func93, Tryz.ntmps93
    go_wp2_with fail
    go_quiet (fail)
    go_wp2_with fail
    go_ret
    exact ⟨rfl, below_drewN (Below.refl _ _) _⟩
  | .on [], h, hb =>
    have e0 : b = false := by rw [← hb]; exact decide_eq_false (fun h => by have h2 : ((0 : Nat) : Int) = j := h; omega)
    subst e0
    obtain ⟨a, cap, c0, c1, c2, hl⟩ := h.none
    obtain ⟨n, hn⟩ : ∃ n, n = all.length := ⟨_, rfl⟩
    rw [← hn] at c0 c1
    clear h hn hl hb
    go_enter Tryz.func93, Tryz.ntmps93
    go_wp2_with fail
    go_quiet (fail)
    go_wp2_with fail
    go_ret
    exact ⟨rfl, below_drewN (Below.refl _ _) _⟩
  | .on (t :: r), h, hb =>
    obtain ⟨g, cap, k, c0, c1, c2, hk, hl, t0, t1, t2, hwf, hg⟩ := h.split
    obtain ⟨kk, hkk⟩ : ∃ kk : Int, kk = (t.1 : Int) := ⟨_, rfl⟩
    rw [← hkk] at t0
    have hbb : (kk == j) = b := by rw [← hb, hkk, Bool.eq_iff_iff, beq_iff_eq, decide_eq_true_iff]; exact Iff.rfl
    clear h hwf hb hkk
    go_enter Tryz.func93, Tryz.ntmps93
    go_wp2_with fail
    go_quiet (fail)
    go_wp2_with fail
    go_ret
    exact ⟨rfl, below_drewN (Below.refl _ _) _⟩

set_option maxHeartbeats 1000000 in
set_option maxRecDepth 100000 in
theorem rwant_any (w : World) (P : Nat) (all : List Tok.T) (st : St) (s : ByteArray) (h : RIs w P all st) (hs : s.data.toList ∈ Tok.keywords ∨ s.data.toList ∈ Tok.signs) (hs0 : s.data.toList ≠ []) :
    Calls Tryz.prog 95 #[.pointer (some ⟨P, 0, none⟩), .string s] w fun e w' => e = .returned (.tuple #[]) ∧ RWent P all (expSt s.data.toList st) w w' := by
  by_cases ht : txt st.see = s.data.toList
  · obtain ⟨t, r, rfl, ht2⟩ := see_cons ht hs0
    have hE := Lib.hid (show expSt s.data.toList (.on (t :: r)) = .on r by simp [expSt, txt, ht2])
    have C := Lib.hid (ris_yes w P all t r s h hs ht2)
    obtain ⟨v, k, ha⟩ := h
    have H := Lib.hid ha
    clear ht ht2 hs hs0 ha
    go_enter Tryz.func95, Tryz.ntmps95
    go_wp2_with (go_at_call 90; refine C.out.mono ?_; rintro e w1 ⟨rfl, hb⟩; have h1 := H.out.below hb; have c0 := h1.c0; have c1 := h1.c1; have c2 := h1.c2; have f1 := h1.f1; have f2 := h1.f2; have hk5 := h1.le; have hl5 := h1.sm)
    go_end0
    rw [hE.out]
    simp only [badOf] at c2
    have HK := (Kept.of_below (P := P) hb).setOwn 1 (.int .i64 ((k : Int) + 1))
    refine ⟨rfl, HK, v, k + 1, H.out.step HK ?_ ?_ ?_ ?_ ?_⟩
    all_goals simp [go_sem, *]
  · have hE := Lib.hid (show expSt s.data.toList st = .off st.rem by
      cases st with
      | off r => rfl
      | on r => exact if_neg ht)
    have C := Lib.hid (ris_no w P all st s h ht)
    have H := Lib.hid h
    clear ht h hs
    go_enter Tryz.func95, Tryz.ntmps95
    go_wp2_with (first
      | (go_at_call 90; refine C.out.mono ?_; rintro e w1 ⟨rfl, hb⟩)
      | (go_at_call 59; refine (rfail_any _ P all st (H.out.below hb)).mono ?_; rintro e w2 ⟨rfl, hw2⟩))
    refine bodyPost_ret (results_none rfl _ _ _) rfl ?_
    rw [hE.out]
    exact ⟨rfl, hw2.from hb⟩

set_option maxHeartbeats 1000000 in
set_option maxRecDepth 100000 in
theorem rname_any (w : World) (P : Nat) (all : List Tok.T) (st : St) (h : RIs w P all st) :
    Calls Tryz.prog 92 #[.pointer (some ⟨P, 0, none⟩)] w fun e w' => e = .returned (.string ⟨(nameTxt st).toArray⟩) ∧ RWent P all (nameSt st) w w' := by
  by_cases hk : knd st.see = 1
  · obtain ⟨t, r, rfl⟩ : ∃ t r, st = .on (t :: r) := by
      match st, hk with
      | .off r, hk => simp [St.see, knd] at hk
      | .on [], hk => simp [St.see, knd] at hk
      | .on (t :: r), _ => exact ⟨t, r, rfl⟩
    have hE := Lib.hid (show nameSt (.on (t :: r)) = .on r by simp only [St.see] at hk; simp [nameSt, hk])
    have hV := Lib.hid (show nameTxt (.on (t :: r)) = t.2.1 by unfold nameTxt; rw [if_pos hk]; rfl)
    have C := Lib.hid (rkind_any w P all _ h 1 true (by decide) (by rw [hk]; rfl))
    obtain ⟨v, k, ha⟩ := h
    have hsp := Lib.hid (show RIs w P all (.on (t :: r)) from ⟨v, k, ha⟩)
    have H := Lib.hid ha
    have hP := ha.lt
    clear hk ha
    go_enter Tryz.func92, Tryz.ntmps92
    go_wp2_with (go_at_call 93; refine C.out.mono ?_; rintro e w1 ⟨rfl, hb⟩; obtain ⟨g, cap, k2, c0, c1, c2, hk2, hl, t0, t1, t2, _, hg⟩ := (hsp.out.below hb).split; have h1 := H.out.below hb; have f1 := h1.f1; have f2 := h1.f2; obtain rfl : k = k2 := (by have := h1.c1; rw [c1] at this; have h3 : (k2 : Int) = k := (by simpa using this); omega); obtain rfl := Option.some.inj (h1.c0.symm.trans c0); clear h1)
    have hgn : (⟨g, k * 3 + 1, none⟩ : Addr).block ≠ P := hg
    have t1' : (w1.setCell ⟨P, 1, none⟩ (.int .i64 ((k : Int) + 1))).cell? ⟨g, k * 3 + 1, none⟩ = some (.string ⟨t.2.1.toArray⟩) := (World.cell?_of_block (Below.heap_setCell _ _ _ _ hg)).trans t1
    go_quiet (fail)
    go_wp2_with fail
    go_ret
    rw [hE.out, hV.out]
    refine ⟨rfl, and_use ?_ fun HK => ⟨_, k + 1, H.out.step HK ?_ ?_ ?_ ?_ ?_⟩⟩
    · exact ((Kept.of_below hb).setOwn 1 _).drewN _
    all_goals simp [go_sem, *]
  · have hE := Lib.hid (show nameSt st = .off st.rem by
      cases st with
      | off r => rfl
      | on r => exact if_neg hk)
    have hV := Lib.hid (show nameTxt st = [] from if_neg hk)
    have C := Lib.hid (rkind_any w P all _ h 1 false (by decide) (decide_eq_false (by omega)))
    have H := Lib.hid h
    clear hk h
    go_enter Tryz.func92, Tryz.ntmps92
    go_wp2_with (first
      | (go_at_call 93; refine C.out.mono ?_; rintro e w1 ⟨rfl, hb⟩)
      | (go_at_call 59; refine (rfail_any _ P all st (H.out.below hb)).mono ?_; rintro e w2 ⟨rfl, hw2⟩))
    go_ret
    rw [hE.out, hV.out]
    exact ⟨rfl, hw2.from hb⟩
end Go.Proofs.YthgicmdaenkjbaaGreatDoor

namespace Go.Proofs.YthgicmdaenkjbaaGreatDoor
open Go.RowKit
open Par

set_option maxHeartbeats 2000000 in
set_option maxRecDepth 100000 in
theorem rnumber_any (w : World) (P : Nat) (all : List Tok.T) (st : St) (h : RIs w P all st) :
    Calls Tryz.prog 94 #[.pointer (some ⟨P, 0, none⟩)] w fun e w' => e = .returned (.int .i64 (numVal 0 st)) ∧ RWent P all (after (number 0) st) w w' := by
  by_cases hk : knd st.see = 2
  · obtain ⟨t, r, rfl⟩ : ∃ t r, st = .on (t :: r) := by
      match st, hk with
      | .off r, hk => simp [St.see, knd] at hk
      | .on [], hk => simp [St.see, knd] at hk
      | .on (t :: r), _ => exact ⟨t, r, rfl⟩
    have hwf : WF t := by
      obtain ⟨_, _, _, _, _, _, _, _, _, _, _, hw, _⟩ := h.split
      exact hw
    obtain ⟨hd, hne, hlim⟩ := hwf.num hk
    have hsh := hwf.short
    obtain ⟨s, hs⟩ : ∃ s : ByteArray, t.2.1 = s.data.toList := ⟨⟨t.2.1.toArray⟩, rfl⟩
    obtain ⟨n, hn⟩ : ∃ n, n = Tok.dec 0 t.2.1 := ⟨_, rfl⟩
    have hE := Lib.hid (show after (number 0) (.on (t :: r)) = .on r ∧ numVal 0 (.on (t :: r)) = n by
      have hk2 : knd (t :: r) = 2 := hk
      have ht : txt (t :: r) = t.2.1 := rfl
      simp [after, numVal, val, number, hk2, ht, ← hn])
    have e1 : (⟨t.2.1.toArray⟩ : ByteArray) = s := by rw [hs, Lib.mk_data]
    have CN : Hid (∀ w, Calls Tryz.prog 88 #[.string s] w fun e w' => e = .returned (.tuple #[.int .i64 n, .bool true]) ∧ w' = w) := Lib.hid (fun w => by
      refine (number_ref2 s w ?_ ?_ ?_).mono ?_
      · rw [← Tok.size_list, ← hs]; exact List.length_pos_iff.2 hne
      · rw [← Tok.size_list, ← hs]; omega
      · rw [← hs]; exact hd
      · rintro e w' ⟨⟨v, rfl, hv⟩, rfl⟩
        rw [← hs] at hv ⊢
        rw [decide_eq_true hlim, hv hlim, ← hn]
        exact ⟨rfl, rfl⟩)
    have C := Lib.hid (rkind_any w P all _ h 2 true (by decide) (by rw [hk]; rfl))
    obtain ⟨v, k, ha⟩ := h
    have hsp := Lib.hid (show RIs w P all (.on (t :: r)) from ⟨v, k, ha⟩)
    have H := Lib.hid ha
    have hP := ha.lt
    clear hk ha hd hne hlim hsh hwf hn hs
    go_enter Tryz.func94, Tryz.ntmps94
    go_wp2_with (go_at_call 93; refine C.out.mono ?_; rintro e w1 ⟨rfl, hb⟩; obtain ⟨g, cap, k2, c0, c1, c2, hk2, hl, t0, t1, t2, _, hg⟩ := (hsp.out.below hb).split; have h1 := H.out.below hb; have f1 := h1.f1; have f2 := h1.f2; obtain rfl : k = k2 := (by have := h1.c1; rw [c1] at this; have h3 : (k2 : Int) = k := (by simpa using this); omega); obtain rfl := Option.some.inj (h1.c0.symm.trans c0); clear h1)
    rw [e1] at t1
    have hgn : (⟨g, k * 3 + 1, none⟩ : Addr).block ≠ P := hg
    have t1' : (w1.setCell ⟨P, 1, none⟩ (.int .i64 ((k : Int) + 1))).cell? ⟨g, k * 3 + 1, none⟩ = some (.string s) := (World.cell?_of_block (Below.heap_setCell _ _ _ _ hg)).trans t1
    go_quiet ((go_at_call 88; exact Calls.quiet_of_same (CN.out _)))
    go_wp2_with fail
    go_ret
    rw [hE.out.1, hE.out.2]
    refine ⟨rfl, and_use ?_ fun HK => ⟨_, k + 1, H.out.step HK ?_ ?_ ?_ ?_ ?_⟩⟩
    · exact ((Kept.of_below hb).setOwn 1 _).drewN _
    all_goals simp [go_sem, *]
  · have hE := Lib.hid (after_num_no (l := 0) (st := st) (fun hh => hk hh.1))
    have C := Lib.hid (rkind_any w P all _ h 2 false (by decide) (decide_eq_false (by omega)))
    have H := Lib.hid h
    clear hk h
    go_enter Tryz.func94, Tryz.ntmps94
    go_wp2_with (first
      | (go_at_call 93; refine C.out.mono ?_; rintro e w1 ⟨rfl, hb⟩)
      | (go_at_call 59; refine (rfail_any _ P all st (H.out.below hb)).mono ?_; rintro e w2 ⟨rfl, hw2⟩))
    go_ret
    rw [hE.out.1, hE.out.2]
    exact ⟨rfl, hw2.from hb⟩

namespace Par
open Tok (T Bs)
/-- Sign, operator and level of a binary operator by its number. -/
def sgT : List (Bs × Int × Int) := [([124, 124], 18, 1), ([38, 38], 17, 2), ([61, 61], 11, 3), ([33, 61], 12, 3), ([60], 13, 3), ([60, 61], 14, 3), ([62], 15, 3), ([62, 61], 16, 3), ([43], 6, 4), ([45], 7, 4), ([42], 8, 5), ([47], 9, 5), ([37], 10, 5)]
def lvOps : Nat → List (Bs × Int)
  | 1 => orOps
  | 2 => andOps
  | 3 => cmpOps
  | 4 => sumOps
  | _ => mulOps
theorem sgT_hit : ∀ k, (h : k < sgT.length) → ∀ lv, 1 ≤ lv → lv ≤ 5 → (sgT[k].2.2 : Int) = (lv : Nat) → (lvOps lv).lookup sgT[k].1 = some sgT[k].2.1 ∧ sgT[k].1 ∈ Tok.signs ∧ sgT[k].1 ≠ [] := by
  intro k h lv h1 h5
  have hk : k < 13 := h
  rcases (show lv = 1 ∨ lv = 2 ∨ lv = 3 ∨ lv = 4 ∨ lv = 5 by omega) with rfl | rfl | rfl | rfl | rfl <;>
  · revert k
    decide
theorem lookup_miss {ops : List (Bs × Int)} {l : Bs} (h : ∀ p ∈ ops, l ≠ p.1) : ops.lookup l = none := by
  induction ops with
  | nil => rfl
  | cons p r ih =>
    have h1 := h p (by simp)
    have e : (l == p.1) = false := by simpa using h1
    simp only [List.lookup, e]
    exact ih (fun q hq => h q (by simp [hq]))
theorem lvOps_all : ∀ lv, 1 ≤ lv → lv ≤ 5 → ∀ p ∈ lvOps lv, ∃ k, ∃ h : k < sgT.length, sgT[k].1 = p.1 ∧ (sgT[k].2.2 : Int) = (lv : Nat) := by
  intro lv h1 h5
  rcases (show lv = 1 ∨ lv = 2 ∨ lv = 3 ∨ lv = 4 ∨ lv = 5 by omega) with rfl | rfl | rfl | rfl | rfl <;> decide
theorem opVal_hit {st : St} {lv k : Nat} (h1 : 1 ≤ lv) (h5 : lv ≤ 5) (hk : k < sgT.length) (hl : (sgT[k].2.2 : Int) = (lv : Nat)) (ht : txt st.see = sgT[k].1) : opVal (lvOps lv) st = sgT[k].2.1 := by
  obtain ⟨ha, _, hne⟩ := sgT_hit k hk lv h1 h5 hl
  obtain ⟨t, r, rfl, ht2⟩ := see_cons ht hne
  simp [opVal, St.see, opAt, ht2, ha]
theorem opVal_miss {st : St} {lv : Nat} (h1 : 1 ≤ lv) (h5 : lv ≤ 5) (h : ∀ j, (hj : j < sgT.length) → (sgT[j].2.2 : Int) = (lv : Nat) → txt st.see ≠ sgT[j].1) : opVal (lvOps lv) st = 0 := by
  unfold opVal
  have : opAt (lvOps lv) st.see = none := by
    match hs : st.see with
    | [] => rfl
    | t :: r =>
      have hm : (lvOps lv).lookup t.2.1 = none := lookup_miss (fun p hp => by
        obtain ⟨k, hk, e1, e2⟩ := lvOps_all lv h1 h5 p hp
        have := h k hk e2
        rw [hs, e1] at this
        exact this)
      simp [opAt, hm]
  rw [this]
/-- A block that begins with these values. -/
def IsRow (w : World) (g : Nat) (vs : List Value) : Prop := g < w.heap.size ∧ ∀ k u, vs[k]? = some u → w.cell? ⟨g, k, none⟩ = some u
theorem IsRow.below {w w' : World} {g : Nat} {vs : List Value} (h : IsRow w g vs) (b : Below w.heap.size w w') : IsRow w' g vs :=
  ⟨Nat.lt_of_lt_of_le h.1 b.size, fun k u hk => (b.cell (p := ⟨g, k, none⟩) h.1).trans (h.2 k u hk)⟩
theorem IsRow.new (w : World) (xs : Array Value) (t : TypeId) : IsRow (w.alloc (.cells xs t)) w.heap.size xs.toList :=
  ⟨by simp, fun k u hk => by simp [go_sem]; simpa using hk⟩
theorem IsRow.at' {w w' : World} {xs : Array Value} {t : TypeId} {g : Nat} (hg : g = w.heap.size) (b : Below (w.alloc (.cells xs t)).heap.size (w.alloc (.cells xs t)) w') : IsRow w' g xs.toList := by
  subst hg
  exact (IsRow.new w xs t).below b
def sgS : List Value := sgT.map fun p => .string ⟨p.1.toArray⟩
def sgO : List Value := sgT.map fun p => .int .i64 p.2.1
def sgL : List Value := sgT.map fun p => .int .i64 p.2.2
end Par

set_option maxHeartbeats 2000000 in
set_option maxRecDepth 100000 in
theorem rbinary_any (w : World) (P : Nat) (all : List Tok.T) (st : St) (h : RIs w P all st) (lv : Nat) (h1 : 1 ≤ lv) (h5 : lv ≤ 5) :
    Calls Tryz.prog 107 #[.pointer (some ⟨P, 0, none⟩), .int .i64 lv] w fun e w' => e = .returned (.int .i64 (opVal (lvOps lv) st)) ∧ Below w.heap.size w w' := by
  have H := Lib.hid h
  have hP := h.lt
  clear h
  go_enter Tryz.func107, Tryz.ntmps107
  go_wp2_with fail
  go_loopw [8] (fun iv wr => ∃ k : Nat, k ≤ 13 ∧ iv = .int .i64 k ∧ Below w.heap.size w wr ∧ IsRow wr w.heap.size sgS ∧ IsRow wr (w.heap.size + 1) sgO ∧ IsRow wr (w.heap.size + 1 + 1) sgL ∧
    Hid (∀ j, (hj : j < sgT.length) → j < k → (sgT[j].2.2 : Int) = (lv : Nat) → txt st.see ≠ sgT[j].1)) (fun iv _ => 13 - (intOf iv).toNat)
  case atStart =>
    refine ⟨0, by omega, rfl, (((Below.refl _ _).alloc (Nat.le_refl _) _).alloc (by simp) _).alloc (by simp; omega) _, ?_, ?_, ?_, Lib.hid (fun j _ hj => absurd hj (by omega))⟩
    · exact ((IsRow.new w _ _).below ((Below.refl _ _).alloc (Nat.le_refl _) _)).below ((Below.refl _ _).alloc (Nat.le_refl _) _)
    · exact IsRow.at' (by simp) ((Below.refl _ _).alloc (Nat.le_refl _) _)
    · exact IsRow.at' (by simp) (Below.refl _ _)
  case round =>
    obtain ⟨k, hk, rfl, hbel, hS, hO, hL, hno⟩ := hrel
    by_cases hlt : k < 13
    · have hkt : k < sgT.length := hlt
      have cS : wr.cell? ⟨w.heap.size, k, none⟩ = some (.string ⟨sgT[k].1.toArray⟩) := hS.2 k _ (by simp [sgS, hkt])
      have cO : wr.cell? ⟨w.heap.size + 1, k, none⟩ = some (.int .i64 sgT[k].2.1) := hO.2 k _ (by simp [sgO, hkt])
      have cL : wr.cell? ⟨w.heap.size + 1 + 1, k, none⟩ = some (.int .i64 sgT[k].2.2) := hL.2 k _ (by simp [sgL, hkt])
      obtain ⟨s, hs⟩ : ∃ s : ByteArray, s = ⟨sgT[k].1.toArray⟩ := ⟨_, rfl⟩
      obtain ⟨o, ho⟩ : ∃ o : Int, o = sgT[k].2.1 := ⟨_, rfl⟩
      obtain ⟨l, hl⟩ : ∃ l : Int, l = sgT[k].2.2 := ⟨_, rfl⟩
      rw [← hs] at cS
      rw [← ho] at cO
      rw [← hl] at cL
      have hR := H.out.below hbel
      by_cases hlv : l = lv
      · have hlb : (l == (lv : Int)) = true := by simpa using hlv
        have hit := sgT_hit k hkt lv h1 h5 (by rw [← hl]; exact hlv)
        by_cases ht : txt st.see = sgT[k].1
        · obtain ⟨t, r, rfl, ht2⟩ := see_cons ht hit.2.2
          have hv := Lib.hid ((opVal_hit h1 h5 hkt (by rw [← hl]; exact hlv) ht).trans ho.symm)
          have C := Lib.hid (ris_yes wr P all t r s hR (.inr (by rw [hs]; exact hit.2.1)) (by rw [ht2, hs]))
          clear hit ht ht2 hR hno hs ho hl hlv hkt
          go_wp2_with (go_at_call 90; refine C.out.mono ?_; rintro e w1 ⟨rfl, hb⟩; have dO := (hb.cell (p := ⟨w.heap.size + 1, k, none⟩) (block_lt_of_cell cO)).trans cO)
          go_ret
          rw [hv.out]
          exact ⟨rfl, hbel.trans (hb.mono hbel.size)⟩
        · have C := Lib.hid (ris_no wr P all st s hR (by rw [hs]; exact ht))
          have hno2 : Hid (∀ j, (hj : j < sgT.length) → j < k + 1 → (sgT[j].2.2 : Int) = (lv : Nat) → txt st.see ≠ sgT[j].1) := Lib.hid (fun j hj hjk hjl => by
            rcases Nat.lt_succ_iff_lt_or_eq.1 hjk with h | rfl
            · exact hno.out j hj h hjl
            · exact ht)
          clear hit ht hR hno hs ho hl hlv hkt
          go_wp2_with (go_at_call 90; refine C.out.mono ?_; rintro e w1 ⟨rfl, hb⟩)
          go_roundw
          case rel => exact ⟨k + 1, by omega, by go_num, hbel.trans (hb.mono hbel.size), hS.below hb, hO.below hb, hL.below hb, hno2⟩
          case measure => simp [intOf]; omega
      · have hlb : (l == (lv : Int)) = false := by simpa using hlv
        have hno2 : Hid (∀ j, (hj : j < sgT.length) → j < k + 1 → (sgT[j].2.2 : Int) = (lv : Nat) → txt st.see ≠ sgT[j].1) := Lib.hid (fun j hj hjk hjl => by
          rcases Nat.lt_succ_iff_lt_or_eq.1 hjk with h | rfl
          · exact hno.out j hj h hjl
          · exact absurd (hl.trans hjl) hlv)
        clear hR hno hs ho hl hlv hkt
        go_wp2_with fail
        go_roundw
        case rel => exact ⟨k + 1, by omega, by go_num, hbel, hS, hO, hL, hno2⟩
        case measure => simp [intOf]; omega
    · have hv := Lib.hid (opVal_miss (st := st) h1 h5 (fun j hj hjl => hno.out j hj (by have : j < 13 := hj; omega) hjl))
      clear hno
      go_wp2_with fail
      go_ret
      rw [hv.out]
      exact ⟨rfl, hbel⟩
end Go.Proofs.YthgicmdaenkjbaaGreatDoor

namespace Go.Proofs.YthgicmdaenkjbaaGreatDoor
open Go.RowKit
open Par

namespace Par
open Tok (T Bs)
/-- What a method that reads an expression leaves. -/
def PostR (f : Pa E) (P : Nat) (all : List T) (st : St) (w : World) (e : Ending) (w' : World) : Prop :=
  ∃ op n nm a len cap, e = .returned (.agg #[.int .i64 op, .int .i64 n, .string nm, .slice a len cap]) ∧ Kept P w w' ∧ RIs w' P all (after f st) ∧
    ∀ x, val f st = some x → RdE w' (From w.heap.size) x (.agg #[.int .i64 op, .int .i64 n, .string nm, .slice a len cap])
/-- The reference's expr at this level reads what f reads, where at most N tokens are left. -/
def XM (lv : Nat) (f : Pa E) (N : Nat) : Prop := ∀ (w : World) (P : Nat) (all : List T) (st : St), RIs w P all st → st.rem.length ≤ N → Calls Tryz.prog 58 #[.pointer (some ⟨P, 0, none⟩), .int .i64 lv] w (PostR f P all st w)
/-- .. its unary. -/
def UM (f : Pa E) (N : Nat) : Prop := ∀ (w : World) (P : Nat) (all : List T) (st : St), RIs w P all st → st.rem.length ≤ N → Calls Tryz.prog 106 #[.pointer (some ⟨P, 0, none⟩)] w (PostR f P all st w)
theorem RIs.nxt {w : World} {P : Nat} {all : List T} {st : St} (h : RIs w P all st) : all.length - nxt w P = st.rem.length := by
  obtain ⟨v, k, h⟩ := h
  have := congrArg List.length h.drop
  rw [List.length_drop] at this
  simp only [Par.nxt, h.c1, intOf]
  simpa using this
/-- What holds at the head of the loop of the reference's expr, when the parser is in state st2 and bv is what has been read so far. -/
structure RSerInv (f : Pa E) (ops : List (Bs × Int)) (N P : Nat) (S : Nat → Prop) (all : List T) (st : St) (wr : World) (bv : Value) (st2 : St) : Prop where
  is : RIs wr P all st2
  le : st2.rem.length ≤ N
  so : SerSo f ops S st wr bv st2
theorem rser_start {f : Pa E} {ops : List (Bs × Int)} {N P : Nat} {S : Nat → Prop} {all : List T} {st : St} {wr : World} {bv : Value} (hf : Lt f) (he : Er f) (hN : st.rem.length ≤ N)
    (hi : RIs wr P all (after f st)) (hv : ∀ x, val f st = some x → RdE wr S x bv) : RSerInv f ops N P S all st wr bv (after f st) := by
  refine ⟨hi, Nat.le_trans (after_rem hf st he) hN, ?_⟩
  cases st with
  | off r => exact ⟨rfl, rfl⟩
  | on r =>
    simp only [after, val] at hv ⊢
    cases h : f r with
    | error q => simp [SerSo, after, val, series, h]
    | ok p =>
      obtain ⟨e, q⟩ := p
      rw [h] at hv
      exact ⟨e, q.length, Nat.le_refl _, hv e rfl, by simp [after, series, h], by simp [val, series, h]⟩
theorem rser_stop {f : Pa E} {ops : List (Bs × Int)} {N P : Nat} {S : Nat → Prop} {all : List T} {st st2 : St} {wr : World} {bv : Value} (h : RSerInv f ops N P S all st wr bv st2) (hn : opAt ops st2.see = none) :
    after (series f ops) st = st2 ∧ ∀ x, val (series f ops) st = some x → RdE wr S x bv := by
  have hs := h.so
  cases st2 with
  | off q => exact ⟨hs.1, fun x hx => by rw [hs.2] at hx; cases hx⟩
  | on q =>
    obtain ⟨e, n, hq, hr, ha, hv⟩ := hs
    simp only [St.see] at hn
    have := opAt_short hn f n e
    rw [ha, hv]
    refine ⟨by simp only [after, this], fun x hx => ?_⟩
    simp only [val, this] at hx
    cases hx
    exact hr
theorem rser_step {f : Pa E} {ops : List (Bs × Int)} {N P : Nat} {S S' : Nat → Prop} {all : List T} {st : St} {q0 q1 : List T} {o : Int} {wr w3 : World} {bv nv : Value} (hf : Lt f) (he : Er f)
    (h : RSerInv f ops N P S all st wr bv (.on q0)) (ho : opAt ops q0 = some (o, q1)) (hi : RIs w3 P all (after f (.on q1)))
    (hv : ∀ e x, RdE wr S e bv → val f (.on q1) = some x → RdE w3 S' (binary o e x) nv) : RSerInv f ops N P S' all st w3 nv (after f (.on q1)) := by
  have h1 := opAt_le ho
  have h2 := after_rem hf (.on q1) he
  have hle := h.le
  have hs := h.so
  simp only [St.rem] at h2 hle
  obtain ⟨e, n, hq, hr, ha, hvv⟩ := hs
  obtain ⟨m, rfl⟩ : ∃ m, n = m + 1 := ⟨n - 1, by omega⟩
  refine ⟨hi, by simp only [St.rem] at h2 ⊢; omega, ?_⟩
  cases hx : f q1 with
  | error q =>
    have e1 : after f (.on q1) = .off q := by simp [after, hx]
    rw [e1]
    exact ⟨by rw [ha]; simp [after, seriesL, ho, hx], by rw [hvv]; simp [val, seriesL, ho, hx]⟩
  | ok p =>
    obtain ⟨x, q⟩ := p
    have := hv e x hr (by simp [val, hx])
    have hlt := hf _ _ _ hx
    have e1 : after f (.on q1) = .on q := by simp [after, hx]
    rw [e1]
    exact ⟨binary o e x, m, by omega, this, by rw [ha]; simp [after, seriesL, ho, hx], by rw [hvv]; simp [val, seriesL, ho, hx]⟩
/-- What holds at the head of that loop: R: the result's block, B: that of what has been read so far. -/
def RSerRel (f : Pa E) (ops : List (Bs × Int)) (N P : Nat) (all : List T) (st : St) (w : World) (R B : Nat) (wr : World) : Prop :=
  ∃ op n nm a len cap st2, Kept P w wr ∧ Box4 wr R (.int .i64 0) (.int .i64 0) (.string ⟨#[]⟩) (.slice none 0 0) ∧ Box4 wr B (.int .i64 op) (.int .i64 n) (.string nm) (.slice a len cap) ∧
    RSerInv f ops N P (Free R B) all st wr (.agg #[.int .i64 op, .int .i64 n, .string nm, .slice a len cap]) st2
/-- What one round of that loop leaves in memory: an operator, an operand, the box written anew. -/
theorem rmem_next {f : Pa E} {P : Nat} {all : List T} {w wr w2 w3 : World} {R B : Nat} {q1 : List T} {o : Int}
    {op2 n2 op3 n3 : Int} {nm2 nm3 : ByteArray} {a2 a3 : Option Addr} {len2 cap2 len3 cap3 : Nat} {t : TypeId}
    (hP : P < R) (hRB : R < B) (hR : R = w.heap.size)
    (hkr : Kept P w wr) (hk2 : Kept P wr w2) (hk3 : Kept P w2 w3)
    (b1 : Box4 wr R (.int .i64 0) (.int .i64 0) (.string ⟨#[]⟩) (.slice none 0 0)) (b2 : Box4 wr B (.int .i64 op2) (.int .i64 n2) (.string nm2) (.slice a2 len2 cap2))
    (hi3 : RIs w3 P all (after f (.on q1))) (hv3 : ∀ x, val f (.on q1) = some x → RdE w3 (From w2.heap.size) x (.agg #[.int .i64 op3, .int .i64 n3, .string nm3, .slice a3 len3 cap3]))
    {W : World} (hW : W = (((((w3.setCell ⟨B, 0, none⟩ (.int .i64 o)).setCell ⟨B, 1, none⟩ (.int .i64 0)).setCell ⟨B, 2, none⟩ (.string ⟨#[]⟩)).setCell ⟨B, 3, none⟩ (.slice (some ⟨w3.heap.size, 0, none⟩) 2 2)).alloc
      (.cells #[.int .i64 op2, .int .i64 n2, .string nm2, .slice a2 len2 cap2, .int .i64 op3, .int .i64 n3, .string nm3, .slice a3 len3 cap3] t))) :
    Kept P w W ∧ Box4 W R (.int .i64 0) (.int .i64 0) (.string ⟨#[]⟩) (.slice none 0 0) ∧ Box4 W B (.int .i64 o) (.int .i64 0) (.string ⟨#[]⟩) (.slice (some ⟨w3.heap.size, 0, none⟩) 2 2) ∧ RIs W P all (after f (.on q1)) ∧
    ∀ e x, RdE wr (Free R B) e (.agg #[.int .i64 op2, .int .i64 n2, .string nm2, .slice a2 len2 cap2]) → val f (.on q1) = some x → RdE W (Free R B) (binary o e x) (.agg #[.int .i64 o, .int .i64 0, .string ⟨#[]⟩, .slice (some ⟨w3.heap.size, 0, none⟩) 2 2]) := by
  have B1 := (b1.kept hk2 (by omega)).kept hk3 (by omega)
  have B2 := (b2.kept hk2 (by omega)).kept hk3 (by omega)
  have l1 := B1.lt
  have l2 := B2.lt
  have s3 := hk3.size
  have s2 := hk2.size
  have sr := hkr.size
  have lP := hi3.lt
  obtain ⟨x0, x1, x2, x3, y0, y1, y2, y3⟩ := B2
  have hbel : Below (P + 1) w3 W := by
    rw [hW]
    exact (((((Below.refl _ _).setCell (p := ⟨B, 0, none⟩) (by show P + 1 ≤ B; omega) _).setCell (p := ⟨B, 1, none⟩) (by show P + 1 ≤ B; omega) _).setCell (p := ⟨B, 2, none⟩) (by show P + 1 ≤ B; omega) _).setCell (p := ⟨B, 3, none⟩) (by show P + 1 ≤ B; omega) _).alloc (by simp; omega) _
  have hblk : ∀ g, g < w3.heap.size → g ≠ B → W.heap[g]? = w3.heap[g]? := by
    intro g hg hb
    rw [hW, Below.heap_alloc _ _ _ (by simp; omega), Below.heap_setCell _ _ _ _ hb, Below.heap_setCell _ _ _ _ hb, Below.heap_setCell _ _ _ _ hb, Below.heap_setCell _ _ _ _ hb]
  have hkW : Kept P w W := by
    have h3 := (hkr.trans hk2).trans hk3
    exact ⟨hbel.os.trans h3.os, hbel.tape.trans h3.tape, hbel.output.trans h3.output, Nat.le_trans h3.size hbel.size, fun g hg hp => (hblk g (by omega) (by omega)).trans (h3.block g hg hp)⟩
  have hiW := hi3.past hbel
  have hcell : ∀ g oo, g < w3.heap.size → g ≠ B → W.cell? ⟨g, oo, none⟩ = w3.cell? ⟨g, oo, none⟩ := fun g oo hg hb => World.cell?_of_block (hblk g hg hb)
  have hfroz : ∀ g oo, g < w3.heap.size → g ≠ B → W.frozen? ⟨g, oo, none⟩ = w3.frozen? ⟨g, oo, none⟩ := fun g oo hg hb => World.frozen?_of_block (hblk g hg hb)
  have BR : Box4 W R (.int .i64 0) (.int .i64 0) (.string ⟨#[]⟩) (.slice none 0 0) :=
    ⟨(hcell _ _ l1 (by omega)).trans B1.c0, (hcell _ _ l1 (by omega)).trans B1.c1, (hcell _ _ l1 (by omega)).trans B1.c2, (hcell _ _ l1 (by omega)).trans B1.c3,
      (hfroz _ _ l1 (by omega)).trans B1.f0, (hfroz _ _ l1 (by omega)).trans B1.f1, (hfroz _ _ l1 (by omega)).trans B1.f2, (hfroz _ _ l1 (by omega)).trans B1.f3⟩
  have BB : Box4 W B (.int .i64 o) (.int .i64 0) (.string ⟨#[]⟩) (.slice (some ⟨w3.heap.size, 0, none⟩) 2 2) := by
    rw [hW]
    constructor <;> simp [go_sem, *]
  have hsz : W.heap.size = w3.heap.size + 1 := by rw [hW]; simp
  have hnew : ∀ j u, (#[Value.int .i64 op2, .int .i64 n2, .string nm2, .slice a2 len2 cap2, .int .i64 op3, .int .i64 n3, .string nm3, .slice a3 len3 cap3])[j]? = some u → W.cell? ⟨w3.heap.size, j, none⟩ = some u := by
    intro j u hj
    rw [hW]
    rw [World.cell?_alloc_at _ _ _ _ (by simp)]
    exact hj
  refine ⟨hkW, BR, BB, hiW, ?_⟩
  intro e x hre hx
  refine rdE_two (g := w3.heap.size) ⟨by omega, by omega⟩ (hnew 0 _ rfl) (hnew 1 _ rfl) (hnew 2 _ rfl) (hnew 3 _ rfl) (hnew 4 _ rfl) (hnew 5 _ rfl) (hnew 6 _ rfl) (hnew 7 _ rfl) ?_ ?_
  · have hre3 := hre.kept (hk2.trans hk3) (fun g hg => by have := hg.1; omega)
    exact RdE.turn (fun g oo u hg hc => ⟨(hcell g oo (block_lt_of_cell (a := ⟨g, oo, none⟩) hc) hg.2).trans hc, hg⟩) _ _ hre3
  · have hwk : ∀ g, From w2.heap.size g → Free R B g := fun g hg => by
      have l2' := (b2.kept hk2 (by omega)).lt
      have l1' := (b1.kept hk2 (by omega)).lt
      have : w2.heap.size ≤ g := hg
      exact ⟨by omega, by omega⟩
    exact RdE.turn (fun g oo u hg hc => ⟨(hcell g oo (block_lt_of_cell (a := ⟨g, oo, none⟩) hc) (hwk g hg).2).trans hc, hwk g hg⟩) _ _ (hv3 x hx)
/-- One round of that loop: an operator, an operand, the box written anew. -/
theorem rser_next {f : Pa E} {ops : List (Bs × Int)} {N P : Nat} {all : List T} {st : St} {w wr w2 w3 : World} {R B : Nat} {q0 q1 : List T} {o : Int}
    {op2 n2 op3 n3 : Int} {nm2 nm3 : ByteArray} {a2 a3 : Option Addr} {len2 cap2 len3 cap3 : Nat} {t : TypeId} (hf : Lt f) (he : Er f)
    (hP : P < R) (hRB : R < B) (hR : R = w.heap.size)
    (hkr : Kept P w wr) (hk2 : Kept P wr w2) (hk3 : Kept P w2 w3)
    (b1 : Box4 wr R (.int .i64 0) (.int .i64 0) (.string ⟨#[]⟩) (.slice none 0 0)) (b2 : Box4 wr B (.int .i64 op2) (.int .i64 n2) (.string nm2) (.slice a2 len2 cap2))
    (HI : RSerInv f ops N P (Free R B) all st wr (.agg #[.int .i64 op2, .int .i64 n2, .string nm2, .slice a2 len2 cap2]) (.on q0)) (ho : opAt ops q0 = some (o, q1))
    (hi3 : RIs w3 P all (after f (.on q1))) (hv3 : ∀ x, val f (.on q1) = some x → RdE w3 (From w2.heap.size) x (.agg #[.int .i64 op3, .int .i64 n3, .string nm3, .slice a3 len3 cap3]))
    {W : World} (hW : W = (((((w3.setCell ⟨B, 0, none⟩ (.int .i64 o)).setCell ⟨B, 1, none⟩ (.int .i64 0)).setCell ⟨B, 2, none⟩ (.string ⟨#[]⟩)).setCell ⟨B, 3, none⟩ (.slice (some ⟨w3.heap.size, 0, none⟩) 2 2)).alloc
      (.cells #[.int .i64 op2, .int .i64 n2, .string nm2, .slice a2 len2 cap2, .int .i64 op3, .int .i64 n3, .string nm3, .slice a3 len3 cap3] t))) :
    RSerRel f ops N P all st w R B W ∧ all.length - nxt W P < all.length - nxt wr P := by
  obtain ⟨hkW, BR, BB, hiW, hv⟩ := rmem_next hP hRB hR hkr hk2 hk3 b1 b2 hi3 hv3 hW
  have hinv := rser_step hf he HI ho hiW hv
  refine ⟨⟨_, _, _, _, _, _, _, hkW, BR, BB, hinv⟩, ?_⟩
  rw [hiW.nxt, HI.is.nxt]
  have h1 := opAt_le ho
  have h2 := after_rem hf (.on q1) he
  simp only [St.rem] at h2 ⊢
  omega
end Par

namespace Par
open Tok (T Bs)
theorem XM.cast {lv : Nat} {f : Pa E} {N : Nat} (h : XM (lv + 1) f N) (w : World) (P : Nat) (all : List T) (st : St) (hi : RIs w P all st) (hN : st.rem.length ≤ N) :
    Calls Tryz.prog 58 #[.pointer (some ⟨P, 0, none⟩), .int .i64 ((lv : Int) + 1)] w (PostR f P all st w) := by
  have := h w P all st hi hN
  rw [show (((lv + 1 : Nat)) : Int) = (lv : Int) + 1 by omega] at this
  exact this
/-- What the reference's parser holds in front of a token. -/
theorem RIs.front {w : World} {P : Nat} {all : List T} {t : T} {r : List T} (h : RIs w P all (.on (t :: r))) :
    ∃ v k, RAt w P all (.on (t :: r)) v k ∧ w.cell? ⟨P, 0, Option.none⟩ = some v ∧ w.cell? ⟨P, 1, Option.none⟩ = some (.int .i64 (k : Nat)) ∧ w.cell? ⟨P, 2, Option.none⟩ = some (.int .i64 0) ∧ w.frozen? ⟨P, 1, Option.none⟩ = false ∧ w.frozen? ⟨P, 2, Option.none⟩ = false ∧ k ≤ 5000 := by
  obtain ⟨v, k, h⟩ := h
  exact ⟨v, k, h, h.c0, h.c1, h.c2, h.f1, h.f2, Nat.le_trans h.le h.sm⟩
/-- .. and behind 'at++'. -/
theorem RAt.on {w : World} {P : Nat} {all : List T} {t : T} {r : List T} {v : Value} {k : Nat} (h : RAt w P all (.on (t :: r)) v k) : RIs (w.setCell ⟨P, 1, none⟩ (.int .i64 ((k : Int) + 1))) P all (.on r) := by
  have c0 := h.c0
  have c1 := h.c1
  have c2 := h.c2
  have f1 := h.f1
  have f2 := h.f2
  simp only [badOf] at c2
  refine ⟨v, k + 1, h.step ((Kept.refl P w).setOwn 1 _) ?_ ?_ ?_ ?_ ?_⟩
  all_goals simp [go_sem, *]
theorem opAt_cons {ops : List (Bs × Int)} {q r : List T} {o : Int} (h : opAt ops q = some (o, r)) : ∃ t, q = t :: r := by
  cases q with
  | nil => cases h
  | cons t q =>
    simp only [opAt] at h
    split at h
    · cases h; exact ⟨t, rfl⟩
    · cases h
end Par

set_option maxHeartbeats 4000000 in
set_option maxRecDepth 100000 in
theorem rseries_of (lv : Nat) (h1 : 1 ≤ lv) (h5 : lv ≤ 5) (h3 : lv ≠ 3) (f : Pa E) (N : Nat) (hf : Lt f) (he : Er f) (hm : XM (lv + 1) f N) (h0 : ∀ p ∈ lvOps lv, 0 < p.2) : XM lv (series f (lvOps lv)) N := by
  intro w P all st h hN
  have H := Lib.hid h
  have HM := Lib.hid hm.cast
  have CB := Lib.hid (fun w P all st h => rbinary_any w P all st h lv h1 h5)
  have hP := h.lt
  have H0 := Lib.hid h0
  clear h hm h0
  have hl3 : ((lv : Int) == 3) = false := by simp; omega
  have hn3 : ((lv : Int) != 3) = true := by simp; omega
  have hwrap0 := Lib.hid (show IntKind.i64.wrap ((lv : Int) + 1) = (lv : Int) + 1 from IntWalk.i64_in _ (by omega))
  obtain ⟨ops, hops⟩ : ∃ ops, ops = lvOps lv := ⟨_, rfl⟩
  rw [← hops] at CB H0 ⊢
  clear hops
  go_enter Tryz.func58, Tryz.ntmps58
  go_wp2_with (go_at_call 58; go_must (refine (HM.out _ P all st (H.out.alloc _) hN).mono ?_); rintro e w1 ⟨op, n, nm, a, len, cap, rfl, hk1, hi1, hv1⟩)
  go_loopw [6] (fun iv wr => ∃ m : Int, iv = .int .i64 m ∧ RSerRel f ops N P all st w w.heap.size w1.heap.size wr) (fun _ wr => all.length - nxt wr P)
  case atStart =>
    have hk2 := hk1.alloc (.cells #[.int .i64 op, .int .i64 n, .string nm, .slice a len cap] 41)
    have hlt := hk1.size
    simp at hlt
    refine ⟨0, rfl, op, n, nm, a, len, cap, _, ((Kept.refl _ _).alloc _).trans hk2, (Box4.new w _ _ _ _ _).kept hk2 (by omega), Box4.new w1 _ _ _ _ _, rser_start hf he hN (hi1.below ((Below.refl _ _).alloc (Nat.le_refl _) _)) ?_⟩
    intro x hx
    refine ((hv1 x hx).weak (fun g hg hl2 => ?_)).below ((Below.refl _ _).alloc (Nat.le_refl _) _)
    have hg2 : w.heap.size + 1 ≤ g := by simpa [From] using hg
    exact ⟨by omega, by omega⟩
  case round =>
    obtain ⟨m, rfl, op2, n2, nm2, a2, len2, cap2, st2, hkr, hR, hB, hinv⟩ := hrel
    have hR1 : w.heap.size ≠ P := by omega
    have hlR : w.heap.size < w1.heap.size := by have := hk1.size; simp at this; omega
    have hB1 : w1.heap.size ≠ P := by omega
    have C := Lib.hid (CB.out wr P all st2 hinv.is)
    have HI := Lib.hid hinv
    clear hinv
    cases hat : opAt ops st2.see with
    | none =>
      have hz : opVal ops st2 = 0 := by simp [opVal, hat]
      rw [hz] at C
      have HA := Lib.hid hat
      clear hat hz
      have b1 := Lib.hid hR
      have b2 := Lib.hid hB
      clear hR hB
      go_wp2_with (go_at_call 107; refine C.out.mono ?_; rintro e w2 ⟨rfl, hb2⟩; obtain ⟨d0, d1, d2, d3, _, _, _, _⟩ := b2.out.below hb2; obtain ⟨r0, r1, r2, r3, g0, g1, g2, g3⟩ := b1.out.below hb2)
      obtain ⟨hfin, hval⟩ := rser_stop HI.out HA.out
      have hk2 := Kept.of_below (P := P) hb2
      have hi2 := HI.out.is.below hb2
      refine bodyPost_ret (v := .agg #[.int .i64 op2, .int .i64 n2, .string nm2, .slice a2 len2 cap2]) (by simp [results, Tryz.results58, go_sem, *]) rfl ⟨_, _, _, _, _, _, rfl, ?_, ?_, ?_⟩
      · exact (((((hkr.trans hk2).setNew (p := ⟨w.heap.size, 0, none⟩) (Nat.le_refl _) _).setNew (p := ⟨w.heap.size, 1, none⟩) (Nat.le_refl _) _).setNew (p := ⟨w.heap.size, 2, none⟩) (Nat.le_refl _) _).setNew (p := ⟨w.heap.size, 3, none⟩) (Nat.le_refl _) _)
      · rw [hfin]
        exact hi2.past (((((Below.refl _ _).setCell (p := ⟨w.heap.size, 0, none⟩) hP _).setCell (p := ⟨w.heap.size, 1, none⟩) hP _).setCell (p := ⟨w.heap.size, 2, none⟩) hP _).setCell (p := ⟨w.heap.size, 3, none⟩) hP _)
      · intro x hx
        have hx2 := (hval x hx).kept hk2 (fun g hg => by have := hg.1; omega)
        refine RdE.turn (fun g oo u hg hc => ⟨(World.cell?_of_block ?_).trans hc, Nat.le_of_lt hg.1⟩) _ _ hx2
        have hne : g ≠ w.heap.size := by have := hg.1; omega
        rw [Below.heap_setCell _ _ _ _ hne, Below.heap_setCell _ _ _ _ hne, Below.heap_setCell _ _ _ _ hne, Below.heap_setCell _ _ _ _ hne]
    | some p =>
      obtain ⟨o, q1⟩ := p
      obtain ⟨q0, rfl⟩ : ∃ q0, st2 = .on q0 := by
        match st2, hat with
        | .off r, hat => cases hat
        | .on r, _ => exact ⟨r, rfl⟩
      simp only [St.see] at hat
      have hz : opVal ops (.on q0) = o := by simp [opVal, hat, St.see]
      rw [hz] at C
      obtain ⟨t, rfl⟩ := opAt_cons hat
      have ho : (0 : Int) < o := by
        simp only [opAt] at hat
        split at hat
        · rename_i o2 h2
          obtain ⟨p, hp, hpe⟩ := lookup_mem h2
          cases hat
          rw [← hpe]
          exact H0.out p hp
        · cases hat
      have C2 := Lib.hid (fun w h => CB.out w P all (.on (t :: q1)) h)
      rw [hz] at C2
      have hle : q1.length ≤ N := by have h1 := opAt_le hat; have h2 := HI.out.le; simp only [St.rem] at h2; omega
      have HA := Lib.hid hat
      have b1 := Lib.hid hR
      have b2 := Lib.hid hB
      clear hR hB hat hz
      go_wp2_with (first
        | (go_at_call 107; refine C.out.mono ?_; rintro e wA ⟨rfl, hbA⟩)
        | (go_at_call 107; refine (C2.out _ (HI.out.is.below hbA)).mono ?_; rintro e wB ⟨rfl, hbB⟩; have hbAB := hbA.trans (hbB.mono hbA.size); obtain ⟨vv, k, hat, c0, c1, c2, f1, f2, hk5⟩ := (HI.out.is.below hbAB).front))
      have hiC := hat.on
      have hkC : Kept P wr (wB.setCell ⟨P, 1, none⟩ (.int .i64 ((k : Int) + 1))) := (Kept.of_below hbAB).setOwn 1 _
      obtain ⟨wC, hwC⟩ : ∃ wC, wC = wB.setCell ⟨P, 1, none⟩ (.int .i64 ((k : Int) + 1)) := ⟨_, rfl⟩
      rw [← hwC] at hiC hkC ⊢
      have bC1 := Lib.hid (b1.out.kept hkC hR1)
      have bC2 := Lib.hid (b2.out.kept hkC hB1)
      obtain ⟨d0, d1, d2, d3, _, _, _, _⟩ := bC2.out
      clear c0 c1 c2 f1 f2 hat hwC
      have hwrap := hwrap0.out
      go_region_with (first
        | (go_at_call 58; refine (HM.out _ P all (.on q1) ?_ hle).mono ?_; first | exact hiC | exact hiC.drew; rintro e w3 ⟨op3, n3, nm3, a3, len3, cap3, rfl, hk3, hi3, hv3⟩; have hzb := (bC2.out.kept (Kept.trans (Kept.of_below (Below.refl _ _).drew) hk3) hB1).lt; obtain ⟨e0, e1, e2, e3, k0, k1, k2, k3⟩ := bC2.out.kept (Kept.trans (Kept.of_below (Below.refl _ _).drew) hk3) hB1))
      all_goals
        clear hwrap
        go_wp2_with fail
        go_roundw
        case rel => exact ⟨_, rfl, (rser_next hf he hP hlR rfl hkr hkC (Kept.trans (Kept.of_below (Below.refl _ _).drew) hk3) b1.out b2.out HI.out HA.out hi3 hv3 rfl).1⟩
        case measure => exact (rser_next hf he hP hlR rfl hkr hkC (Kept.trans (Kept.of_below (Below.refl _ _).drew) hk3) b1.out b2.out HI.out HA.out hi3 hv3 rfl).2
end Go.Proofs.YthgicmdaenkjbaaGreatDoor

namespace Go.Proofs.YthgicmdaenkjbaaGreatDoor
open Go.RowKit
open Par

namespace Par
open Tok (T Bs)
theorem rfin_store {P : Nat} {all : List T} {st : St} {w w1 : World} {n : Nat} {v : Value} {o : Option E} (u0 u1 u2 u3 : Value) (hk : Kept P w w1) (hP : P < w.heap.size) (hi : RIs w1 P all st) (hn : w.heap.size < n)
    (hv : ∀ x, o = some x → RdE w1 (From n) x v) {W : World} (hW : W = (((w1.setCell ⟨w.heap.size, 0, none⟩ u0).setCell ⟨w.heap.size, 1, none⟩ u1).setCell ⟨w.heap.size, 2, none⟩ u2).setCell ⟨w.heap.size, 3, none⟩ u3) :
    Kept P w W ∧ RIs W P all st ∧ ∀ x, o = some x → RdE W (From w.heap.size) x v := by
  subst hW
  refine ⟨(((hk.setNew (p := ⟨w.heap.size, 0, none⟩) (Nat.le_refl _) _).setNew (p := ⟨w.heap.size, 1, none⟩) (Nat.le_refl _) _).setNew (p := ⟨w.heap.size, 2, none⟩) (Nat.le_refl _) _).setNew (p := ⟨w.heap.size, 3, none⟩) (Nat.le_refl _) _,
    hi.past (((((Below.refl _ _).setCell (p := ⟨w.heap.size, 0, none⟩) hP _).setCell (p := ⟨w.heap.size, 1, none⟩) hP _).setCell (p := ⟨w.heap.size, 2, none⟩) hP _).setCell (p := ⟨w.heap.size, 3, none⟩) hP _), fun x hx => ?_⟩
  refine RdE.turn (fun g oo u hg hc => ⟨(World.cell?_of_block ?_).trans hc, by have : n ≤ g := hg; exact (show w.heap.size ≤ g by omega)⟩) _ _ (hv x hx)
  have hne : g ≠ w.heap.size := by have : n ≤ g := hg; omega
  rw [Below.heap_setCell _ _ _ _ hne, Below.heap_setCell _ _ _ _ hne, Below.heap_setCell _ _ _ _ hne, Below.heap_setCell _ _ _ _ hne]
/-- The result's block is written, and a new block laid. -/
theorem rfin_build {P : Nat} {all : List T} {st : St} {w w3 : World} {n : Nat} (u0 u1 u2 u3 : Value) {cs : Array Value} {t : TypeId} (hk : Kept P w w3) (hP : P < w.heap.size) (hi : RIs w3 P all st) (hn : w.heap.size < n)
    {W : World} (hW : W = ((((w3.setCell ⟨w.heap.size, 0, none⟩ u0).setCell ⟨w.heap.size, 1, none⟩ u1).setCell ⟨w.heap.size, 2, none⟩ u2).setCell ⟨w.heap.size, 3, none⟩ u3).alloc (.cells cs t)) :
    (Kept P w W ∧ RIs W P all st) ∧ (∀ e v, RdE w3 (From n) e v → RdE W (From w.heap.size) e v) ∧ ∀ j u, cs[j]? = some u → W.cell? ⟨w3.heap.size, j, none⟩ = some u := by
  obtain ⟨hk2, hi2, _⟩ := rfin_store (o := none) (v := .bool false) u0 u1 u2 u3 hk hP hi hn (fun _ h => by cases h) rfl
  subst hW
  refine ⟨⟨hk2.alloc _, hi2.below ((Below.refl _ _).alloc (Nat.le_refl _) _)⟩, fun e v hr => ?_, fun j u hj => ?_⟩
  · refine RdE.turn (fun g oo u hg hc => ⟨(World.cell?_of_block ?_).trans hc, by have : n ≤ g := hg; exact (show w.heap.size ≤ g by omega)⟩) _ _ hr
    have hne : g ≠ w.heap.size := by have : n ≤ g := hg; omega
    have hlt : g < w3.heap.size := block_lt_of_cell (a := ⟨g, oo, none⟩) hc
    rw [Below.heap_alloc _ _ _ (by simpa [World.setCell] using hlt), Below.heap_setCell _ _ _ _ hne, Below.heap_setCell _ _ _ _ hne, Below.heap_setCell _ _ _ _ hne, Below.heap_setCell _ _ _ _ hne]
  · rw [World.cell?_alloc_at _ _ _ _ (by simp)]
    exact hj
/-- The reference's primary reads what f reads, where at most N tokens are left. -/
def QM (f : Pa E) (N : Nat) : Prop := ∀ (w : World) (P : Nat) (all : List T) (st : St), RIs w P all st → st.rem.length ≤ N → Calls Tryz.prog 153 #[.pointer (some ⟨P, 0, none⟩)] w (PostR f P all st w)
theorem XM.mono {lv : Nat} {f : Pa E} {M N : Nat} (h : XM lv f N) (hM : M ≤ N) : XM lv f M := fun w P all st hi hr => h w P all st hi (Nat.le_trans hr hM)
theorem UM.mono {f : Pa E} {M N : Nat} (h : UM f N) (hM : M ≤ N) : UM f M := fun w P all st hi hr => h w P all st hi (Nat.le_trans hr hM)
theorem RIs.wf {w : World} {P : Nat} {all : List T} {st : St} (h : RIs w P all st) : ∀ t ∈ st.rem, WF t := by
  obtain ⟨_, k, h⟩ := h
  intro t ht
  rw [← h.drop] at ht
  exact h.wf t (List.mem_of_mem_drop ht)
end Par

set_option maxHeartbeats 4000000 in
set_option maxRecDepth 100000 in
theorem rtop_of (f : Pa E) (N : Nat) (hu : UM f N) : XM 6 f N := by
  intro w P all st h hN
  have H := Lib.hid h
  have hP := h.lt
  have CU : Hid (∀ w, RIs w P all st → Calls Tryz.prog 106 #[.pointer (some ⟨P, 0, none⟩)] w (PostR f P all st w)) := Lib.hid (fun w hi => hu w P all st hi hN)
  clear h hu
  show Calls _ _ #[.pointer (some ⟨P, 0, none⟩), .int .i64 6] w _
  go_enter Tryz.func58, Tryz.ntmps58
  go_wp2_with (go_at_call 106; go_must (refine (CU.out _ (H.out.alloc _)).mono ?_); rintro e w1 ⟨op, n, nm, a, len, cap, rfl, hk1, hi1, hv1⟩; obtain ⟨r0, r1, r2, r3, g0, g1, g2, g3, hz, hn1, hn2⟩ := Kept.new4 hk1 hP)
  exact bodyPost_ret (v := .agg #[.int .i64 op, .int .i64 n, .string nm, .slice a len cap]) (by simp [results, Tryz.results58, go_sem, *]) rfl ⟨_, _, _, _, _, _, rfl, rfin_store _ _ _ _ (((Kept.refl P w).alloc _).trans hk1) hP hi1 (n := w.heap.size + 1) (by omega) (fun x hx => by simpa using hv1 x hx) rfl⟩

set_option maxHeartbeats 4000000 in
set_option maxRecDepth 100000 in
theorem rcmp_of (f : Pa E) (N : Nat) (hf : Lt f) (he : Er f) (hm : XM 4 f N) : XM 3 (cmp f) N := by
  intro w P all st h hN
  have H := Lib.hid h
  have hP := h.lt
  have HM : Hid (∀ w P all st, RIs w P all st → st.rem.length ≤ N → Calls Tryz.prog 58 #[.pointer (some ⟨P, 0, none⟩), .int .i64 4] w (PostR f P all st w)) := Lib.hid (fun w P all st hi hN => hm w P all st hi hN)
  have CB : Hid (∀ w P all st, RIs w P all st → Calls Tryz.prog 107 #[.pointer (some ⟨P, 0, none⟩), .int .i64 3] w fun e w' => e = .returned (.int .i64 (opVal cmpOps st)) ∧ Below w.heap.size w w') := Lib.hid (fun w P all st h => rbinary_any w P all st h 3 (by decide) (by decide))
  clear h hm
  show Calls _ _ #[.pointer (some ⟨P, 0, none⟩), .int .i64 3] w _
  cases hat : opAt cmpOps (after f st).see with
  | none =>
    obtain ⟨ha, hv⟩ := cmp_none hat
    have hz : opVal cmpOps (after f st) = 0 := by simp [opVal, hat]
    have C := Lib.hid (fun w h => CB.out w P all (after f st) h)
    rw [hz] at C
    have HA := Lib.hid ha
    have HV := Lib.hid hv
    clear hat ha hv hz CB
    go_enter Tryz.func58, Tryz.ntmps58
    go_wp2_with (go_at_call 58; go_must (refine (HM.out _ P all st (H.out.alloc _) hN).mono ?_); rintro e w1 ⟨op, n, nm, a, len, cap, rfl, hk1, hi1, hv1⟩)
    have hz1 := hk1.size
    simp at hz1
    have b2 := Lib.hid (Box4.new w1 (.int .i64 op) (.int .i64 n) (.string nm) (.slice a len cap) 41)
    have b1 := Lib.hid ((Box4.new w (.int .i64 0) (.int .i64 0) (.string ⟨#[]⟩) (.slice none 0 0) 41).kept (hk1.alloc (.cells #[.int .i64 op, .int .i64 n, .string nm, .slice a len cap] 41)) (by omega))
    refine wp_loop_rounds 1 ?_
    rw [rounds_succ]
    go_wp2_with (go_at_call 107; refine (C.out _ (hi1.alloc _)).mono ?_; rintro e w2 ⟨rfl, hb2⟩; obtain ⟨d0, d1, d2, d3, _, _, _, _⟩ := b2.out.below hb2; obtain ⟨r0, r1, r2, r3, g0, g1, g2, g3⟩ := b1.out.below hb2)
    have hk12 := (hk1.alloc (.cells #[.int .i64 op, .int .i64 n, .string nm, .slice a len cap] 41)).trans (Kept.of_below (P := P) hb2)
    have hkk := ((Kept.refl P w1).alloc (.cells #[.int .i64 op, .int .i64 n, .string nm, .slice a len cap] 41)).trans (Kept.of_below (P := P) hb2)
    refine bodyPost_ret (v := .agg #[.int .i64 op, .int .i64 n, .string nm, .slice a len cap]) (by simp [results, Tryz.results58, go_sem, *]) rfl ⟨_, _, _, _, _, _, rfl, rfin_store _ _ _ _ (((Kept.refl P w).alloc _).trans hk12) hP (HA.out ▸ (hi1.alloc _).below hb2) (n := w.heap.size + 1) (by omega) (fun x hx => ?_) rfl⟩
    rw [HV.out] at hx
    refine ((hv1 x hx).kept hkk (fun g hg => ?_)).weak (fun g hg _ => ?_)
    · have : w.heap.size + 1 ≤ g := by simpa [From] using hg
      omega
    · simpa [From] using hg
  | some p =>
    obtain ⟨o, q1⟩ := p
    obtain ⟨q0, hr1⟩ : ∃ q0, after f st = .on q0 := by
      cases hs : after f st with
      | off r => rw [hs] at hat; cases hat
      | on r => exact ⟨r, rfl⟩
    rw [hr1] at hat
    simp only [St.see] at hat
    obtain ⟨ha, hv⟩ := cmp_some hr1 hat
    obtain ⟨t, rfl⟩ := opAt_cons hat
    have ho : (0 : Int) < o := by
      simp only [opAt] at hat
      split at hat
      · rename_i o2 h2
        obtain ⟨p, hp, hpe⟩ := lookup_mem h2
        cases hat
        have hall : ∀ p ∈ cmpOps, (0 : Int) < p.2 := by decide
        rw [← hpe]
        exact hall p hp
      · cases hat
    have hz : opVal cmpOps (.on (t :: q1)) = o := by simp [opVal, St.see, hat]
    have C := Lib.hid (fun w h => CB.out w P all (.on (t :: q1)) h)
    rw [hz] at C
    have hle : q1.length ≤ N := by
      have a1 := after_rem hf st he
      rw [hr1] at a1
      have a3 : (St.on (t :: q1)).rem.length = q1.length + 1 := rfl
      omega
    have HA := Lib.hid ha
    have HV := Lib.hid hv
    obtain ⟨z, hzz⟩ : ∃ z, z = opVal cmpOps (after f (.on q1)) := ⟨_, rfl⟩
    have C3 := Lib.hid (fun w h => CB.out w P all (after f (.on q1)) h)
    rw [← hzz] at C3
    have HR := Lib.hid hr1
    clear hat ha hv hz CB hzz hr1
    go_enter Tryz.func58, Tryz.ntmps58
    go_wp2_with (go_at_call 58; go_must (refine (HM.out _ P all st (H.out.alloc _) hN).mono ?_); rintro e w1 ⟨op, n, nm, a, len, cap, rfl, hk1, hi1, hv1⟩)
    have hz1 := hk1.size
    simp at hz1
    rw [HR.out] at hi1
    have b2 := Lib.hid (Box4.new w1 (.int .i64 op) (.int .i64 n) (.string nm) (.slice a len cap) 41)
    have hkr := hk1.alloc (.cells #[.int .i64 op, .int .i64 n, .string nm, .slice a len cap] 41)
    have b1 := Lib.hid ((Box4.new w (.int .i64 0) (.int .i64 0) (.string ⟨#[]⟩) (.slice none 0 0) 41).kept hkr (by omega))
    have hiR := hi1.alloc (.cells #[.int .i64 op, .int .i64 n, .string nm, .slice a len cap] 41)
    have hvR : ∀ x, val f st = some x → RdE (w1.alloc (.cells #[.int .i64 op, .int .i64 n, .string nm, .slice a len cap] 41)) (Free w.heap.size w1.heap.size) x (.agg #[.int .i64 op, .int .i64 n, .string nm, .slice a len cap]) := fun x hx =>
      ((hv1 x hx).weak (fun g hg hl2 => by
        have hg2 : w.heap.size + 1 ≤ g := by simpa [From] using hg
        exact ⟨by omega, by omega⟩)).below ((Below.refl _ _).alloc (Nat.le_refl _) _)
    obtain ⟨wr, hwr⟩ : ∃ wr, wr = w1.alloc (.cells #[.int .i64 op, .int .i64 n, .string nm, .slice a len cap] 41) := ⟨_, rfl⟩
    rw [← hwr] at b1 b2 hiR hvR hkr ⊢
    have hR1 : w.heap.size ≠ P := by omega
    have hB1 : w1.heap.size ≠ P := by omega
    clear hwr
    refine wp_loop_rounds 2 ?_
    rw [rounds_succ]
    go_wp2_with (first
      | (go_at_call 107; refine (C.out _ hiR).mono ?_; rintro e wA ⟨rfl, hbA⟩)
      | (go_at_call 107; refine (C.out _ (hiR.below hbA)).mono ?_; rintro e wB ⟨rfl, hbB⟩; have hbAB := hbA.trans (hbB.mono hbA.size); obtain ⟨vv, k, hat, c0, c1, c2, f1, f2, hk5⟩ := (hiR.below hbAB).front))
    have hiC := hat.on
    have hkC : Kept P wr (wB.setCell ⟨P, 1, none⟩ (.int .i64 ((k : Int) + 1))) := (Kept.of_below hbAB).setOwn 1 _
    obtain ⟨wC, hwC⟩ : ∃ wC, wC = wB.setCell ⟨P, 1, none⟩ (.int .i64 ((k : Int) + 1)) := ⟨_, rfl⟩
    rw [← hwC] at hiC hkC ⊢
    have bC2 := Lib.hid (b2.out.kept hkC hB1)
    obtain ⟨d0, d1, d2, d3, _, _, _, _⟩ := bC2.out
    clear c0 c1 c2 f1 f2 hat hwC
    go_region_with (first
      | (go_at_call 58; refine (HM.out _ P all (.on q1) ?_ hle).mono ?_; first | exact hiC | exact hiC.drew; rintro e w3 ⟨op3, n3, nm3, a3, len3, cap3, rfl, hk3, hi3, hv3⟩; have hzb := (bC2.out.kept (Kept.trans (Kept.of_below (Below.refl _ _).drew) hk3) hB1).lt; obtain ⟨e0, e1, e2, e3, k0, k1, k2, k3⟩ := bC2.out.kept (Kept.trans (Kept.of_below (Below.refl _ _).drew) hk3) hB1))
    all_goals
      obtain ⟨W, hW⟩ : ∃ W, W = ((((w3.setCell ⟨w1.heap.size, 0, none⟩ (.int .i64 o)).setCell ⟨w1.heap.size, 1, none⟩ (.int .i64 0)).setCell ⟨w1.heap.size, 2, none⟩ (.string ⟨#[]⟩)).setCell ⟨w1.heap.size, 3, none⟩ (.slice (some ⟨w3.heap.size, 0, none⟩) 2 2)).alloc
        (.cells #[.int .i64 op, .int .i64 n, .string nm, .slice a len cap, .int .i64 op3, .int .i64 n3, .string nm3, .slice a3 len3 cap3] 41) := ⟨_, rfl⟩
      obtain ⟨hkW, BR, BB, hiW, hvW⟩ := rmem_next hP (show w.heap.size < w1.heap.size by omega) rfl (((Kept.refl P w).alloc _).trans hkr) hkC (Kept.trans (Kept.of_below (Below.refl _ _).drew) hk3) b1.out b2.out hi3 hv3 hW
      rw [← hW]
      have bW1 := Lib.hid BR
      have bW2 := Lib.hid BB
      clear hW BR BB k0 k1 k2 k3 e0 e1 e2 e3 d0 d1 d2 d3
      go_wp2_with fail
      rw [rounds_succ]
      by_cases hz0 : 0 < z
      all_goals
        go_wp2_with (go_at_call 107; refine (C3.out _ hiW).mono ?_; rintro e w4 ⟨rfl, hb4⟩; obtain ⟨d0, d1, d2, d3, _, _, _, _⟩ := bW2.out.below hb4; obtain ⟨r0, r1, r2, r3, g0, g1, g2, g3⟩ := bW1.out.below hb4)
        refine bodyPost_ret (v := .agg #[.int .i64 o, .int .i64 0, .string ⟨#[]⟩, .slice (some ⟨w3.heap.size, 0, none⟩) 2 2]) (by simp [results, Tryz.results58, go_sem, *]) rfl ⟨_, _, _, _, _, _, rfl, rfin_store _ _ _ _ (hkW.trans (Kept.of_below hb4)) hP (HA.out ▸ hiW.below hb4) (n := w.heap.size + 1) (by omega) (fun x hx => ?_) rfl⟩
        obtain ⟨e, y, he, hy, rfl⟩ := HV.out x hx
        exact ((hvW e y (hvR e he) hy).below hb4).weak (fun g hg _ => hg.1)
end Go.Proofs.YthgicmdaenkjbaaGreatDoor

namespace Go.Proofs.YthgicmdaenkjbaaGreatDoor
open Go.RowKit
open Par

set_option maxHeartbeats 4000000 in
set_option maxRecDepth 100000 in
theorem runary_of (u : Pa E) (N : Nat) (hu : ∀ M, M < N → UM u M) (hp : QM (primary (exprP u)) N) : UM (unStep u) N := by
  intro w P all st h hN
  have hP := h.lt
  have H := Lib.hid h
  by_cases h1 : txt st.see = [45]
  · obtain ⟨t, r, rfl, ht⟩ := see_cons h1 (by simp)
    have C1 := Lib.hid (fun w h => ris_yes w P all t r ⟨#[45]⟩ h (.inr (by decide)) ht)
    have C2 := Lib.hid (fun w h => ris_no w P all (.on (t :: r)) ⟨#[33]⟩ h (by show t.2.1 ≠ [33]; rw [ht]; decide))
    have CU : Hid (∀ (w : World), RIs w P all (.on r) → Calls Tryz.prog 106 #[.pointer (some ⟨P, 0, none⟩)] w (PostR u P all (.on r) w)) :=
      Lib.hid fun w h => hu (N - 1) (by simp only [St.rem, List.length_cons] at hN; omega) w P all _ h (by simp only [St.rem, List.length_cons] at hN ⊢; omega)
    have HN := Lib.hid (un_minus (u := u) (r := r) ht)
    have HS := Lib.hid (after_signed u 4 (.on r))
    clear h1 ht h hN hu hp
    show Calls _ _ _ _ _
    go_enter Tryz.func106, Tryz.ntmps106
    go_wp2_with (first
      | (go_at_call 90; (with_reducible refine (C1.out _ (H.out.alloc _)).mono ?_); rintro e wA ⟨rfl, hbA⟩; have zA := hbA.size; simp at zA)
      | (go_at_call 90; (with_reducible refine (C2.out _ ((H.out.alloc _).below hbA)).mono ?_); rintro e wB ⟨rfl, hbB⟩; have hbAB := hbA.trans (hbB.mono hbA.size); obtain ⟨vv, k, hat, c0, c1, c2, f1, f2, hk5⟩ := ((H.out.alloc _).below hbAB).front; have hiC := hat.on; have hkC := (Kept.of_below (P := P) hbAB).setOwn 1 (.int .i64 ((k : Int) + 1)))
      | (go_at_call 106; refine (CU.out _ hiC).mono ?_; rintro e w2 ⟨op, n, nm, a, len, cap, rfl, hk2, hi2, hv2⟩; have s2 := hk2.size; simp at s2; obtain ⟨r0, r1, r2, r3, g0, g1, g2, g3, hz, hn1, hn2⟩ := Kept.new4 (hkC.trans hk2) hP))
    have zB := hbAB.size
    simp at zB
    have s2' := hk2.size
    simp [World.setCell] at s2'
    obtain ⟨⟨hkW, hiW⟩, hrd, hnew⟩ := rfin_build (n := w.heap.size + 1) (.int .i64 4) (.int .i64 0) (.string ⟨#[]⟩) (.slice (some ⟨w2.heap.size, 0, none⟩) 1 1) (cs := #[.int .i64 op, .int .i64 n, .string nm, .slice a len cap]) (t := 41)
      (((Kept.refl P w).alloc _).trans (hkC.trans hk2)) hP hi2 (by omega) rfl
    refine bodyPost_ret (v := .agg #[.int .i64 4, .int .i64 0, .string ⟨#[]⟩, .slice (some ⟨w2.heap.size, 0, none⟩) 1 1]) (by simp [results, Tryz.results106, go_sem, *]) rfl ⟨_, _, _, _, _, _, rfl, hkW, by rw [HN.out.1, HS.out.1]; exact hiW, fun x hx => ?_⟩
    rw [HN.out.2] at hx
    obtain ⟨e, he, rfl⟩ := HS.out.2 x hx
    exact ⟨_, _, rfl, .inr ⟨w2.heap.size, rfl, show w.heap.size ≤ w2.heap.size by omega, rdL_one (hnew 0 _ rfl) (hnew 1 _ rfl) (hnew 2 _ rfl) (hnew 3 _ rfl) (hrd _ _ ((hv2 e he).weak (from_weak (by simp [World.setCell]; omega))))⟩⟩
  · have C1 := Lib.hid (fun w h => ris_no w P all st ⟨#[45]⟩ h h1)
    by_cases h2 : txt st.see = [33]
    · obtain ⟨t, r, rfl, ht⟩ := see_cons h2 (by simp)
      have C2 := Lib.hid (fun w h => ris_yes w P all t r ⟨#[33]⟩ h (.inr (by decide)) ht)
      have CU : Hid (∀ (w : World), RIs w P all (.on r) → Calls Tryz.prog 106 #[.pointer (some ⟨P, 0, none⟩)] w (PostR u P all (.on r) w)) :=
        Lib.hid fun w h => hu (N - 1) (by simp only [St.rem, List.length_cons] at hN; omega) w P all _ h (by simp only [St.rem, List.length_cons] at hN ⊢; omega)
      have HN := Lib.hid (un_not (u := u) (r := r) ht)
      have HS := Lib.hid (after_signed u 5 (.on r))
      clear h1 h2 ht h hN hu hp
      show Calls _ _ _ _ _
      go_enter Tryz.func106, Tryz.ntmps106
      go_wp2_with (first
        | (go_at_call 90; (with_reducible refine (C1.out _ (H.out.alloc _)).mono ?_); rintro e wA ⟨rfl, hbA⟩; have zA := hbA.size; simp at zA)
        | (go_at_call 90; (with_reducible refine (C2.out _ ((H.out.alloc _).below hbA)).mono ?_); rintro e wB ⟨rfl, hbB⟩; have hbAB := hbA.trans (hbB.mono hbA.size); obtain ⟨vv, k, hat, c0, c1, c2, f1, f2, hk5⟩ := ((H.out.alloc _).below hbAB).front; have hiC := hat.on; have hkC := (Kept.of_below (P := P) hbAB).setOwn 1 (.int .i64 ((k : Int) + 1)))
        | (go_at_call 106; refine (CU.out _ hiC).mono ?_; rintro e w2 ⟨op, n, nm, a, len, cap, rfl, hk2, hi2, hv2⟩; have s2 := hk2.size; simp at s2; obtain ⟨r0, r1, r2, r3, g0, g1, g2, g3, hz, hn1, hn2⟩ := Kept.new4 (hkC.trans hk2) hP))
      have zB := hbAB.size
      simp at zB
      have s2' := hk2.size
      simp [World.setCell] at s2'
      obtain ⟨⟨hkW, hiW⟩, hrd, hnew⟩ := rfin_build (n := w.heap.size + 1) (.int .i64 5) (.int .i64 0) (.string ⟨#[]⟩) (.slice (some ⟨w2.heap.size, 0, none⟩) 1 1) (cs := #[.int .i64 op, .int .i64 n, .string nm, .slice a len cap]) (t := 41)
        (((Kept.refl P w).alloc _).trans (hkC.trans hk2)) hP hi2 (by omega) rfl
      refine bodyPost_ret (v := .agg #[.int .i64 5, .int .i64 0, .string ⟨#[]⟩, .slice (some ⟨w2.heap.size, 0, none⟩) 1 1]) (by simp [results, Tryz.results106, go_sem, *]) rfl ⟨_, _, _, _, _, _, rfl, hkW, by rw [HN.out.1, HS.out.1]; exact hiW, fun x hx => ?_⟩
      rw [HN.out.2] at hx
      obtain ⟨e, he, rfl⟩ := HS.out.2 x hx
      exact ⟨_, _, rfl, .inr ⟨w2.heap.size, rfl, show w.heap.size ≤ w2.heap.size by omega, rdL_one (hnew 0 _ rfl) (hnew 1 _ rfl) (hnew 2 _ rfl) (hnew 3 _ rfl) (hrd _ _ ((hv2 e he).weak (from_weak (by simp [World.setCell]; omega))))⟩⟩
    · have C2 := Lib.hid (fun w h => ris_no w P all st ⟨#[33]⟩ h h2)
      have CP : Hid (∀ (w : World), RIs w P all st → Calls Tryz.prog 153 #[.pointer (some ⟨P, 0, none⟩)] w (PostR (primary (exprP u)) P all st w)) :=
        Lib.hid fun w h => hp w P all _ h hN
      have HN := Lib.hid (un_prim (u := u) h1 h2)
      clear h1 h2 h hN hu hp
      show Calls _ _ _ _ _
      go_enter Tryz.func106, Tryz.ntmps106
      go_wp2_with (first
        | (go_at_call 90; (with_reducible refine (C1.out _ (H.out.alloc _)).mono ?_); rintro e wA ⟨rfl, hbA⟩; have zA := hbA.size; simp at zA)
        | (go_at_call 90; (with_reducible refine (C2.out _ ((H.out.alloc _).below hbA)).mono ?_); rintro e wB ⟨rfl, hbB⟩; have hbAB := hbA.trans (hbB.mono hbA.size))
        | (go_at_call 153; refine (CP.out _ ((H.out.alloc _).below hbAB)).mono ?_; rintro e w2 ⟨op, n, nm, a, len, cap, rfl, hk2, hi2, hv2⟩; obtain ⟨r0, r1, r2, r3, g0, g1, g2, g3, hz, hn1, hn2⟩ := Kept.new4 ((Kept.of_below (P := P) hbAB).trans hk2) hP))
      have zB := hbAB.size
      simp at zB
      exact bodyPost_ret (v := .agg #[.int .i64 op, .int .i64 n, .string nm, .slice a len cap]) (by simp [results, Tryz.results106, go_sem, *]) rfl ⟨_, _, _, _, _, _, rfl, rfin_store _ _ _ _ (((Kept.refl P w).alloc _).trans ((Kept.of_below (P := P) hbAB).trans hk2)) hP (by rw [HN.out.1]; exact hi2) (n := wB.heap.size) (by omega) (fun x hx => hv2 x (HN.out.2 ▸ hx)) rfl⟩

set_option maxHeartbeats 4000000 in
set_option maxRecDepth 100000 in
theorem rprimary_of (f : Pa E) (N : Nat) (hm : ∀ M, M < N → XM 1 f M) : QM (primary f) N := by
  intro w P all st h hN
  have hP := h.lt
  have H := Lib.hid h
  have hwf := h.wf
  by_cases hk2 : knd st.see = 2
  · obtain ⟨t, r, rfl⟩ : ∃ t r, st = .on (t :: r) := by
      match st, hk2 with
      | .off r, hk => simp [St.see, knd] at hk
      | .on [], hk => simp [St.see, knd] at hk
      | .on (t :: r), _ => exact ⟨t, r, rfl⟩
    have hk0 : t.1 = 2 := hk2
    have hW := (hwf t (by simp [St.rem])).word
    have h40 : txt (St.on (t :: r)).see ≠ [40] := fun e => by
      have e2 : t.2.1 = [40] := e
      rcases hW (.inr (by rw [e2]; decide)) with h | h <;> omega
    have C1 := Lib.hid (fun w h => rkind_any w P all (.on (t :: r)) h 2 true (by decide) (by rw [hk2]; rfl))
    have CN := Lib.hid (fun w h => rnumber_any w P all (.on (t :: r)) h)
    have HN := Lib.hid (prim_num (f := f) (st := .on (t :: r)) (by rw [hk2]; decide) h40)
    clear hk2 hk0 hW h40 h hm hN hwf
    show Calls _ _ _ _ _
    go_enter Tryz.func153, Tryz.ntmps153
    go_wp2_with (first
      | (go_at_call 93; refine (C1.out _ (H.out.alloc _)).mono ?_; rintro e wA ⟨rfl, hbA⟩; have zA := hbA.size; simp at zA)
      | (go_at_call 94; refine (CN.out _ ((H.out.alloc _).below hbA)).mono ?_; rintro e w2 ⟨rfl, hk2, hi2⟩; obtain ⟨r0, r1, r2, r3, g0, g1, g2, g3, hz, hn1, hn2⟩ := Kept.new4 ((Kept.of_below (P := P) hbA).trans hk2) hP))
    refine bodyPost_ret (v := .agg #[.int .i64 1, .int .i64 (numVal 0 (.on (t :: r))), .string ⟨#[]⟩, .slice none 0 0]) (by simp [results, Tryz.results153, go_sem, *]) rfl ⟨_, _, _, _, _, _, rfl, rfin_store _ _ _ _ (((Kept.refl P w).alloc _).trans ((Kept.of_below (P := P) hbA).trans hk2)) hP (by rw [HN.out.1]; exact hi2) (n := wA.heap.size) (by omega) (fun x hx => ?_) rfl⟩
    obtain rfl := HN.out.2 x hx
    exact ⟨_, _, rfl, .inl rfl⟩
  · have C1 := Lib.hid (fun w h => rkind_any w P all st h 2 false (by decide) (decide_eq_false (by omega)))
    by_cases ht : txt st.see = [40]
    · obtain ⟨t, r, rfl, ht2⟩ := see_cons ht (by simp)
      have hW := (hwf t (by simp [St.rem])).word (.inr (by rw [ht2]; decide))
      have hk1 : ¬ t.1 = 1 := by omega
      have CS := Lib.hid (fun w h => ris_yes w P all t r ⟨#[40]⟩ h (.inr (by decide)) ht2)
      have CE : Hid (∀ (w : World), RIs w P all (.on r) → Calls Tryz.prog 58 #[.pointer (some ⟨P, 0, none⟩), .int .i64 1] w (PostR f P all (.on r) w)) :=
        Lib.hid fun w h => hm (N - 1) (by simp only [St.rem, List.length_cons] at hN; omega) w P all _ h (by simp only [St.rem, List.length_cons] at hN ⊢; omega)
      have HN := Lib.hid (prim_paren (f := f) (t := t) (r := r) hk1 ht2)
      have HA := Lib.hid (after_closed f [41] (.on r))
      clear hk1 hW h hm hN ht ht2 hk2 hwf
      show Calls _ _ _ _ _
      go_enter Tryz.func153, Tryz.ntmps153
      go_wp2_with (first
        | (go_at_call 93; refine (C1.out _ (H.out.alloc _)).mono ?_; rintro e wA ⟨rfl, hbA⟩; have zA := hbA.size; simp at zA)
        | (go_at_call 90; refine (CS.out _ ((H.out.alloc _).below hbA)).mono ?_; rintro e wB ⟨rfl, hbB⟩; have hbAB := hbA.trans (hbB.mono hbA.size); obtain ⟨vv, k, hat, c0, c1, c2, f1, f2, hk5⟩ := ((H.out.alloc _).below hbAB).front; have hiC := hat.on; have hkC := (Kept.of_below (P := P) hbAB).setOwn 1 (.int .i64 ((k : Int) + 1)))
        | (go_at_call 58; refine (CE.out _ hiC).mono ?_; rintro e w3 ⟨op, n, nm, a, len, cap, rfl, hk3, hi3, hv3⟩; have s3 := hk3.size; simp [World.setCell] at s3)
        | (go_at_call 95; refine (rwant_any _ P all _ ⟨#[41]⟩ (hi3.alloc _) (.inr (by decide)) (by decide)).mono ?_; rintro e w4 ⟨rfl, hk4, hi4⟩; have zB := hbAB.size; simp at zB; obtain ⟨d0, d1, d2, d3, _, _, _, _, hzd, _, _⟩ := Kept.new4 hk4 (show P < w3.heap.size by omega); obtain ⟨r0, r1, r2, r3, g0, g1, g2, g3, hz, hn1, hn2⟩ := Kept.new4 ((hkC.trans hk3).trans (((Kept.refl P w3).alloc _).trans hk4)) hP))
      have hk34 := ((Kept.refl P w3).alloc (.cells #[.int .i64 op, .int .i64 n, .string nm, .slice a len cap] 41)).trans hk4
      refine bodyPost_ret (v := .agg #[.int .i64 op, .int .i64 n, .string nm, .slice a len cap]) (by simp [results, Tryz.results153, go_sem, *]) rfl ⟨_, _, _, _, _, _, rfl, rfin_store _ _ _ _ ((((Kept.refl P w).alloc _).trans (hkC.trans hk3)).trans hk34) hP (by rw [HN.out.1, HA.out]; exact hi4) (n := wB.heap.size) (by omega) (fun x hx => ?_) rfl⟩
      rw [HN.out.2] at hx
      exact ((hv3 x (val_closed hx)).weak (S' := From wB.heap.size) (fun g hg _ => by simpa [From, World.setCell] using hg)).kept hk34 (fun g hg => from_ne hg (by omega))
    · have CS := Lib.hid (fun w h => ris_no w P all st ⟨#[40]⟩ h ht)
      have CM := Lib.hid (fun w h => rname_any w P all st h)
      by_cases hk1 : knd st.see = 1
      · obtain ⟨t, r, rfl⟩ : ∃ t r, st = .on (t :: r) := by
          match st, hk1 with
          | .off r, hk => simp [St.see, knd] at hk
          | .on [], hk => simp [St.see, knd] at hk
          | .on (t :: r), _ => exact ⟨t, r, rfl⟩
        have e1 : nameTxt (.on (t :: r)) = t.2.1 := by unfold nameTxt; rw [if_pos hk1]; rfl
        have e2 : nameSt (.on (t :: r)) = .on r := by simp only [St.see] at hk1; simp [nameSt, hk1]
        rw [e1, e2] at CM
        have HP := Lib.hid (prim_name (f := f) (t := t) (r := r) hk1)
        by_cases hb : txt r = [91]
        · obtain ⟨t2, r2, rfl, ht2⟩ : ∃ t2 r2, r = t2 :: r2 ∧ t2.2.1 = [91] := by
            match r, hb with
            | [], hb => cases hb
            | t2 :: r2, hb => exact ⟨t2, r2, rfl, hb⟩
          have CB := Lib.hid (fun w h => ris_yes w P all t2 r2 ⟨#[91]⟩ h (.inr (by decide)) ht2)
          have CE : Hid (∀ (w : World), RIs w P all (.on r2) → Calls Tryz.prog 58 #[.pointer (some ⟨P, 0, none⟩), .int .i64 1] w (PostR f P all (.on r2) w)) :=
            Lib.hid fun w h => hm (N - 2) (by simp only [St.rem, List.length_cons] at hN; omega) w P all _ h (by simp only [St.rem, List.length_cons] at hN ⊢; omega)
          have HN := Lib.hid (named_yes (f := f) (t := t) (r2 := r2) ht2)
          have HA := Lib.hid (after_closed f [93] (.on r2))
          clear hk1 e1 e2 hb ht2 h hm hN ht hk2 hwf
          show Calls _ _ _ _ _
          go_enter Tryz.func153, Tryz.ntmps153
          go_wp2_with (first
            | (go_at_call 93; refine (C1.out _ (H.out.alloc _)).mono ?_; rintro e wA ⟨rfl, hbA⟩; have zA := hbA.size; simp at zA)
            | (go_at_call 90; (with_reducible refine (CS.out _ ((H.out.alloc _).below hbA)).mono ?_); rintro e wB ⟨rfl, hbB⟩; have hbAB := hbA.trans (hbB.mono hbA.size); have zB := hbAB.size; simp at zB)
            | (go_at_call 92; refine (CM.out _ ((H.out.alloc _).below hbAB)).mono ?_; rintro e wC ⟨rfl, hkc, hic⟩; have zC := hkc.size)
            | (go_at_call 90; (with_reducible refine (CB.out _ hic).mono ?_); rintro e wD ⟨rfl, hbD⟩; obtain ⟨vv, k, hat, c0, c1, c2, f1, f2, hk5⟩ := (hic.below hbD).front; have hiC := hat.on; have hkC := ((Kept.of_below (P := P) hbAB).trans (hkc.trans (Kept.of_below hbD))).setOwn 1 (.int .i64 ((k : Int) + 1)); have zD := hbD.size)
            | (go_at_call 58; refine (CE.out _ hiC).mono ?_; rintro e w3 ⟨op, n, nm, a, len, cap, rfl, hk3, hi3, hv3⟩; have s3 := hk3.size; simp [World.setCell] at s3)
            | (go_at_call 95; refine (rwant_any _ P all _ ⟨#[93]⟩ (hi3.alloc _) (.inr (by decide)) (by decide)).mono ?_; rintro e w4 ⟨rfl, hk4, hi4⟩; have s4 := hk4.size; simp at s4; obtain ⟨d0, d1, d2, d3, _, _, _, _, hzd, _, _⟩ := Kept.new4 hk4 (show P < w3.heap.size by omega); obtain ⟨r0, r1, r2, r3, g0, g1, g2, g3, hz, hn1, hn2⟩ := Kept.new4 ((hkC.trans hk3).trans (((Kept.refl P w3).alloc _).trans hk4)) hP))
          have hk34 := ((Kept.refl P w3).alloc (.cells #[.int .i64 op, .int .i64 n, .string nm, .slice a len cap] 41)).trans hk4
          obtain ⟨⟨hkW, hiW⟩, hrd, hnew⟩ := rfin_build (n := w.heap.size + 1) (.int .i64 3) (.int .i64 0) (.string ⟨t.2.1.toArray⟩) (.slice (some ⟨w4.heap.size, 0, none⟩) 1 1) (cs := #[.int .i64 op, .int .i64 n, .string nm, .slice a len cap]) (t := 41)
            ((((Kept.refl P w).alloc _).trans (hkC.trans hk3)).trans hk34) hP hi4 (by omega) rfl
          refine bodyPost_ret (v := .agg #[.int .i64 3, .int .i64 0, .string ⟨t.2.1.toArray⟩, .slice (some ⟨w4.heap.size, 0, none⟩) 1 1]) (by simp [results, Tryz.results153, go_sem, *]) rfl ⟨_, _, _, _, _, _, rfl, hkW, by rw [HP.out.1, HN.out.1, HA.out]; exact hiW, fun x hx => ?_⟩
          rw [HP.out.2] at hx
          obtain ⟨e, he, rfl⟩ := HN.out.2 x hx
          have hr := ((hv3 e (val_closed he)).weak (S' := From (w.heap.size + 1)) (fun g hg _ => by have : wD.heap.size ≤ g := by simpa [From, World.setCell] using hg
                                                                                                    exact (show w.heap.size + 1 ≤ g by omega))).kept hk34 (fun g hg => from_ne hg (by omega))
          exact ⟨_, _, rfl, .inr ⟨w4.heap.size, rfl, show w.heap.size ≤ w4.heap.size by omega, rdL_one (hnew 0 _ rfl) (hnew 1 _ rfl) (hnew 2 _ rfl) (hnew 3 _ rfl) (hrd _ _ hr)⟩⟩
        · have CB := Lib.hid (fun w h => ris_no w P all (.on r) ⟨#[91]⟩ h hb)
          have HN := Lib.hid (named_no (f := f) (t := t) hb)
          clear hk1 e1 e2 hb h hm hN ht hk2 hwf
          show Calls _ _ _ _ _
          go_enter Tryz.func153, Tryz.ntmps153
          go_wp2_with (first
            | (go_at_call 93; refine (C1.out _ (H.out.alloc _)).mono ?_; rintro e wA ⟨rfl, hbA⟩; have zA := hbA.size; simp at zA)
            | (go_at_call 90; (with_reducible refine (CS.out _ ((H.out.alloc _).below hbA)).mono ?_); rintro e wB ⟨rfl, hbB⟩; have hbAB := hbA.trans (hbB.mono hbA.size); have zB := hbAB.size; simp at zB)
            | (go_at_call 92; refine (CM.out _ ((H.out.alloc _).below hbAB)).mono ?_; rintro e wC ⟨rfl, hkc, hic⟩; have zC := hkc.size)
            | (go_at_call 90; (with_reducible refine (CB.out _ hic).mono ?_); rintro e wD ⟨rfl, hbD⟩; have hkC := (Kept.of_below (P := P) hbAB).trans (hkc.trans (Kept.of_below hbD)); have zD := hbD.size; obtain ⟨r0, r1, r2, r3, g0, g1, g2, g3, hz, hn1, hn2⟩ := Kept.new4 hkC hP))
          refine bodyPost_ret (v := .agg #[.int .i64 2, .int .i64 0, .string ⟨t.2.1.toArray⟩, .slice none 0 0]) (by simp [results, Tryz.results153, go_sem, *]) rfl ⟨_, _, _, _, _, _, rfl, rfin_store _ _ _ _ (((Kept.refl P w).alloc _).trans hkC) hP (by rw [HP.out.1, HN.out.1]; exact hic.below hbD) (n := wB.heap.size) (by omega) (fun x hx => ?_) rfl⟩
          rw [HP.out.2, HN.out.2] at hx
          cases hx
          exact ⟨_, _, rfl, .inl rfl⟩
      · have e1 : nameTxt st = [] := if_neg hk1
        have e2 : nameSt st = .off st.rem := by
          cases st with
          | off r => rfl
          | on r => exact if_neg hk1
        rw [e1, e2] at CM
        have CB := Lib.hid (fun w h => ris_no w P all (.off st.rem) ⟨#[91]⟩ h (show ([] : Tok.Bs) ≠ [91] by decide))
        have HN := Lib.hid (prim_num (f := f) hk1 ht)
        have HE := Lib.hid (after_num_no (l := 0) (st := st) (fun hh => hk2 hh.1))
        have HV : Hid (∀ x, val (primary f) st = some x → False) := Lib.hid (fun x hx => by
          cases st with
          | off r => cases hx
          | on r =>
            simp only [St.see] at hk1 hk2 ht
            have e : primary f r = .error r := by simp [primary, hk1, ht, number, hk2]
            simp [val, e] at hx)
        clear hk1 e1 e2 h hm hN ht hk2 hwf
        show Calls _ _ _ _ _
        go_enter Tryz.func153, Tryz.ntmps153
        go_wp2_with (first
          | (go_at_call 93; refine (C1.out _ (H.out.alloc _)).mono ?_; rintro e wA ⟨rfl, hbA⟩; have zA := hbA.size; simp at zA)
          | (go_at_call 90; (with_reducible refine (CS.out _ ((H.out.alloc _).below hbA)).mono ?_); rintro e wB ⟨rfl, hbB⟩; have hbAB := hbA.trans (hbB.mono hbA.size); have zB := hbAB.size; simp at zB)
          | (go_at_call 92; refine (CM.out _ ((H.out.alloc _).below hbAB)).mono ?_; rintro e wC ⟨rfl, hkc, hic⟩; have zC := hkc.size)
          | (go_at_call 90; (with_reducible refine (CB.out _ hic).mono ?_); rintro e wD ⟨rfl, hbD⟩; have hkC := (Kept.of_below (P := P) hbAB).trans (hkc.trans (Kept.of_below hbD)); have zD := hbD.size; obtain ⟨r0, r1, r2, r3, g0, g1, g2, g3, hz, hn1, hn2⟩ := Kept.new4 hkC hP))
        refine bodyPost_ret (v := .agg #[.int .i64 2, .int .i64 0, .string ⟨#[]⟩, .slice none 0 0]) (by simp [results, Tryz.results153, go_sem, *]) rfl ⟨_, _, _, _, _, _, rfl, rfin_store _ _ _ _ (((Kept.refl P w).alloc _).trans hkC) hP (by rw [HN.out.1, HE.out.1]; exact hic.below hbD) (n := wB.heap.size) (by omega) (fun x hx => (HV.out x hx).elim) rfl⟩

namespace Par
theorem rexpr_up {u : Pa E} {N : Nat} (hl : Lt u) (he : Er u) (hu : UM u N) : XM 1 (exprP u) N := by
  have p6 := rtop_of u N hu
  have p5 := rseries_of 5 (by decide) (by decide) (by decide) u N hl he p6 (by decide)
  have p4 := rseries_of 4 (by decide) (by decide) (by decide) _ N (series_lt hl) (series_er hl he) p5 (by decide)
  have p3 := rcmp_of _ N (series_lt (series_lt hl)) (series_er (series_lt hl) (series_er hl he)) p4
  have l3 := cmp_lt (series_lt (ops := sumOps) (series_lt (ops := mulOps) hl))
  have e3 := cmp_er (series_lt (ops := sumOps) (series_lt (ops := mulOps) hl)) (series_er (ops := sumOps) (series_lt (ops := mulOps) hl) (series_er (ops := mulOps) hl he))
  have p2 := rseries_of 2 (by decide) (by decide) (by decide) _ N l3 e3 p3 (by decide)
  exact rseries_of 1 (by decide) (by decide) (by decide) _ N (series_lt l3) (series_er l3 e3) p2 (by decide)
theorem runary_all : ∀ N, UM (unaryF (N + 1)) N
  | 0 => by
    rw [unaryF_succ]
    exact runary_of _ 0 (fun M h => absurd h (by omega)) (rprimary_of _ 0 (fun M h => absurd h (by omega)))
  | N + 1 => by
    have ih := runary_all N
    rw [unaryF_succ]
    exact runary_of _ (N + 1) (fun M h => ih.mono (by omega)) (rprimary_of _ (N + 1) (fun M h => (rexpr_up (unaryF_lt _) (unaryF_er _) ih).mono (by omega)))
theorem rexpr_all (N : Nat) : XM 1 (exprP (unaryF (N + 1))) N := rexpr_up (unaryF_lt _) (unaryF_er _) (runary_all N)
end Par
end Go.Proofs.YthgicmdaenkjbaaGreatDoor
