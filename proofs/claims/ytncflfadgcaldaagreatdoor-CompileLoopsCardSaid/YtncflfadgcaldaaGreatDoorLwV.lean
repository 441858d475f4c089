/-
  Package check: a program.
  The laws' programs with given bodies, and what Program says of them.
  What the rows' conditions say of the variables of strconv and of package parse's table.
-/
import Derived.Test.YtncflfadgcaldaaGreatDoorCkX
import Derived.Test.YtncflfadgcaldaaGreatDoorCkH
import Derived.Test.YtncflfadgcaldaaGreatDoorShT
import Derived.Test.YtncflfadgcaldaaGreatDoorPstR
import Derived.Test.YtncflfadgcaldaaGreatDoorShR
import Derived.Lib.LaidTab
import Derived.Test.YtncflfadgcaldaaGreatDoorCards
import Derived.Test.YtncflfadgcaldaaGreatDoorTie
import Derived.ProofKit
import Derived.LaidMore
import Derived.OpenShut
import Derived.Stop.Joined
import Derived.Below
import Derived.ChangeSame
import Derived.Carry
namespace Go.Proofs.YtncflfadgcaldaaGreatDoor
open Go.RowKit
open Par Tok

namespace Ck
mutual
theorem countS_eq : ∀ (x : Sm) (c : Nat), countS x c ≤ 60 → countS x c = c + szM x
  | .mk _ _ _ _ _ _ body els, c, h => by
    simp only [countS] at h ⊢
    have h1 := countL_ge els (countL body (c + 1))
    have e1 := countL_eq body (c + 1) (by omega)
    have e2 := countL_eq els _ h
    simp only [szM]
    omega
theorem countL_eq : ∀ (l : List Sm) (c : Nat), countL l c ≤ 60 → countL l c = c + szML l
  | [], c, _ => rfl
  | x :: r, c, h => by
    by_cases hc : c ≤ 60
    · simp only [countL, if_pos hc] at h ⊢
      have h1 := countL_ge r (countS x c)
      have e1 := countS_eq x c (by omega)
      have e2 := countL_eq r _ h
      simp only [szML]
      omega
    · simp only [countL, if_neg hc] at h
      omega
end
theorem countP_ge : ∀ (l : List Th) (c : Nat), c ≤ countP l c
  | [], c => Nat.le_refl _
  | t :: r, c => by
    simp only [countP]
    exact Nat.le_trans (countL_ge t.body c) (countP_ge r _)
theorem countP_eq : ∀ (l : List Th) (c : Nat), countP l c ≤ 60 → countP l c = c + szT l
  | [], c, _ => rfl
  | t :: r, c, h => by
    simp only [countP] at h ⊢
    have h1 := countP_ge r (countL t.body c)
    have e1 := countL_eq t.body c (by omega)
    have e2 := countP_eq r _ h
    simp only [szT]
    omega
theorem len_szML : ∀ l : List Sm, l.length ≤ szML l
  | [] => Nat.le_refl _
  | .mk _ _ _ _ _ _ body els :: r => by
    have := len_szML r
    simp only [szML, szM, List.length_cons]
    omega
mutual
theorem ok_of_shE : ∀ e : E, shE e = true → e.ok
  | .mk op n nm l, h => by
    simp only [shE, fitN, Bool.and_eq_true, decide_eq_true_eq] at h
    obtain ⟨⟨⟨⟨⟨_, _⟩, ha⟩, _⟩, _⟩, hl⟩ := h
    refine ⟨?_, ok_of_shL l hl⟩
    have h2 : arity op ≤ 2 := by
      unfold arity
      repeat' split
      all_goals omega
    omega
theorem ok_of_shL : ∀ l : List E, shL l = true → okL l
  | [], _ => trivial
  | e :: r, h => by
    simp only [shL, Bool.and_eq_true] at h
    exact ⟨ok_of_shE e h.1, ok_of_shL r h.2⟩
end
mutual
theorem wk_of : ∀ x : Sm, shS x = true → x.nok → szM x ≤ 60 → Sm.wk x
  | .mk op line name arg ix ex body els, h, hn, hz => by
    simp only [shS, fitSm, Bool.and_eq_true, Bool.or_eq_true, decide_eq_true_eq] at h
    obtain ⟨⟨⟨⟨⟨⟨⟨⟨⟨_, _⟩, _⟩, _⟩, hix⟩, hex⟩, _⟩, _⟩, hb⟩, he⟩ := h
    obtain ⟨hn1, _, _, _, _, _, hn7, hn8⟩ := hn
    simp only [szM] at hz
    have lb := len_szML body
    have le := len_szML els
    refine ⟨?_, fun i hi => ?_, fun _ => ?_, hn1, by omega, by omega, wkL_of body hb hn7 (by omega), wkL_of els he hn8 (by omega)⟩
    · by_cases hf : fl op 3 = true
      · rw [if_pos hf] at hex
        exact ok_of_shE ex hex
      · rw [if_neg hf] at hex
        rw [isZero_eq hex]
        exact ⟨by simp, trivial⟩
    · rcases hix with hix | hix
      · rw [List.isEmpty_iff.1 hix] at hi
        exact absurd hi (by simp)
      · exact ok_of_shE i ((shL_all ix).1 hix.2 i hi)
    · rcases hix with hix | hix
      · rw [List.isEmpty_iff.1 hix]
        simp
      · exact Nat.le_of_eq hix.1.2
theorem wkL_of : ∀ l : List Sm, shSs l = true → nokS l → szML l ≤ 60 → wkL l
  | [], _, _, _ => trivial
  | x :: r, h, hn, hz => by
    simp only [shSs, Bool.and_eq_true] at h
    simp only [szML] at hz
    exact ⟨wk_of x h.1 hn.1 (by omega), wkL_of r h.2 hn.2 (by omega)⟩
end
theorem localsE_zero : ∀ (ds : List Dc) (ts l : List Th), (localsE ds ts l).1 = 0 → ∀ t ∈ l, t.locals.length ≤ 4
  | _, _, [], _, _, h => absurd h (by simp)
  | ds, ts, x :: r, h, t, ht => by
    simp only [localsE] at h
    split at h
    · simp at h
    · rename_i hx
      split at h
      · simp at h
      · rcases List.mem_cons.1 ht with rfl | ht
        · omega
        · exact localsE_zero ds ts r h t ht
theorem SlD.ds {w : World} {S : Nat → Prop} {ds : List Dc} {v : Value} (h : SlD w S ds v) : DsAt w v ds := by
  by_cases h0 : ds.length = 0
  · obtain ⟨a, cap, rfl, hl⟩ := h
    rcases hl with rfl | ⟨_, _, _, _, hcp⟩
    · exact ⟨a, _, rfl, by simp, fun k hk => absurd hk (by simp)⟩
    · exact ⟨a, cap, rfl, hcp, fun k hk => absurd hk (by omega)⟩
  · obtain ⟨g, cap, hv, hcp, _⟩ := SlD.at_ h 0 (by omega)
    refine ⟨some ⟨g, 0, none⟩, cap, hv, hcp, fun k hk => ?_⟩
    obtain ⟨g2, cap2, hv2, _, hg, q0, q1, q2, q3, q4, q5⟩ := SlD.at_ h k hk
    rw [hv] at hv2
    injection hv2 with e1 _ _
    injection e1 with e1
    injection e1 with e1
    subst e1
    exact ⟨g, rfl, hg, q0, q1, q2, q3, q4, q5⟩
theorem SlT.ts {w : World} {S : Nat → Prop} {ts : List Th} {v : Value} (h : SlT w S ts v) : TsAt w v ts := by
  by_cases h0 : ts.length = 0
  · obtain ⟨a, cap, rfl, hl⟩ := h
    rcases hl with rfl | ⟨_, _, _, _, _, _, hcp⟩
    · exact ⟨a, _, rfl, by simp, fun k hk => absurd hk (by simp)⟩
    · exact ⟨a, cap, rfl, hcp, fun k hk => absurd hk (by omega)⟩
  · obtain ⟨g, cap, _, _, hv, hcp, _⟩ := SlT.at_ h 0 (by omega)
    refine ⟨some ⟨g, 0, none⟩, cap, hv, hcp, fun k hk => ?_⟩
    obtain ⟨g2, cap2, v2, v3, hv2, _, hg, q0, q1, q2, q3, ⟨a2, c2, hw2, _⟩, ⟨a3, c3, hw3, _⟩⟩ := SlT.at_ h k hk
    rw [hv] at hv2
    injection hv2 with e1 _ _
    injection e1 with e1
    injection e1 with e1
    subst e1
    subst hw2 hw3
    exact ⟨g, _, _, _, _, _, _, rfl, hg, q0, q1, q2, q3⟩
theorem szT_get : ∀ (l : List Th) (k : Nat) (h : k < l.length), szML l[k].body ≤ szT l
  | [], k, h => absurd h (by simp)
  | x :: r, 0, _ => by simp only [szT, List.getElem_cons_zero]; omega
  | x :: r, k + 1, h => by
    have := szT_get r k (by simpa using h)
    simp only [szT, List.getElem_cons_succ]
    omega
/-- What a rule says of the program in v, in every world behind w. -/
abbrev Told (f : FuncId) (v : Value) (w : World) (a : Nat × Nat) : Prop := ∀ W, Below w.heap.size w W → Calls Tryz.prog f #[v] W fun x w' => x = .returned (.tuple #[.int .i64 (a.1 : Nat), .int .i64 (a.2 : Nat)]) ∧ Below W.heap.size W w'

set_option maxHeartbeats 8000000 in
set_option maxRecDepth 100000 in
theorem program_of (w : World) (a0 a1 : Option Addr) (l0 c0 l1 c1 : Nat) (r0 r1 r2 r3 r4 r5 : Nat × Nat)
    (hS : ∀ W, Below w.heap.size w W → Calls Tryz.prog 17 #[.agg #[.slice a0 l0 c0, .slice a1 l1 c1]] W fun e w' => e = .returned (.bool true) ∧ Below W.heap.size W w')
    (h0 : Told 18 (.agg #[.slice a0 l0 c0, .slice a1 l1 c1]) w r0)
    (h1 : Told 19 (.agg #[.slice a0 l0 c0, .slice a1 l1 c1]) w r1)
    (h2 : Told 20 (.agg #[.slice a0 l0 c0, .slice a1 l1 c1]) w r2)
    (h3 : Told 21 (.agg #[.slice a0 l0 c0, .slice a1 l1 c1]) w r3)
    (h4 : Told 22 (.agg #[.slice a0 l0 c0, .slice a1 l1 c1]) w r4)
    (h5 : (r3.1 = 0) → (r4.1 = 0) → Told 23 (.agg #[.slice a0 l0 c0, .slice a1 l1 c1]) w r5) :
    Calls Tryz.prog 8 #[.agg #[.slice a0 l0 c0, .slice a1 l1 c1]] w fun x w' => x = .returned (.tuple #[.int .i64 ((orE r0 (orE r1 (orE r2 (orE r3 (orE r4 (orE r5 (0, 0))))))).1 : Nat), .int .i64 ((orE r0 (orE r1 (orE r2 (orE r3 (orE r4 (orE r5 (0, 0))))))).2 : Nat)]) ∧ Below w.heap.size w w' := by
  have HS := Lib.hid hS
  have H0 := Lib.hid h0
  have H1 := Lib.hid h1
  have H2 := Lib.hid h2
  have H3 := Lib.hid h3
  have H4 := Lib.hid h4
  have H5 := Lib.hid h5
  obtain ⟨R, hR⟩ : ∃ R, orE r0 (orE r1 (orE r2 (orE r3 (orE r4 (orE r5 (0, 0)))))) = R := ⟨_, rfl⟩
  rw [hR]
  obtain ⟨R1, R2⟩ := R
  have HR := Lib.hid hR
  clear hS h0 h1 h2 h3 h4 h5 hR
  go_enter Tryz.func8, Tryz.ntmps8
  go_wp2_with (go_at_call 17; (with_reducible refine (HS.out _ ?_).mono ?_); exact (Below.refl _ w).alloc (Nat.le_refl _) _; rintro e w1 ⟨rfl, hb⟩)
  obtain ⟨wb, hwb⟩ : ∃ x, x = w1.alloc (.cells #[.func (.func 18) #[] #[], .func (.func 19) #[] #[], .func (.func 20) #[] #[], .func (.func 21) #[] #[], .func (.func 22) #[] #[], .func (.func 23) #[] #[]] 52) := ⟨_, rfl⟩
  have hsz := hb.size
  simp at hsz
  have hbw : Below w.heap.size w wb := by
    rw [hwb]
    exact (((Below.refl _ w).alloc (Nat.le_refl _) _).trans (hb.mono (by simp))).alloc (by omega) _
  have B0 : Hid (wb.cell? ⟨w.heap.size, 0, none⟩ = some (.slice a0 l0 c0)) := Lib.hid (by
    rw [hwb, Below.cell ((Below.refl w1.heap.size w1).alloc (Nat.le_refl _) _) (p := ⟨w.heap.size, 0, none⟩) (by show w.heap.size < _; omega), hb.cell (p := ⟨w.heap.size, 0, none⟩) (by simp)]
    simp)
  have B1 : Hid (wb.cell? ⟨w.heap.size, 1, none⟩ = some (.slice a1 l1 c1)) := Lib.hid (by
    rw [hwb, Below.cell ((Below.refl w1.heap.size w1).alloc (Nat.le_refl _) _) (p := ⟨w.heap.size, 1, none⟩) (by show w.heap.size < _; omega), hb.cell (p := ⟨w.heap.size, 1, none⟩) (by simp)]
    simp)
  have F0 : Hid (wb.cell? ⟨w1.heap.size, 0, none⟩ = some (.func (.func 18) #[] #[])) := Lib.hid (by rw [hwb]; simp)
  have F1 : Hid (wb.cell? ⟨w1.heap.size, 1, none⟩ = some (.func (.func 19) #[] #[])) := Lib.hid (by rw [hwb]; simp)
  have F2 : Hid (wb.cell? ⟨w1.heap.size, 2, none⟩ = some (.func (.func 20) #[] #[])) := Lib.hid (by rw [hwb]; simp)
  have F3 : Hid (wb.cell? ⟨w1.heap.size, 3, none⟩ = some (.func (.func 21) #[] #[])) := Lib.hid (by rw [hwb]; simp)
  have F4 : Hid (wb.cell? ⟨w1.heap.size, 4, none⟩ = some (.func (.func 22) #[] #[])) := Lib.hid (by rw [hwb]; simp)
  have F5 : Hid (wb.cell? ⟨w1.heap.size, 5, none⟩ = some (.func (.func 23) #[] #[])) := Lib.hid (by rw [hwb]; simp)
  have HBW := Lib.hid hbw
  have hlb : w.heap.size < wb.heap.size := block_lt_of_cell B0.out
  have hlf : w1.heap.size < wb.heap.size := block_lt_of_cell F0.out
  rw [← hwb]
  clear hwb hb hsz hbw
  go_loopw [15] (fun i wr => ∃ k : Nat, k ≤ 6 ∧ i = .int .i64 k ∧ Below wb.heap.size wb wr ∧ (0 < k → r0.1 = 0) ∧ (1 < k → r1.1 = 0) ∧ (2 < k → r2.1 = 0) ∧ (3 < k → r3.1 = 0) ∧ (4 < k → r4.1 = 0) ∧ (5 < k → r5.1 = 0)) (fun i _ => 6 - (intOf i).toNat)
  case atStart => exact ⟨0, by omega, by first | rfl | trivial, Below.refl _ _, by omega, by omega, by omega, by omega, by omega, by omega⟩
  case round =>
    obtain ⟨k, hk, rfl, hbel, z0, z1, z2, z3, z4, z5⟩ := hrel
    have HBL := Lib.hid hbel
    have b0 := (hbel.cell (p := ⟨w.heap.size, 0, none⟩) hlb).trans B0.out
    have b1 := (hbel.cell (p := ⟨w.heap.size, 1, none⟩) hlb).trans B1.out
    have f0 := (hbel.cell (p := ⟨w1.heap.size, 0, none⟩) hlf).trans F0.out
    have f1 := (hbel.cell (p := ⟨w1.heap.size, 1, none⟩) hlf).trans F1.out
    have f2 := (hbel.cell (p := ⟨w1.heap.size, 2, none⟩) hlf).trans F2.out
    have f3 := (hbel.cell (p := ⟨w1.heap.size, 3, none⟩) hlf).trans F3.out
    have f4 := (hbel.cell (p := ⟨w1.heap.size, 4, none⟩) hlf).trans F4.out
    have f5 := (hbel.cell (p := ⟨w1.heap.size, 5, none⟩) hlf).trans F5.out
    have HBX := Lib.hid (HBW.out.trans (hbel.mono HBW.out.size))
    clear hbel
    by_cases hk0 : k = 0
    · subst hk0
      have HC := Lib.hid H0.out
      have HZ := Lib.hid (show orE r0 (orE r1 (orE r2 (orE r3 (orE r4 (orE r5 (0, 0)))))) = (R1, R2) by
        have := HR.out
        simpa only [orE, if_true] using this)
      obtain ⟨e, ln⟩ := r0
      clear z0 z1 z2 z3 z4 z5
      by_cases h0 : e = 0
      · subst h0
        go_wp2_with (go_at_call 18; (with_reducible refine (HC.out _ HBX.out).mono ?_); rintro x w4 ⟨rfl, hb4⟩)
        go_roundw
        case rel => exact ⟨1, by omega, by go_num, HBL.out.trans (hb4.mono HBL.out.size), fun _ => by first | rfl | trivial, by omega, by omega, by omega, by omega, by omega⟩
        case measure => simp [intOf]
      · have h0i : ¬ ((e : Nat) : Int) = 0 := by omega
        have HZ2 := Lib.hid (show (e, ln) = (R1, R2) by have := HZ.out; rwa [orE, if_neg h0] at this)
        go_wp2_with (go_at_call 18; (with_reducible refine (HC.out _ HBX.out).mono ?_); rintro x w4 ⟨rfl, hb4⟩)
        have hrr := HZ2.out
        injection hrr with hr1 hr2
        refine bodyPost_ret (v := .tuple #[.int .i64 (e : Nat), .int .i64 (ln : Nat)]) (by simp [results, Tryz.results8, go_sem]) rfl ⟨by rw [← hr1, ← hr2], ?_⟩
        exact HBX.out.trans (hb4.mono HBX.out.size)
    by_cases hk1 : k = 1
    · subst hk1
      have y0 := z0 (by omega)
      have K0 := Lib.hid y0
      have HC := Lib.hid H1.out
      have HZ := Lib.hid (show orE r1 (orE r2 (orE r3 (orE r4 (orE r5 (0, 0))))) = (R1, R2) by
        have := HR.out
        simpa only [orE, y0, if_true] using this)
      obtain ⟨e, ln⟩ := r1
      clear z0 z1 z2 z3 z4 z5 y0
      by_cases h0 : e = 0
      · subst h0
        go_wp2_with (go_at_call 19; (with_reducible refine (HC.out _ HBX.out).mono ?_); rintro x w4 ⟨rfl, hb4⟩)
        go_roundw
        case rel => exact ⟨2, by omega, by go_num, HBL.out.trans (hb4.mono HBL.out.size), by intro _; exact K0.out, fun _ => by first | rfl | trivial, by omega, by omega, by omega, by omega⟩
        case measure => simp [intOf]
      · have h0i : ¬ ((e : Nat) : Int) = 0 := by omega
        have HZ2 := Lib.hid (show (e, ln) = (R1, R2) by have := HZ.out; rwa [orE, if_neg h0] at this)
        go_wp2_with (go_at_call 19; (with_reducible refine (HC.out _ HBX.out).mono ?_); rintro x w4 ⟨rfl, hb4⟩)
        have hrr := HZ2.out
        injection hrr with hr1 hr2
        refine bodyPost_ret (v := .tuple #[.int .i64 (e : Nat), .int .i64 (ln : Nat)]) (by simp [results, Tryz.results8, go_sem]) rfl ⟨by rw [← hr1, ← hr2], ?_⟩
        exact HBX.out.trans (hb4.mono HBX.out.size)
    by_cases hk2 : k = 2
    · subst hk2
      have y0 := z0 (by omega)
      have K0 := Lib.hid y0
      have y1 := z1 (by omega)
      have K1 := Lib.hid y1
      have HC := Lib.hid H2.out
      have HZ := Lib.hid (show orE r2 (orE r3 (orE r4 (orE r5 (0, 0)))) = (R1, R2) by
        have := HR.out
        simpa only [orE, y0, y1, if_true] using this)
      obtain ⟨e, ln⟩ := r2
      clear z0 z1 z2 z3 z4 z5 y0 y1
      by_cases h0 : e = 0
      · subst h0
        go_wp2_with (go_at_call 20; (with_reducible refine (HC.out _ HBX.out).mono ?_); rintro x w4 ⟨rfl, hb4⟩)
        go_roundw
        case rel => exact ⟨3, by omega, by go_num, HBL.out.trans (hb4.mono HBL.out.size), by intro _; exact K0.out, by intro _; exact K1.out, fun _ => by first | rfl | trivial, by omega, by omega, by omega⟩
        case measure => simp [intOf]
      · have h0i : ¬ ((e : Nat) : Int) = 0 := by omega
        have HZ2 := Lib.hid (show (e, ln) = (R1, R2) by have := HZ.out; rwa [orE, if_neg h0] at this)
        go_wp2_with (go_at_call 20; (with_reducible refine (HC.out _ HBX.out).mono ?_); rintro x w4 ⟨rfl, hb4⟩)
        have hrr := HZ2.out
        injection hrr with hr1 hr2
        refine bodyPost_ret (v := .tuple #[.int .i64 (e : Nat), .int .i64 (ln : Nat)]) (by simp [results, Tryz.results8, go_sem]) rfl ⟨by rw [← hr1, ← hr2], ?_⟩
        exact HBX.out.trans (hb4.mono HBX.out.size)
    by_cases hk3 : k = 3
    · subst hk3
      have y0 := z0 (by omega)
      have K0 := Lib.hid y0
      have y1 := z1 (by omega)
      have K1 := Lib.hid y1
      have y2 := z2 (by omega)
      have K2 := Lib.hid y2
      have HC := Lib.hid H3.out
      have HZ := Lib.hid (show orE r3 (orE r4 (orE r5 (0, 0))) = (R1, R2) by
        have := HR.out
        simpa only [orE, y0, y1, y2, if_true] using this)
      obtain ⟨e, ln⟩ := r3
      clear z0 z1 z2 z3 z4 z5 y0 y1 y2
      by_cases h0 : e = 0
      · subst h0
        go_wp2_with (go_at_call 21; (with_reducible refine (HC.out _ HBX.out).mono ?_); rintro x w4 ⟨rfl, hb4⟩)
        go_roundw
        case rel => exact ⟨4, by omega, by go_num, HBL.out.trans (hb4.mono HBL.out.size), by intro _; exact K0.out, by intro _; exact K1.out, by intro _; exact K2.out, fun _ => by first | rfl | trivial, by omega, by omega⟩
        case measure => simp [intOf]
      · have h0i : ¬ ((e : Nat) : Int) = 0 := by omega
        have HZ2 := Lib.hid (show (e, ln) = (R1, R2) by have := HZ.out; rwa [orE, if_neg h0] at this)
        go_wp2_with (go_at_call 21; (with_reducible refine (HC.out _ HBX.out).mono ?_); rintro x w4 ⟨rfl, hb4⟩)
        have hrr := HZ2.out
        injection hrr with hr1 hr2
        refine bodyPost_ret (v := .tuple #[.int .i64 (e : Nat), .int .i64 (ln : Nat)]) (by simp [results, Tryz.results8, go_sem]) rfl ⟨by rw [← hr1, ← hr2], ?_⟩
        exact HBX.out.trans (hb4.mono HBX.out.size)
    by_cases hk4 : k = 4
    · subst hk4
      have y0 := z0 (by omega)
      have K0 := Lib.hid y0
      have y1 := z1 (by omega)
      have K1 := Lib.hid y1
      have y2 := z2 (by omega)
      have K2 := Lib.hid y2
      have y3 := z3 (by omega)
      have K3 := Lib.hid y3
      have HC := Lib.hid H4.out
      have HZ := Lib.hid (show orE r4 (orE r5 (0, 0)) = (R1, R2) by
        have := HR.out
        simpa only [orE, y0, y1, y2, y3, if_true] using this)
      obtain ⟨e, ln⟩ := r4
      clear z0 z1 z2 z3 z4 z5 y0 y1 y2 y3
      by_cases h0 : e = 0
      · subst h0
        go_wp2_with (go_at_call 22; (with_reducible refine (HC.out _ HBX.out).mono ?_); rintro x w4 ⟨rfl, hb4⟩)
        go_roundw
        case rel => exact ⟨5, by omega, by go_num, HBL.out.trans (hb4.mono HBL.out.size), by intro _; exact K0.out, by intro _; exact K1.out, by intro _; exact K2.out, by intro _; exact K3.out, fun _ => by first | rfl | trivial, by omega⟩
        case measure => simp [intOf]
      · have h0i : ¬ ((e : Nat) : Int) = 0 := by omega
        have HZ2 := Lib.hid (show (e, ln) = (R1, R2) by have := HZ.out; rwa [orE, if_neg h0] at this)
        go_wp2_with (go_at_call 22; (with_reducible refine (HC.out _ HBX.out).mono ?_); rintro x w4 ⟨rfl, hb4⟩)
        have hrr := HZ2.out
        injection hrr with hr1 hr2
        refine bodyPost_ret (v := .tuple #[.int .i64 (e : Nat), .int .i64 (ln : Nat)]) (by simp [results, Tryz.results8, go_sem]) rfl ⟨by rw [← hr1, ← hr2], ?_⟩
        exact HBX.out.trans (hb4.mono HBX.out.size)
    by_cases hk5 : k = 5
    · subst hk5
      have y0 := z0 (by omega)
      have K0 := Lib.hid y0
      have y1 := z1 (by omega)
      have K1 := Lib.hid y1
      have y2 := z2 (by omega)
      have K2 := Lib.hid y2
      have y3 := z3 (by omega)
      have K3 := Lib.hid y3
      have y4 := z4 (by omega)
      have K4 := Lib.hid y4
      have HC := Lib.hid (H5.out y3 y4)
      have HZ := Lib.hid (show orE r5 (0, 0) = (R1, R2) by
        have := HR.out
        simpa only [orE, y0, y1, y2, y3, y4, if_true] using this)
      obtain ⟨e, ln⟩ := r5
      clear z0 z1 z2 z3 z4 z5 y0 y1 y2 y3 y4
      by_cases h0 : e = 0
      · subst h0
        go_wp2_with (go_at_call 23; (with_reducible refine (HC.out _ HBX.out).mono ?_); rintro x w4 ⟨rfl, hb4⟩)
        go_roundw
        case rel => exact ⟨6, by omega, by go_num, HBL.out.trans (hb4.mono HBL.out.size), by intro _; exact K0.out, by intro _; exact K1.out, by intro _; exact K2.out, by intro _; exact K3.out, by intro _; exact K4.out, fun _ => by first | rfl | trivial⟩
        case measure => simp [intOf]
      · have h0i : ¬ ((e : Nat) : Int) = 0 := by omega
        have HZ2 := Lib.hid (show (e, ln) = (R1, R2) by have := HZ.out; rwa [orE, if_neg h0] at this)
        go_wp2_with (go_at_call 23; (with_reducible refine (HC.out _ HBX.out).mono ?_); rintro x w4 ⟨rfl, hb4⟩)
        have hrr := HZ2.out
        injection hrr with hr1 hr2
        refine bodyPost_ret (v := .tuple #[.int .i64 (e : Nat), .int .i64 (ln : Nat)]) (by simp [results, Tryz.results8, go_sem]) rfl ⟨by rw [← hr1, ← hr2], ?_⟩
        exact HBX.out.trans (hb4.mono HBX.out.size)
    have hke : k = 6 := by omega
    subst hke
    have HZ := Lib.hid (show (0, 0) = (R1, R2) by
      have := HR.out
      simpa only [orE, z0 (by omega), z1 (by omega), z2 (by omega), z3 (by omega), z4 (by omega), z5 (by omega), if_true] using this)
    clear z0 z1 z2 z3 z4 z5
    go_wp2_with fail
    have hrr := HZ.out
    injection hrr with hr1 hr2
    refine bodyPost_ret (v := .tuple #[.int .i64 0, .int .i64 0]) (by simp [results, Tryz.results8, go_sem]) rfl ⟨by rw [← hr1, ← hr2]; rfl, HBX.out⟩
/-- Program's answer at a shaped program in new blocks. -/
theorem program_any (w : World) (hT : TabF w) (n0 : Nat) (p : Pg) (v0 v1 : Value) (h : RdP w (PF n0 w) p v0 v1) (hsh : shP p = true) (hn : p.nok) (hd : p.decls.length ≤ 100000) (ht : p.threads.length ≤ 100000) :
    Calls Tryz.prog 8 #[.agg #[v0, v1]] w fun x w' => x = .returned (.tuple #[.int .i64 ((progE p).1 : Nat), .int .i64 ((progE p).2 : Nat)]) ∧ Below w.heap.size w w' := by
  obtain ⟨h0, h1⟩ := id h
  obtain ⟨a0, c0, rfl, _⟩ := id h0
  obtain ⟨a1, c1, rfl, _⟩ := id h1
  have hS : ∀ k, PF n0 w k → k < w.heap.size := fun k hk => hk.2.lt
  have D := fun W (hb : Below w.heap.size w W) => SlD.ds (SlD.below h0 hb)
  have T := fun W (hb : Below w.heap.size w W) => SlT.ts (SlT.below h1 hb)
  refine program_of w a0 a1 p.decls.length c0 p.threads.length c1 (declsE [] p.decls (0, 0, 0, 0)) (errIf (decide (4 < p.threads.length)) 2, 0) (namesT p.decls [] p.threads) (localsE p.decls p.threads p.threads) (errIf (decide (60 < countP p.threads 0)) 2, 0) (stmtsE p.decls p.threads p.threads [])
    (fun W hb => shaped_any W (hT.below hb) n0 p _ _ (RdP.turn (fun _ _ _ hk hc => ⟨(hb.cell (block_lt_of_cell hc)).trans hc, hk.1, hk.2.below hb⟩) h) hsh hn)
    (fun W hb => declarations_any W _ _ p.decls (D W hb) hd)
    (fun W hb => threadCount_any W _ a1 p.threads.length c1 ht)
    (fun W hb => threadNames_any W _ _ p.decls p.threads (D W hb) (T W hb) hd ht)
    (fun W hb => locals_any W (PF n0 w) _ _ p.decls p.threads (D W hb) (T W hb) (SlT.below h1 hb) hd ht)
    (fun W hb => statementCount_any W (PF n0 w) _ _ p.threads (SlT.below h1 hb) ht)
    (fun e3 e4 W hb => ?_)
  · have h60 : countP p.threads 0 ≤ 60 := by
      by_cases hc : 60 < countP p.threads 0
      · rw [decide_eq_true hc] at e4
        exact absurd e4 (by decide)
      · omega
    have hz := countP_eq p.threads 0 h60
    have hlo := localsE_zero p.decls p.threads p.threads e3
    have hst : p.threads.all shT = true := by
      simp only [shP, Bool.and_eq_true] at hsh
      exact hsh.1.2
    refine statements_any W (PF n0 w) _ _ p.decls p.threads (D W hb) (T W hb) (SlT.below h1 hb) (fun k hk => Nat.lt_of_lt_of_le (hS k hk) hb.size) hd ht (fun t htm => ?_) (by omega)
    have hs := List.all_eq_true.1 hst t htm
    simp only [shT, Bool.and_eq_true] at hs
    obtain ⟨_, _, _, hn4, _⟩ := hn.2.1 t htm
    have hzt : szML t.body ≤ szT p.threads := by
      obtain ⟨k, hk, rfl⟩ := List.getElem_of_mem htm
      have := szT_get p.threads k hk
      exact this
    have hl := len_szML t.body
    exact ⟨wkL_of t.body hs.2 hn4 (by omega), by omega, by have := hlo t htm; omega⟩
end Ck
end Go.Proofs.YtncflfadgcaldaaGreatDoor

namespace Go.Proofs.YtncflfadgcaldaaGreatDoor
open Go.ChangeShapes Go.WideShapes Go.ChangeAt Go.WideMaps Go.WideElems Go.RowKit
open Go.ChangeMaps (setBlock shut_map_nil open_string shut_string keptBut_setBlock frozen?_setBlock heap_setBlock_same)
open Tok Par

theorem own : ownKnob Tryz.prog.godebug = none := by kernel_rfl
theorem gErr : Tryz.prog.globalNamed "strconv.ErrRange" = some 4 := by kernel_rfl
theorem tErr : (Tryz.prog.globals[4]?).map (·.type) = some 154 := by kernel_rfl
theorem gSyn : Tryz.prog.globalNamed "strconv.ErrSyntax" = some 3 := by kernel_rfl
theorem tSyn : (Tryz.prog.globals[3]?).map (·.type) = some 154 := by kernel_rfl

theorem gFie : Tryz.prog.globalNamed "interleave/parse.stmtFields" = some 2 := by kernel_rfl
theorem tFie : (Tryz.prog.globals[2]?).map (·.type) = some 166 := by kernel_rfl
theorem cFie : Tryz.prog.cellsOf 165 = 6 := by kernel_rfl
theorem fFie : Tryz.prog.underlying 165 = some (.struct (Tryz.prog.fieldsOf 165)) := by kernel_rfl
theorem oFie : ∀ k, k < 6 → ((Tryz.prog.fieldsOf 165)[k]?).map (fun f => (f.type, f.offset)) = some (4, k) := by
  intro k hk
  rcases (show k = 0 ∨ k = 1 ∨ k = 2 ∨ k = 3 ∨ k = 4 ∨ k = 5 by omega) with rfl | rfl | rfl | rfl | rfl | rfl <;> kernel_rfl
theorem trod_bool {H : Type} {enc : TypeId × Value → H} {P : Program} {w : World} {base : Nat} {sp : Nat → Bool} {held : Bool} {fuel : Nat} {t : TypeId} {cs : List Value} {b : Bool} {q : List MemPlace} (ht : P.underlying t = some .bool)
    (h : DataW.trod enc P w base sp held fuel t cs = some (.lit (.bool b), q)) : cs = [.bool b] := by
  cases fuel with
  | zero => simp [DataW.trod] at h
  | succ m =>
    unfold DataW.trod at h
    rw [ht] at h
    split at h <;> simp_all
theorem cell_piece {cs : List Value} {n k : Nat} {v : Value} (hk : k < 6) (h : (((cs.drop n).take 6).drop k).take 1 = [v]) : cs[n + k]? = some v := by
  have := congrArg (fun l => l[0]?) h
  simp [List.getElem?_drop, hk] at this
  exact this
theorem flds_six : ∀ r ∈ flds, r.length = 6 := by decide
set_option maxRecDepth 100000 in
theorem fields_all {H : Type} {enc : TypeId × Value → H} {w : World} {base : Nat} {sp : Nat → Bool} {held : Bool} {fuel : Nat} {cs : List Value} {q : List MemPlace}
    (h : DataW.trod enc Tryz.prog w base sp held fuel 166 cs = some (Rows.laid_interleave_parse_stmtFields, q)) :
    ∀ k j, k ≤ 15 → j ≤ 5 → cs[k * 6 + j]? = some (.bool (fl k j)) := by
  obtain ⟨xs, m, _, hx, _, hlen, hf⟩ := DataW.trod_array Tryz.underlying166 h
  intro k j hk hj
  have h1 : DataW.trod enc Tryz.prog w base sp held m 165 ((cs.drop (k * 6)).take 6) = xs[k]? := by
    have := hf k (by omega)
    rw [cFie] at this
    exact this
  simp only [Prod.mk.injEq] at hx
  have hx1 := hx.1
  rw [show (Rows.laid_interleave_parse_stmtFields : DataW H) = .agg (flds.map fun r => .agg (r.map fun b => .lit (.bool b))) from rfl] at hx1
  injection hx1 with hx1
  have e1 := congrArg (fun l => l[k]?) hx1
  obtain ⟨row, hrow⟩ : ∃ row, flds[k]? = some row := ⟨_, List.getElem?_eq_getElem (show k < 16 by omega)⟩
  simp only [List.getElem?_map, hrow, Option.map_some] at e1
  cases hy : xs[k]? with
  | none => rw [hy] at e1; cases e1
  | some y =>
    rw [hy] at e1 h1
    simp only [Option.map_some, Option.some.injEq] at e1
    obtain ⟨ys, n, _, hz, _, hlen2, hf2⟩ := DataW.trod_struct fFie h1
    have hz1 := congrArg Prod.fst hz
    rw [← e1] at hz1
    injection hz1 with hz1
    have hrl : row.length = 6 := flds_six row (List.mem_of_getElem? hrow)
    have hrj : row[j]? = some (fl k j) := by
      unfold fl
      rw [hrow]
      simp only [Option.bind_some]
      rw [List.getElem?_eq_getElem (show j < row.length by omega)]
      rfl
    have ho := oFie j (by omega)
    cases hfl : (Tryz.prog.fieldsOf 165)[j]? with
    | none => rw [hfl] at ho; cases ho
    | some f =>
      rw [hfl] at ho
      simp only [Option.map_some, Option.some.injEq, Prod.mk.injEq] at ho
      have h2 := hf2 j f hfl
      rw [ho.1, ho.2, show Tryz.prog.cellsOf 4 = 1 by kernel_rfl] at h2
      have hyk : (ys.map (·.1))[j]? = some (.lit (.bool (fl k j))) := by
        rw [← hz1, List.getElem?_map, hrj]
        rfl
      rw [List.getElem?_map] at hyk
      cases hyy : ys[j]? with
      | none => rw [hyy] at hyk; cases hyk
      | some z =>
        rw [hyy] at hyk h2
        simp only [Option.map_some, Option.some.injEq] at hyk
        obtain ⟨z1, z2⟩ := z
        have hyk : z1 = .lit (.bool (fl k j)) := hyk
        subst hyk
        exact cell_piece (by omega) (trod_bool (by kernel_rfl) h2)
/-- The start's own heap meets the condition. -/
theorem door_met (os : Os) (args : Array Value) : laidMetH Tryz.prog Rows.compileLoopsRow.laid ((World.doorLaid Tryz.prog 400 os).forCall (fun _ _ => 0) ⟨#[], args, []⟩).memory :=
  laidMetH_of_parts3 (fuel := 8) (laidMet_of_run' 8 (by kernel_rfl) (by kernel_rfl)) (by kernel_rfl) (by kernel_rfl)

theorem vars_of {W : World} (h : laidMetH Tryz.prog Rows.compileLoopsRow.laid W) : Two W := by
  rw [MakeChecks.laidMetH_plain _ _ _ (by kernel_rfl)] at h
  obtain ⟨ps, ⟨_, _, _, _, _, _, _, _, _, _, ⟨_, _, _, _, _, _, _, _, _, _, ⟨g0, t0, cs0, f0, p0, q0, hg0, ht0, hv0, hd0, ⟨g, t, cs, f, p, q, hg, ht, hv, hd, ⟨g2, t2, cs2, f2, p2, q2, hg2, ht2, hv2, hd2, ⟨g3, t3, cs3, f3, p3, q3, hg3, ht3, hv3, hd3, ⟨g4, t4, cs4, f4, p4, q4, hg4, ht4, hv4, hd4, _, _⟩, _⟩, _⟩, _⟩, _⟩, _⟩, _⟩, _, _⟩ := h
  obtain rfl := Option.some.inj (gErr.symm.trans hg)
  obtain rfl := Option.some.inj (tErr.symm.trans ht)
  obtain rfl := Option.some.inj (gSyn.symm.trans hg2)
  obtain rfl := Option.some.inj (tSyn.symm.trans ht2)
  obtain rfl := Option.some.inj (gFie.symm.trans hg3)
  obtain rfl := Option.some.inj (tFie.symm.trans ht3)
  obtain ⟨f', u, v, hcs, _, _⟩ := iface_of_trod Tryz.underlying154 hd
  obtain ⟨f2', u2, v2, hcs2, _, _⟩ := iface_of_trod Tryz.underlying154 hd2
  have hc := World.var?_cell hg hv 0
  have hc2 : W.cell? ⟨4, 0, none⟩ = some (.iface u v) := by
    rw [hc, Array.eq_one_of_toList hcs]
    rfl
  have hd := World.var?_cell hg2 hv2 0
  have hd2 : W.cell? ⟨3, 0, none⟩ = some (.iface u2 v2) := by
    rw [hd, Array.eq_one_of_toList hcs2]
    rfl
  exact ⟨⟨block_lt_of_cell hc2, u, v, hc2⟩, block_lt_of_cell hd2, u2, v2, hd2⟩
theorem tab_of {W : World} (h : laidMetH Tryz.prog Rows.compileLoopsRow.laid W) : TabF W := by
  rw [MakeChecks.laidMetH_plain _ _ _ (by kernel_rfl)] at h
  obtain ⟨ps, ⟨_, _, _, _, _, _, _, _, _, _, ⟨_, _, _, _, _, _, _, _, _, _, ⟨g0, t0, cs0, f0, p0, q0, hg0, ht0, hv0, hd0, ⟨g, t, cs, f, p, q, hg, ht, hv, hd, ⟨g2, t2, cs2, f2, p2, q2, hg2, ht2, hv2, hd2, ⟨g3, t3, cs3, f3, p3, q3, hg3, ht3, hv3, hd3, ⟨g4, t4, cs4, f4, p4, q4, hg4, ht4, hv4, hd4, _, _⟩, _⟩, _⟩, _⟩, _⟩, _⟩, _⟩, _, _⟩ := h
  obtain rfl := Option.some.inj (gFie.symm.trans hg3)
  obtain rfl := Option.some.inj (tFie.symm.trans ht3)
  have hk := fields_all hd3
  intro k j h1 h2
  rw [World.var?_cell hg3 hv3 (k * 6 + j)]
  simpa using hk k j h1 h2

end Go.Proofs.YtncflfadgcaldaaGreatDoor
