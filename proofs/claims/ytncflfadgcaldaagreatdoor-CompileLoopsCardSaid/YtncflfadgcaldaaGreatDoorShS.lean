/-
  fittingStmt, stmtParts and the walk over all statements at shaped statements in new blocks: true.
-/
import Derived.Test.YtncflfadgcaldaaGreatDoorFiS
import Derived.Test.YtncflfadgcaldaaGreatDoorFoS
import Derived.Test.YtncflfadgcaldaaGreatDoorEvS
namespace Go.Proofs.YtncflfadgcaldaaGreatDoor
open Go.RowKit
open Par

namespace Par
open Tok (T Bs)
theorem AtE.below {w w' : World} {a : Addr} {e : E} (h : AtE w a e) (b : Below w.heap.size w w') : AtE w' a e := by
  obtain ⟨n0, g, o, v0, v1, v2, v3, rfl, hp, h0, h1, h2, h3, he, hn⟩ := h
  have hl := hp.lt
  exact ⟨n0, g, o, v0, v1, v2, v3, rfl, hp.below b, (b.cell (p := ⟨g, o, none⟩) hl).trans h0, (b.cell (p := ⟨g, o + 1, none⟩) hl).trans h1, (b.cell (p := ⟨g, o + 2, none⟩) hl).trans h2, (b.cell (p := ⟨g, o + 3, none⟩) hl).trans h3, he.pbelow b, hn⟩
theorem slE_at {w : World} {n0 : Nat} {l : List E} {v : Value} (h : SlE w (PF n0 w) l v) (hn : nokL l) : ∃ rs, Ev.Leads 4 v rs ∧ rs.length = l.length ∧ ∀ k (h1 : k < rs.length) (h2 : k < l.length), AtE w rs[k] l[k] := by
  obtain ⟨a, cap, rfl, hl⟩ := h
  rcases hl with rfl | ⟨g, rfl, hS, hr⟩
  · exact ⟨[], ⟨a, cap, rfl, fun h => absurd h (by simp)⟩, rfl, fun k hk => absurd hk (by simp)⟩
  · refine ⟨(List.range l.length).map fun k => ⟨g, k * 4, none⟩, ⟨some ⟨g, 0, none⟩, cap, by simp, fun _ => ⟨g, rfl, fun k hk => by simp⟩⟩, by simp, fun k h1 h2 => ?_⟩
    obtain ⟨u0, u1, u2, u3, c0, c1, c2, c3, he⟩ := rdL_at l 0 hr k h2
    rw [Nat.zero_add] at c0 c1 c2 c3
    exact ⟨n0, g, k * 4, u0, u1, u2, u3, by simp, hS.2, c0, c1, c2, c3, he, nok_get l hn k h2⟩
theorem isZero_eq {e : E} (h : isZeroE e = true) : e = .mk 0 0 ⟨#[]⟩ [] := by
  obtain ⟨op, n, nm, l⟩ := e
  simp only [isZeroE, Bool.and_eq_true, decide_eq_true_eq, List.isEmpty_iff] at h
  obtain ⟨⟨⟨rfl, rfl⟩, h3⟩, rfl⟩ := h
  have : nm = ⟨#[]⟩ := by
    apply ByteArray.ext
    exact Array.eq_empty_of_size_eq_zero h3
  rw [this]
end Par

set_option maxHeartbeats 4000000 in
theorem fittingStmt_any (w : World) (hT : TabF w) (a : Addr) (s : Sm) (h : AtS w a s) (hf : fitSm s = true) :
    Calls Tryz.prog 71 #[.pointer (some a)] w fun e w' => e = .returned (.bool true) ∧ Below w.heap.size w w' := by
  obtain ⟨k, line, name, arg, ix, ex, body, els⟩ := s
  obtain ⟨n0, g, o, cs, rfl, hp, hc, ⟨v4, e0, e1, e2, e3, a9, c9, a10, c10, rfl, h4, he, hb, hl⟩, ⟨hn1, hn2, hn3, hn4, hn5, hn6, _, _⟩⟩ := h
  obtain ⟨op, n, en, ae, lenE, capE, rfl, rfl, rfl, rfl⟩ := he.shape
  have h4' := h4
  obtain ⟨ai, capI, rfl, _⟩ := h4'
  simp only [fitSm, Bool.and_eq_true, decide_eq_true_eq] at hf
  obtain ⟨⟨⟨⟨⟨⟨⟨hk1, hk2⟩, hfn⟩, hfa⟩, hix⟩, hex⟩, hbo⟩, hel⟩ := hf
  have q0 := hc 0 _ rfl
  have q2 := hc 2 _ rfl
  have q3 := hc 3 _ rfl
  have q4 := hc 4 _ rfl
  have q5 := hc 5 _ rfl
  have q6 := hc 6 _ rfl
  have q7 := hc 7 _ rfl
  have q8 := hc 8 _ rfl
  have q9 := hc 9 _ rfl
  have q10 := hc 10 _ rfl
  have t0 := hT k 0 hk2 (by omega)
  have t1 := hT k 1 hk2 (by omega)
  have t2 := hT k 2 hk2 (by omega)
  have t3 := hT k 3 hk2 (by omega)
  have t4 := hT k 4 hk2 (by omega)
  have t5 := hT k 5 hk2 (by omega)
  have hnm : (⟨name.toArray⟩ : ByteArray).size ≤ maxLen := by show name.toArray.size ≤ _; simpa using hn1
  have har : (⟨arg.toArray⟩ : ByteArray).size ≤ maxLen := by show arg.toArray.size ≤ _; simpa using hn2
  have CE : shE ex = true → ∀ W, Below w.heap.size w W → Calls Tryz.prog 101 #[.agg #[.int .i64 op, .int .i64 n, .string en, .slice ae lenE capE]] W fun e w' => e = .returned (.bool true) ∧ Below W.heap.size W w' := by
    intro hsh W hbW
    have := shapedExpr_any W n0 ex op n en ae lenE capE (he.pbelow hbW) hn4 hn6
    rw [hsh] at this
    exact this
  have CI : shL ix = true → ∀ W, Below w.heap.size w W → Calls Tryz.prog 100 #[.slice ai ix.length capI] W fun e w' => e = .returned (.bool true) ∧ Below W.heap.size W w' := by
    intro hsh W hbW
    obtain ⟨rs, hr, hlen, hat⟩ := slE_at h4 hn3
    have := shapedExprs_any W _ rs ix hr hlen (fun k h1 h2 => (hat k h1 h2).below hbW) hn5
    rw [hsh] at this
    exact this
  have nilE : isZeroE ex = true → op = 0 ∧ n = 0 ∧ en = ⟨#[]⟩ ∧ lenE = 0 := by
    intro hz
    have hz2 := isZero_eq hz
    subst hz2
    obtain ⟨a', cap', hv, _⟩ := he
    injection hv with hv
    simp at hv
    exact ⟨hv.1, hv.2.1, hv.2.2.1, hv.2.2.2.2.1⟩
  rcases (show k = 1 ∨ k = 2 ∨ k = 3 ∨ (k = 4 ∨ k = 5 ∨ k = 6 ∨ k = 7 ∨ k = 8) ∨ (k = 9 ∨ k = 10 ∨ k = 11 ∨ k = 12 ∨ k = 13 ∨ k = 15) ∨ k = 14 by omega) with rfl | rfl | rfl | hkk | hkk | rfl
  · -- an assignment
    have hsh : shE ex = true := hex
    have hbe : body = [] := by simpa [fl, flds] using hbo
    have hee : els = [] := by simpa [fl, flds] using hel
    subst hbe
    subst hee
    by_cases hi : ix = []
    · subst hi
      exact fitS_a0 w g o 1 ⟨name.toArray⟩ ⟨arg.toArray⟩ ai ae a9 a10 capI capE c9 c10 op n en lenE _ _ _ (by omega) (by omega) hnm har hfn hfa q0 q2 q3 q4 q5 q6 q7 q8 q9 q10 t0 t1 t2 t3 t4 t5 (CE hsh)
    · have hi2 : ix.length = 1 ∧ shL ix = true := by
        have : ix.isEmpty = false := by simpa using hi
        rw [this] at hix
        simpa [fl, flds] using hix
      rw [hi2.1] at q4 CI
      exact fitS_a1 w g o 1 ⟨name.toArray⟩ ⟨arg.toArray⟩ ai ae a9 a10 capI capE c9 c10 op n en lenE _ _ (by omega) (by omega) hnm har hfn hfa q0 q2 q3 q4 q5 q6 q7 q8 q9 q10 t0 t1 t2 t3 t4 t5 (CI hi2.2) (CE hsh)
  · have hsh : shE ex = true := hex
    have hi : ix = [] := by simpa [fl, flds] using hix
    subst hi
    exact fitS_if w g o 2 ⟨name.toArray⟩ ⟨arg.toArray⟩ ai ae a9 a10 capI capE c9 c10 op n en lenE _ _ _ _ _ (by omega) (by omega) hnm har hfn hfa q0 q2 q3 q4 q5 q6 q7 q8 q9 q10 t0 t1 t2 t3 t4 t5 (CE hsh)
  · have hsh : shE ex = true := hex
    have hi : ix = [] := by simpa [fl, flds] using hix
    have hee : els = [] := by simpa [fl, flds] using hel
    subst hi
    subst hee
    exact fitS_wh w g o 3 ⟨name.toArray⟩ ⟨arg.toArray⟩ ai ae a9 a10 capI capE c9 c10 op n en lenE _ _ _ _ (by omega) (by omega) hnm har hfn hfa q0 q2 q3 q4 q5 q6 q7 q8 q9 q10 t0 t1 t2 t3 t4 t5 (CE hsh)
  · have hz : isZeroE ex = true := by rcases hkk with rfl | rfl | rfl | rfl | rfl <;> exact hex
    have hi : ix = [] := by rcases hkk with rfl | rfl | rfl | rfl | rfl <;> simpa [fl, flds] using hix
    have hee : els = [] := by rcases hkk with rfl | rfl | rfl | rfl | rfl <;> simpa [fl, flds] using hel
    have f3 : fl k 3 = false := by rcases hkk with rfl | rfl | rfl | rfl | rfl <;> rfl
    have f4 : fl k 4 = true := by rcases hkk with rfl | rfl | rfl | rfl | rfl <;> rfl
    have f5 : fl k 5 = false := by rcases hkk with rfl | rfl | rfl | rfl | rfl <;> rfl
    obtain ⟨rfl, rfl, rfl, rfl⟩ := nilE hz
    subst hi
    subst hee
    rw [f3] at t3
    rw [f4] at t4
    rw [f5] at t5
    exact fitS_bl w g o k ⟨name.toArray⟩ ⟨arg.toArray⟩ ai ae a9 a10 capI capE c9 c10 _ _ _ _ hk1 hk2 hnm har hfn hfa q0 q2 q3 q4 q5 q6 q7 q8 q9 q10 t0 t1 t2 t3 t4 t5
  · have hz : isZeroE ex = true := by rcases hkk with rfl | rfl | rfl | rfl | rfl | rfl <;> exact hex
    have hi : ix = [] := by rcases hkk with rfl | rfl | rfl | rfl | rfl | rfl <;> simpa [fl, flds] using hix
    have hee : els = [] := by rcases hkk with rfl | rfl | rfl | rfl | rfl | rfl <;> simpa [fl, flds] using hel
    have hbe : body = [] := by rcases hkk with rfl | rfl | rfl | rfl | rfl | rfl <;> simpa [fl, flds] using hbo
    have f3 : fl k 3 = false := by rcases hkk with rfl | rfl | rfl | rfl | rfl | rfl <;> rfl
    have f4 : fl k 4 = false := by rcases hkk with rfl | rfl | rfl | rfl | rfl | rfl <;> rfl
    have f5 : fl k 5 = false := by rcases hkk with rfl | rfl | rfl | rfl | rfl | rfl <;> rfl
    obtain ⟨rfl, rfl, rfl, rfl⟩ := nilE hz
    subst hi
    subst hee
    subst hbe
    rw [f3] at t3
    rw [f4] at t4
    rw [f5] at t5
    exact fitS_pl w g o k ⟨name.toArray⟩ ⟨arg.toArray⟩ ai ae a9 a10 capI capE c9 c10 _ _ _ hk1 hk2 hnm har hfn hfa q0 q2 q3 q4 q5 q6 q7 q8 q9 q10 t0 t1 t2 t3 t4 t5
  · have hsh : shE ex = true := hex
    have hi : ix = [] := by simpa [fl, flds] using hix
    have hbe : body = [] := by simpa [fl, flds] using hbo
    have hee : els = [] := by simpa [fl, flds] using hel
    subst hi
    subst hbe
    subst hee
    exact fitS_a0 w g o 14 ⟨name.toArray⟩ ⟨arg.toArray⟩ ai ae a9 a10 capI capE c9 c10 op n en lenE _ _ _ (by omega) (by omega) hnm har hfn hfa q0 q2 q3 q4 q5 q6 q7 q8 q9 q10 t0 t1 t2 t3 t4 t5 (CE hsh)

set_option maxHeartbeats 2000000 in
theorem stmtParts_at (w : World) (g o : Nat) (a : Option Addr) (l c : Nat) (a' : Option Addr) (l' c' : Nat) (c9 : w.cell? ⟨g, o + 9, none⟩ = some (.slice a l c)) (c10 : w.cell? ⟨g, o + 10, none⟩ = some (.slice a' l' c')) :
    Calls Tryz.prog 72 #[.pointer (some ⟨g, o, none⟩)] w fun e w' => ∃ b, e = .returned (.slice (some ⟨b, 0, none⟩) 2 2) ∧ Below w.heap.size w w' ∧ w'.heap[b]? = some (.cells #[.slice a l c, .slice a' l' c'] 54) := by
  go_enter Tryz.func72, Tryz.ntmps72
  go_wp2_with fail
  go_region
  all_goals
    go_wp2_with fail
    go_ret
    exact ⟨_, rfl, by repeat (first | exact Below.refl _ _ | apply Below.drew | (refine Below.alloc ?_ (by simp) _)), (MapKept.heap_alloc w _).1⟩

set_option maxHeartbeats 1000000 in
theorem everyS_at (w : World) (hT : TabF w) (v : Value) (rs : List Addr) (l : List Sm) (hr : Ev.Leads 11 v rs) (hlen : rs.length = l.length) (hat : ∀ k (h1 : k < rs.length) (h2 : k < l.length), AtS w rs[k] l[k]) (hsh : shSs l = true) (hsz : szS l ≤ 500000) :
    Calls Tryz.prog 70 #[v, .func (.func 71) #[] #[], .func (.func 72) #[] #[]] w
      fun e w' => e = .returned (.bool true) ∧ Below w.heap.size w w' := by
  have hD : ∀ a ∈ rs, (forestS w).D a := by
    intro a ha
    obtain ⟨k, hk, rfl⟩ := List.getElem_of_mem ha
    exact ⟨_, hat k hk (by omega), (shSs_all l).1 hsh _ (List.getElem_mem _)⟩
  have hmap : rs.map (forestS w).sz = l.map Sm.sz := nodes_sum hlen (fun k h1 h2 => hat k h2 h1)
  refine (everyS_any w (forestS w) v rs hr hD (fun a ⟨s, h, _⟩ => h.plain) (by rw [meas_start, hmap, ← szS_sum]; omega) ?_ ?_).mono ?_
  · rintro a ⟨s, h, hs⟩ W hb
    have hf : fitSm s = true := by
      obtain ⟨op, line, name, arg, ix, ex, body, els⟩ := s
      exact (shS_parts hs).1
    have h' : AtS W a s := by
      obtain ⟨n0, g, o, cs, rfl, hp, hc, hrd, hn⟩ := h
      exact ⟨n0, g, o, cs, rfl, hp.below hb, fun j u hj => (hb.cell (p := ⟨g, o + j, none⟩) hp.lt).trans (hc j u hj), RdS.turn (fun k o u hk hcell => ⟨(hb.cell (block_lt_of_cell hcell)).trans hcell, hk.1, hk.2.below hb⟩) s cs hrd, hn⟩
    exact fittingStmt_any W (hT.below hb) a s h' hf
  · rintro a ⟨⟨op, line, name, arg, ix, ex, body, els⟩, h, _⟩ W hb
    obtain ⟨a9, c9, a10, c10, k9, k10, hk, ⟨hl1, _, _⟩, ⟨hl2, _, _⟩⟩ := atS_parts h
    have hgo : a = ⟨a.block, a.off, none⟩ := by
      obtain ⟨_, g, o, _, rfl, _⟩ := h
      rfl
    have hlt := h.plain.lt
    have ha' : (#[Value.pointer (some a)] : Array Value) = #[.pointer (some ⟨a.block, a.off, none⟩)] := by rw [← hgo]
    rw [ha']
    refine (stmtParts_at W a.block a.off a9 body.length c9 a10 els.length c10 ((hb.cell (p := ⟨a.block, a.off + 9, none⟩) hlt).trans k9) ((hb.cell (p := ⟨a.block, a.off + 10, none⟩) hlt).trans k10)).mono ?_
    rintro e w' ⟨b, he, hb2, hblk⟩
    exact ⟨b, _, _, _, _, he, hb2, hblk, hl1, hl2, hk⟩
  · rintro e w' ⟨b, he, hiff, hb⟩
    have : b = true := hiff.2 (fun a ha => allS w _ a (Nat.le_refl _) (hD a ha))
    rw [this] at he
    exact ⟨he, hb⟩
end Go.Proofs.YtncflfadgcaldaaGreatDoor
