/-
  shapedDecl, shapedThread and Shaped at shaped programs in new blocks: true.
  shapedThread and Shaped at shaped programs in new blocks: true.
-/
import Derived.Test.YtncflfadgcaldaaGreatDoorShS
import Derived.Test.YtncflfadgcaldaaGreatDoorPstP
namespace Go.Proofs.YtncflfadgcaldaaGreatDoor
open Go.RowKit
open Par

namespace Par
open Tok (T Bs)
/-- A shaped declaration. -/
def shD (d : Dc) : Bool := Tok.isName d.name && decide (d.init ≠ -9223372036854775808) &&
  (if d.kind = 1 then d.on.isEmpty
   else if d.kind = 2 then decide (d.size = 0) && d.on.isEmpty
   else if d.kind = 5 then decide (d.size = 0) && decide (d.init = 0) && Tok.isName d.on
   else (decide (d.kind = 3) || decide (d.kind = 4) || decide (d.kind = 6)) && decide (d.size = 0) && decide (d.init = 0) && d.on.isEmpty)
def shT (t : Th) : Bool := Tok.isName t.name && t.locals.all (fun s => Tok.isName s) && shSs t.body
def shP (p : Pg) : Bool := p.decls.all shD && p.threads.all shT && !p.threads.isEmpty
end Par

set_option maxHeartbeats 4000000 in
set_option maxRecDepth 100000 in
theorem shapedDecl_any (w : World) (d : Dc) (h : shD d = true) (hn : d.name.length ≤ maxLen) (ho : d.on.length ≤ maxLen) :
    Calls Tryz.prog 40 #[.agg #[.int .i64 d.kind, .int .i64 d.line, .string ⟨d.name.toArray⟩, .int .i64 d.size, .int .i64 d.init, .string ⟨d.on.toArray⟩]] w fun e w' => e = .returned (.bool true) ∧ Below w.heap.size w w' := by
  obtain ⟨kind, line, name, size, init, on⟩ := d
  simp only [shD, Bool.and_eq_true, decide_eq_true_eq] at h
  obtain ⟨⟨hnm, hi0⟩, hk⟩ := h
  have CI := Lib.hid (fun w => isName_any ⟨name.toArray⟩ w (by show name.toArray.size ≤ _; simpa using hn))
  have e1 : (⟨name.toArray⟩ : ByteArray).data.toList = name := rfl
  rw [e1, hnm] at CI
  have CO := fun w => isName_any ⟨on.toArray⟩ w (by show on.toArray.size ≤ _; simpa using ho)
  have e2 : (⟨on.toArray⟩ : ByteArray).data.toList = on := rfl
  rw [e2] at CO
  have hib : (init == -9223372036854775808) = false := by simpa using hi0
  have hii : ¬ init = -9223372036854775808 := hi0
  have hsz : ¬ ((size : Nat) : Int) < 0 := by omega
  have hcell : ∀ w1, Below (w.alloc (.cells #[.int .i64 kind, .int .i64 line, .string ⟨name.toArray⟩, .int .i64 size, .int .i64 init, .string ⟨on.toArray⟩] 71)).heap.size (w.alloc (.cells #[.int .i64 kind, .int .i64 line, .string ⟨name.toArray⟩, .int .i64 size, .int .i64 init, .string ⟨on.toArray⟩] 71)) w1 →
      ∀ j u, (#[Value.int .i64 kind, .int .i64 line, .string ⟨name.toArray⟩, .int .i64 size, .int .i64 init, .string ⟨on.toArray⟩] : Array Value)[j]? = some u → w1.cell? ⟨w.heap.size, j, none⟩ = some u := fun w1 hb j u hj =>
    ((hb.cell (p := ⟨w.heap.size, j, none⟩) (by simp)).trans (World.cell?_alloc_at _ _ _ _ rfl)).trans hj
  have HC := Lib.hid hcell
  clear hcell hnm hn ho hi0 e1 e2
  by_cases k1 : kind = 1
  · subst k1
    rw [if_pos rfl] at hk
    have hon : on = [] := by simpa using hk
    subst hon
    clear CO hk
    go_enter Tryz.func40, Tryz.ntmps40
    go_wp2_with (go_at_call 69; refine (CI.out _).mono ?_; rintro e w1 ⟨rfl, hb⟩; have d0 := HC.out w1 hb 0 _ rfl; have d3 := HC.out w1 hb 3 _ rfl; have d4 := HC.out w1 hb 4 _ rfl; have d5 := HC.out w1 hb 5 _ rfl)
    go_ret
    exact ⟨rfl, ((Below.refl _ _).alloc (Nat.le_refl _) _).trans (hb.mono (by simp))⟩
  · rw [if_neg k1] at hk
    by_cases k2 : kind = 2
    · subst k2
      rw [if_pos rfl] at hk
      simp only [Bool.and_eq_true, decide_eq_true_eq] at hk
      obtain ⟨rfl, hon⟩ := hk
      have hon : on = [] := by simpa using hon
      subst hon
      clear CO k1
      go_enter Tryz.func40, Tryz.ntmps40
      go_wp2_with (go_at_call 69; refine (CI.out _).mono ?_; rintro e w1 ⟨rfl, hb⟩; have d0 := HC.out w1 hb 0 _ rfl; have d3 := HC.out w1 hb 3 _ rfl; have d4 := HC.out w1 hb 4 _ rfl; have d5 := HC.out w1 hb 5 _ rfl)
      go_ret
      exact ⟨rfl, ((Below.refl _ _).alloc (Nat.le_refl _) _).trans (hb.mono (by simp))⟩
    · rw [if_neg k2] at hk
      by_cases k5 : kind = 5
      · subst k5
        rw [if_pos rfl] at hk
        simp only [Bool.and_eq_true, decide_eq_true_eq] at hk
        obtain ⟨⟨rfl, rfl⟩, hon⟩ := hk
        rw [hon] at CO
        have CO2 := Lib.hid CO
        clear CO k1 k2 hon
        go_enter Tryz.func40, Tryz.ntmps40
        go_wp2_with fail
        go_at_call 69
        refine (CI.out _).mono ?_
        rintro e w1 ⟨rfl, hb⟩
        have d0 := HC.out w1 hb 0 _ rfl
        have d3 := HC.out w1 hb 3 _ rfl
        have d4 := HC.out w1 hb 4 _ rfl
        have d5 := HC.out w1 hb 5 _ rfl
        go_wp2_with (go_at_call 69; refine (CO2.out _).mono ?_; rintro e w2 ⟨rfl, hb2⟩)
        go_ret
        have z := hb.size
        simp at z
        exact ⟨rfl, (((Below.refl _ _).alloc (Nat.le_refl _) _).trans (hb.mono (by simp))).trans (hb2.mono (by omega))⟩
      · rw [if_neg k5] at hk
        simp only [Bool.and_eq_true, Bool.or_eq_true, decide_eq_true_eq] at hk
        obtain ⟨⟨⟨hkk, rfl⟩, rfl⟩, hon⟩ := hk
        have hon : on = [] := by simpa using hon
        subst hon
        clear CO k1 k2 k5
        rcases hkk with (rfl | rfl) | rfl
        all_goals
          go_enter Tryz.func40, Tryz.ntmps40
          go_wp2_with (go_at_call 69; refine (CI.out _).mono ?_; rintro e w1 ⟨rfl, hb⟩; have d0 := HC.out w1 hb 0 _ rfl; have d3 := HC.out w1 hb 3 _ rfl; have d4 := HC.out w1 hb 4 _ rfl; have d5 := HC.out w1 hb 5 _ rfl)
          go_ret
          exact ⟨rfl, ((Below.refl _ _).alloc (Nat.le_refl _) _).trans (hb.mono (by simp))⟩
end Go.Proofs.YtncflfadgcaldaaGreatDoor

namespace Go.Proofs.YtncflfadgcaldaaGreatDoor
open Go.RowKit
open Par

namespace Par
open Tok (T Bs)
/-- Names are no longer than a string may be; sizes are bounded. -/
def Th.nok (t : Th) : Prop := t.name.length ≤ maxLen ∧ (∀ s ∈ t.locals, s.length ≤ maxLen) ∧ t.locals.length ≤ 1000000 ∧ nokS t.body ∧ szS t.body ≤ 500000
def Dc.nok (d : Dc) : Prop := d.name.length ≤ maxLen ∧ d.on.length ≤ maxLen
def Pg.nok (p : Pg) : Prop := (∀ d ∈ p.decls, d.nok) ∧ (∀ t ∈ p.threads, t.nok) ∧ p.decls.length ≤ 1000000 ∧ p.threads.length ≤ 1000000
theorem slS_at {w : World} {n0 : Nat} {l : List Sm} {v : Value} (h : SlS w (PF n0 w) l v) (hn : nokS l) : ∃ rs, Ev.Leads 11 v rs ∧ rs.length = l.length ∧ ∀ k (h1 : k < rs.length) (h2 : k < l.length), AtS w rs[k] l[k] := by
  obtain ⟨a, cap, rfl, hl⟩ := h
  obtain ⟨h1, h2, h3⟩ := slS_nodes (cap := cap) hl hn
  exact ⟨_, h1, h2, fun k k1 k2 => h3 k k2 k1⟩
theorem SlS.pbelow {w w' : World} {n0 : Nat} {l : List Sm} {v : Value} (h : SlS w (PF n0 w) l v) (b : Below w.heap.size w w') : SlS w' (PF n0 w') l v :=
  SlS.move (fun _ _ _ hk hc => ⟨(b.cell (block_lt_of_cell hc)).trans hc, hk.1, hk.2.below b⟩) h
end Par

set_option maxHeartbeats 4000000 in
set_option maxRecDepth 100000 in
theorem shapedThread_any (w : World) (hT : TabF w) (n0 : Nat) (t : Th) (v2 v3 : Value) (h2 : SlN w (PF n0 w) t.locals v2) (h3 : SlS w (PF n0 w) t.body v3) (hsh : shT t = true) (hn : t.nok) :
    Calls Tryz.prog 41 #[.agg #[.string ⟨t.name.toArray⟩, .int .i64 t.line, v2, v3]] w fun e w' => e = .returned (.bool true) ∧ Below w.heap.size w w' := by
  obtain ⟨name, line, locals, body⟩ := t
  obtain ⟨hn1, hn2, hn3, hn4, hn5⟩ := hn
  simp only [shT, Bool.and_eq_true] at hsh
  obtain ⟨⟨hnm, hlc⟩, hbd⟩ := hsh
  have CI := Lib.hid (fun w => isName_any ⟨name.toArray⟩ w (by show name.toArray.size ≤ _; simpa using hn1))
  have e1 : (⟨name.toArray⟩ : ByteArray).data.toList = name := rfl
  rw [e1, hnm] at CI
  have CE : ∀ W, Below w.heap.size w W → Calls Tryz.prog 70 #[v3, .func (.func 71) #[] #[], .func (.func 72) #[] #[]] W fun e w' => e = .returned (.bool true) ∧ Below W.heap.size W w' := by
    intro W hb
    obtain ⟨rs, hr, hlen, hat⟩ := slS_at (h3.pbelow hb) hn4
    exact everyS_at W (hT.below hb) v3 rs body hr hlen hat hbd hn5
  have HCE := Lib.hid CE
  obtain ⟨a2, c2, rfl, hl2⟩ := h2
  obtain ⟨a3, c3, rfl, _⟩ := h3
  obtain ⟨n, hne⟩ : ∃ n, n = locals.length := ⟨_, rfl⟩
  have HN := Lib.hid hne
  have HL := Lib.hid hl2
  have HLC := Lib.hid hlc
  have HN2 := Lib.hid hn2
  have hn6 : n ≤ 1000000 := by rw [hne]; exact hn3
  simp only at HCE ⊢
  rw [← hne]
  obtain ⟨m, hm⟩ : ∃ m, m = body.length := ⟨_, rfl⟩
  rw [← hm] at HCE ⊢
  clear hne hm hl2 hlc hn1 hn2 hn3 hn4 hn5 hnm hbd e1 CE hT
  go_enter Tryz.func41, Tryz.ntmps41
  go_wp2_with fail
  obtain ⟨w1, hw1⟩ : ∃ w1, w1 = w.alloc (.cells #[.string ⟨name.toArray⟩, .int .i64 line, .slice a2 n c2, .slice a3 m c3] 56) := ⟨_, rfl⟩
  rw [← hw1]
  have hb1 : Below w.heap.size w w1 := hw1 ▸ (Below.refl _ _).alloc (Nat.le_refl _) _
  have hc1 : ∀ j u, (#[Value.string ⟨name.toArray⟩, .int .i64 line, .slice a2 n c2, .slice a3 m c3] : Array Value)[j]? = some u → w1.cell? ⟨w.heap.size, j, none⟩ = some u := fun j u hj => by
    rw [hw1, World.cell?_alloc_at _ _ _ _ rfl]
    exact hj
  have hz1 : w.heap.size < w1.heap.size := by rw [hw1]; simp
  have HC1 := Lib.hid hc1
  have HB1 := Lib.hid hb1
  clear hw1 hc1 hb1
  go_loopg [8] n (fun gk iv wr => ∃ k : Nat, k + gk = n ∧ iv = .int .i64 k ∧ Below w1.heap.size w1 wr)
  case atStart => exact ⟨0, by omega, rfl, Below.refl _ _⟩
  case round =>
    obtain ⟨k, hk, rfl, hbel⟩ := hrel
    have HBel := Lib.hid hbel
    by_cases hlt : k < n
    · have hkl : k < locals.length := by rw [← HN.out]; exact hlt
      obtain ⟨g, rfl, hS, hcell, _⟩ := HL.out.resolve_left (by rintro rfl; simp at hkl)
      have hs0 : (strs locals)[k]? = some (.string ⟨locals[k].toArray⟩) := by simp [strs, hkl]
      have hcw := hcell k _ hs0
      have hc0 : wr.cell? ⟨g, k, none⟩ = some (.string ⟨locals[k].toArray⟩) := ((HB1.out.trans (hbel.mono HB1.out.size)).cell (p := ⟨g, k, none⟩) (block_lt_of_cell hcw)).trans hcw
      have hnk : Tok.isName locals[k] = true := (List.all_eq_true.1 HLC.out) _ (List.getElem_mem _)
      have CK := isName_any ⟨locals[k].toArray⟩ wr (by show locals[k].toArray.size ≤ _; simpa using HN2.out _ (List.getElem_mem _))
      have ek : (⟨locals[k].toArray⟩ : ByteArray).data.toList = locals[k] := rfl
      rw [ek, hnk] at CK
      have HCK := Lib.hid CK
      generalize (⟨locals[k].toArray⟩ : ByteArray) = nk at hc0 HCK
      clear hcell hs0 hcw hnk CK ek hkl hbel hS
      go_wp2_with (go_at_call 69; refine HCK.out.mono ?_; rintro e w2 ⟨rfl, hb2⟩)
      go_roundg (gk - 1)
      case measure => omega
      case rel => exact ⟨k + 1, by omega, by go_num, HBel.out.trans (hb2.mono HBel.out.size)⟩
    · have d0 := (hbel.cell (p := ⟨w.heap.size, 0, none⟩) hz1).trans (HC1.out 0 _ rfl)
      have d3 := (hbel.cell (p := ⟨w.heap.size, 3, none⟩) hz1).trans (HC1.out 3 _ rfl)
      clear hbel
      go_wp2_with (first
        | (go_at_call 69; refine (CI.out _).mono ?_; rintro e w2 ⟨rfl, hb2⟩; have f3 := (hb2.cell (p := ⟨w.heap.size, 3, none⟩) (block_lt_of_cell d3)).trans d3; have hB2 := HB1.out.trans ((HBel.out.trans (hb2.mono HBel.out.size)).mono HB1.out.size))
        | (go_at_call 70; refine (HCE.out _ hB2).mono ?_; rintro e w3 ⟨rfl, hb3⟩))
      go_ret
      exact ⟨rfl, hB2.trans (hb3.mono hB2.size)⟩

namespace Par
open Tok (T Bs)
theorem RdT.len4 {w : World} {S : Nat → Prop} {t : Th} {cs : List Value} (h : RdT w S t cs) : cs.length = 4 := by
  obtain ⟨_, _, rfl, _⟩ := h
  rfl
theorem vts_at {w : World} {S : Nat → Prop} : ∀ (l : List Th) (xs : List Value), VTs w S l xs → ∀ (k : Nat) (h : k < l.length), ∃ cs, RdT w S l[k] cs ∧ ∀ j u, cs[j]? = some u → xs[k * 4 + j]? = some u
  | [], _, _, k, h => absurd h (by simp)
  | s :: r, _, hx, 0, _ => by
    obtain ⟨cs, rest, rfl, hs, _⟩ := hx
    refine ⟨cs, hs, fun j u hj => ?_⟩
    have hlt : j < cs.length := (List.getElem?_eq_some_iff.1 hj).1
    rw [Nat.zero_mul, Nat.zero_add, List.getElem?_append_left hlt]
    exact hj
  | s :: r, _, hx, k + 1, h => by
    obtain ⟨cs, rest, rfl, hs, hr⟩ := hx
    obtain ⟨cs2, h2, hat⟩ := vts_at r rest hr k (by simpa using h)
    refine ⟨cs2, h2, fun j u hj => ?_⟩
    have hl := hs.len4
    rw [List.getElem?_append_right (by omega), show (k + 1) * 4 + j - cs.length = k * 4 + j by omega]
    exact hat j u hj
theorem dcells_at : ∀ (l : List Dc) (k : Nat) (h : k < l.length) (j : Nat) (u : Value), (dcells l[k])[j]? = some u → (l.flatMap dcells)[k * 6 + j]? = some u
  | [], k, h, _, _, _ => absurd h (by simp)
  | d :: r, 0, _, j, u, hj => by
    have hlt : j < (dcells d).length := (List.getElem?_eq_some_iff.1 hj).1
    rw [List.flatMap_cons, Nat.zero_mul, Nat.zero_add, List.getElem?_append_left hlt]
    exact hj
  | d :: r, k + 1, h, j, u, hj => by
    have hl : (dcells d).length = 6 := rfl
    rw [List.flatMap_cons, List.getElem?_append_right (by omega), show (k + 1) * 6 + j - (dcells d).length = k * 6 + j by omega]
    exact dcells_at r k (by simpa using h) j u hj
theorem SlN.pbelow {w w' : World} {n0 : Nat} {l : List Bs} {v : Value} (h : SlN w (PF n0 w) l v) (b : Below w.heap.size w w') : SlN w' (PF n0 w') l v :=
  SlN.turn (fun _ _ _ hk hc => ⟨(b.cell (block_lt_of_cell hc)).trans hc, hk.1, hk.2.below b⟩) h
end Par

set_option maxHeartbeats 8000000 in
set_option maxRecDepth 100000 in
theorem shaped_any (w : World) (hT : TabF w) (n0 : Nat) (p : Pg) (v0 v1 : Value) (h : RdP w (PF n0 w) p v0 v1) (hsh : shP p = true) (hn : p.nok) :
    Calls Tryz.prog 17 #[.agg #[v0, v1]] w fun e w' => e = .returned (.bool true) ∧ Below w.heap.size w w' := by
  obtain ⟨decls, threads⟩ := p
  obtain ⟨hnd, hnt, hld, hlt0⟩ := hn
  simp only [shP, Bool.and_eq_true] at hsh
  obtain ⟨⟨hsd, hst⟩, hne⟩ := hsh
  have hpos : 0 < threads.length := by
    cases threads with
    | nil => simp at hne
    | cons x r => simp
  obtain ⟨⟨a0, c0, rfl, hd⟩, ⟨a1, c1, rfl, ht⟩⟩ := h
  simp only at hd ht hnd hnt hld hlt0 ⊢
  obtain ⟨nd, hnde⟩ : ∃ nd, nd = decls.length := ⟨_, rfl⟩
  obtain ⟨nt, hnte⟩ : ∃ nt, nt = threads.length := ⟨_, rfl⟩
  have HND := Lib.hid hnde
  have HNT := Lib.hid hnte
  rw [← hnde, ← hnte]
  have hnd6 : nd ≤ 1000000 := by omega
  have hnt6 : nt ≤ 1000000 := by omega
  have hnt0 : 0 < nt := by omega
  have HD := Lib.hid hd
  have HT := Lib.hid ht
  have HSD := Lib.hid hsd
  have HST := Lib.hid hst
  have HNd := Lib.hid hnd
  have HNt := Lib.hid hnt
  have HTab := Lib.hid hT
  clear hnde hnte hd ht hsd hst hnd hnt hT hld hlt0 hpos hne
  go_enter Tryz.func17, Tryz.ntmps17
  go_wp2_with fail
  obtain ⟨w1, hw1⟩ : ∃ w1, w1 = w.alloc (.cells #[.slice a0 nd c0, .slice a1 nt c1] 25) := ⟨_, rfl⟩
  rw [← hw1]
  have hb1 : Below w.heap.size w w1 := hw1 ▸ (Below.refl _ _).alloc (Nat.le_refl _) _
  have hc11 : w1.cell? ⟨w.heap.size, 1, none⟩ = some (.slice a1 nt c1) := by
    rw [hw1, World.cell?_alloc_at _ _ _ _ rfl]
    rfl
  have hz1 : w.heap.size < w1.heap.size := by rw [hw1]; simp
  have HC1 := Lib.hid hc11
  have HB1 := Lib.hid hb1
  clear hw1 hc11 hb1
  go_loopg [10] nd (fun gk iv wr => ∃ k : Nat, k + gk = nd ∧ iv = .int .i64 k ∧ Below w1.heap.size w1 wr)
  case atStart => exact ⟨0, by omega, rfl, Below.refl _ _⟩
  case round =>
    obtain ⟨k, hk, rfl, hbel⟩ := hrel
    have HBel := Lib.hid hbel
    by_cases hlt : k < nd
    · have hkl : k < decls.length := by rw [← HND.out]; exact hlt
      obtain ⟨g, rfl, hS, hcell, _⟩ := HD.out.resolve_left (by rintro rfl; simp at hkl)
      have hat : ∀ j u, (dcells decls[k])[j]? = some u → wr.cell? ⟨g, k * 6 + j, none⟩ = some u := fun j u hj => by
        have h1 := hcell _ u (dcells_at decls k hkl j u hj)
        exact ((HB1.out.trans (hbel.mono HB1.out.size)).cell (p := ⟨g, k * 6 + j, none⟩) (block_lt_of_cell h1)).trans h1
      have q0 := hat 0 _ rfl
      rw [Nat.add_zero] at q0
      have q1 := hat 1 _ rfl
      have q2 := hat 2 _ rfl
      have q3 := hat 3 _ rfl
      have q4 := hat 4 _ rfl
      have q5 := hat 5 _ rfl
      have hsk : shD decls[k] = true := (List.all_eq_true.1 HSD.out) _ (List.getElem_mem _)
      have hnk := HNd.out _ (List.getElem_mem hkl)
      have HCD := Lib.hid (fun W => shapedDecl_any W decls[k] hsk hnk.1 hnk.2)
      have hgl := block_lt_of_cell q0
      generalize decls[k] = dk at *
      obtain ⟨kd, ld, nmd, szd, ind, ond⟩ := dk
      simp only at HCD q0 q1 q2 q3 q4 q5
      clear hcell hsk hnk hkl hbel hat hS
      go_wp2_with (go_at_call 40; refine (HCD.out _).mono ?_; rintro e w2 ⟨rfl, hb2⟩)
      go_roundg (gk - 1)
      case measure => omega
      case rel => exact ⟨k + 1, by omega, by go_num, (HBel.out.alloc HBel.out.size _).trans (hb2.mono (by have := HBel.out.size; simp; omega))⟩
    · have d1 := (hbel.cell (p := ⟨w.heap.size, 1, none⟩) hz1).trans HC1.out
      clear hbel
      go_wp2_with fail
      obtain ⟨wq, hwq⟩ : ∃ wq, wq = wr := ⟨_, rfl⟩
      subst hwq
      go_loopg [21] nt (fun gk iv wr => ∃ k : Nat, k + gk = nt ∧ iv = .int .i64 k ∧ Below w1.heap.size w1 wr)
      case atStart => exact ⟨0, by omega, rfl, HBel.out⟩
      case round =>
        obtain ⟨k, hk, rfl, hbel⟩ := hrel
        have HBel2 := Lib.hid hbel
        by_cases hlt : k < nt
        · have hkl : k < threads.length := by rw [← HNT.out]; exact hlt
          obtain ⟨g, xs, rfl, hS, hvt, hcell, _⟩ := HT.out.resolve_left (by rintro rfl; simp at hkl)
          obtain ⟨cs, hrd, hat0⟩ := vts_at threads xs hvt k hkl
          have hbw := HB1.out.trans (hbel.mono HB1.out.size)
          have hat : ∀ j u, cs[j]? = some u → wr.cell? ⟨g, k * 4 + j, none⟩ = some u := fun j u hj => by
            have h1 := hcell _ u (hat0 j u hj)
            exact (hbw.cell (p := ⟨g, k * 4 + j, none⟩) (block_lt_of_cell h1)).trans h1
          obtain ⟨v2, v3, rfl, hN, hSl⟩ := hrd
          have q0 := hat 0 _ rfl
          rw [Nat.add_zero] at q0
          have q1 := hat 1 _ rfl
          have q2 := hat 2 _ rfl
          have q3 := hat 3 _ rfl
          have hsk : shT threads[k] = true := (List.all_eq_true.1 HST.out) _ (List.getElem_mem _)
          have hnk := HNt.out _ (List.getElem_mem hkl)
          have HCT := Lib.hid (fun W (hb : Below w.heap.size w W) => shapedThread_any W (HTab.out.below hb) n0 threads[k] v2 v3 (hN.pbelow hb) (hSl.pbelow hb) hsk hnk)
          obtain ⟨b2, c2, rfl, _⟩ := hN
          obtain ⟨b3, c3, rfl, _⟩ := hSl
          have hgl := block_lt_of_cell q0
          have HBW := Lib.hid hbw
          generalize threads[k] = tk at *
          obtain ⟨nmt, lnt, lot, bot⟩ := tk
          simp only at HCT q0 q1 q2 q3
          clear hcell hsk hnk hkl hbel hat hat0 hS hvt hbw
          go_wp2_with (go_at_call 41; refine (HCT.out _ (HBW.out.alloc HBW.out.size _)).mono ?_; rintro e w2 ⟨rfl, hb2⟩)
          go_roundg (gk - 1)
          case measure => omega
          case rel => exact ⟨k + 1, by omega, by go_num, (HBel2.out.alloc HBel2.out.size _).trans (hb2.mono (by have := HBel2.out.size; simp; omega))⟩
        · have f1 := (hbel.cell (p := ⟨w.heap.size, 1, none⟩) hz1).trans HC1.out
          clear hbel
          go_wp2_with fail
          go_ret
          exact ⟨rfl, HB1.out.trans (HBel2.out.mono HB1.out.size)⟩
end Go.Proofs.YtncflfadgcaldaaGreatDoor
