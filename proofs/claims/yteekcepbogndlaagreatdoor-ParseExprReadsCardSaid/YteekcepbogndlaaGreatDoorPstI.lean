/-
  The contract of block of package parse, over that of statement.
-/
import Derived.Test.YteekcepbogndlaaGreatDoorPstE
import Derived.Test.YteekcepbogndlaaGreatDoorPstF
import Derived.Maps.AppendAt
import Derived.Deep.AppendLies
namespace Go.Proofs.YteekcepbogndlaaGreatDoor
open Go.RowKit
open Par

namespace Par
open Tok (T Bs)
/-- What 'statement' leaves. -/
def PostS (f : Pa Sm) (P : Nat) (all : List T) (st : St) (w : World) (e : Ending) (w' : World) : Prop :=
  ∃ op line nm ag a4 l4 c4 e0 e1 e2 a3 l3 c3 a9 l9 c9 a10 l10 c10,
    e = .returned (.agg #[.int .i64 op, .int .i64 line, .string nm, .string ag, .slice a4 l4 c4, .int .i64 e0, .int .i64 e1, .string e2, .slice a3 l3 c3, .slice a9 l9 c9, .slice a10 l10 c10]) ∧ Went P all (after f st) w w' ∧
    ∀ s, val f st = some s → RdS w' (From w.heap.size) s [.int .i64 op, .int .i64 line, .string nm, .string ag, .slice a4 l4 c4, .int .i64 e0, .int .i64 e1, .string e2, .slice a3 l3 c3, .slice a9 l9 c9, .slice a10 l10 c10]
/-- The method 'statement' reads what f reads, where at most N tokens are left. -/
def SM (f : Pa Sm) (N : Nat) : Prop := ∀ (w : World) (P : Nat) (all : List T) (st : St), Is w P all st → st.rem.length ≤ N → Calls Tryz.prog 141 #[.pointer (some ⟨P, 0, none⟩)] w (PostS f P all st w)
def bodyP (f : Pa Sm) : Pa (List Sm) := fun ts => stmtsL f (ts.length + 1) [] ts
theorem block_split (f : Pa Sm) (st : St) : after (blockP f) st = after (bodyP f) (expSt [123] st) ∧ ∀ l, val (blockP f) st = some l → val (bodyP f) (expSt [123] st) = some l := by
  have e : blockP f = andThen (exp [123]) fun _ => bodyP f := rfl
  rw [e, ← after_exp]
  refine ⟨after_andThen _ _ () st, fun l hl => ?_⟩
  obtain ⟨_, _, h⟩ := val_andThen hl
  exact h
/-- What is known at the head of block's loop when the parser is in state st2 and n statements, whose cells are xs, have been read. -/
def BSo (f : Pa Sm) (st1 : St) (wr : World) (S : Nat → Prop) (n : Nat) (xs : List Value) : St → Prop
  | .off q => after (bodyP f) st1 = .off q ∧ val (bodyP f) st1 = none
  | .on q => ∃ acc m, q.length < m ∧ n = acc.length ∧ VSs wr S acc xs ∧ after (bodyP f) st1 = after (stmtsL f m acc) (.on q) ∧ val (bodyP f) st1 = val (stmtsL f m acc) (.on q)
theorem bso_start (f : Pa Sm) (st1 : St) (wr : World) (S : Nat → Prop) : BSo f st1 wr S 0 [] st1 := by
  cases st1 with
  | off q => exact ⟨rfl, rfl⟩
  | on q => exact ⟨[], q.length + 1, by omega, rfl, rfl, rfl, rfl⟩
theorem bso_end {f : Pa Sm} {st1 : St} {wr : World} {S : Nat → Prop} {n : Nat} {xs : List Value} {t : T} {r : List T} (h : BSo f st1 wr S n xs (.on (t :: r))) (ht : t.2.1 = [125]) :
    after (bodyP f) st1 = .on r ∧ ∀ l, val (bodyP f) st1 = some l → n = l.length ∧ VSs wr S l xs := by
  obtain ⟨acc, m, hm, h1, h2, h3, h4⟩ := h
  obtain ⟨j, rfl⟩ : ∃ j, m = j + 1 := ⟨m - 1, by omega⟩
  have e : stmtsL f (j + 1) acc (t :: r) = .ok (acc, r) := by simp [stmtsL, txt, ht]
  rw [h3, h4]
  refine ⟨by simp [after, e], fun l hl => ?_⟩
  simp only [val, e] at hl
  cases hl
  exact ⟨h1, h2⟩
theorem bso_step {f : Pa Sm} (hf : Lt f) {st1 : St} {wr w6 : World} {S S' : Nat → Prop} {n : Nat} {xs cs : List Value} {q : List T} (h : BSo f st1 wr S n xs (.on q)) (ht : txt q ≠ [125])
    (hv : ∀ acc s, VSs wr S acc xs → val f (.on q) = some s → VSs w6 S' (acc ++ [s]) (xs ++ cs)) : BSo f st1 w6 S' (n + 1) (xs ++ cs) (after f (.on q)) := by
  obtain ⟨acc, m, hm, h1, h2, h3, h4⟩ := h
  obtain ⟨j, rfl⟩ : ∃ j, m = j + 1 := ⟨m - 1, by omega⟩
  cases hx : f q with
  | error q2 =>
    have e : stmtsL f (j + 1) acc q = .error q2 := by simp [stmtsL, ht, hx]
    have e1 : after f (.on q) = .off q2 := by simp [after, hx]
    rw [e1]
    exact ⟨by rw [h3]; simp [after, e], by rw [h4]; simp [val, e]⟩
  | ok p =>
    obtain ⟨s, q2⟩ := p
    have e : stmtsL f (j + 1) acc q = stmtsL f j (acc ++ [s]) q2 := by simp [stmtsL, ht, hx]
    have e1 : after f (.on q) = .on q2 := by simp [after, hx]
    have hlt := hf _ _ _ hx
    rw [e1]
    exact ⟨acc ++ [s], j, by omega, by simp [h1], hv acc s h2 (by simp [val, hx]), by rw [h3]; simp [after, e], by rw [h4]; simp [val, e]⟩
/-- 1 while the parser reads, 0 once it has failed. -/
def lives (w : World) (P : Nat) : Nat := match w.cell? ⟨P, 2, none⟩ with
  | some (.bool true) => 0
  | _ => 1
def alive : St → Nat
  | .off _ => 0
  | .on _ => 1
theorem Is.lives {w : World} {P : Nat} {all : List T} {st : St} (h : Is w P all st) : lives w P = alive st := by
  obtain ⟨v, k, h⟩ := h
  simp only [Par.lives, h.c2]
  cases st <;> rfl
theorem Tryz.infoSm : (Tryz.prog.info? 98).map (fun i => (i.zero, i.size, i.bytes)) = some (some (.agg #[.int .i64 0, .int .i64 0, .string ⟨#[]⟩, .string ⟨#[]⟩, .slice none 0 0, .int .i64 0, .int .i64 0, .string ⟨#[]⟩, .slice none 0 0, .slice none 0 0, .slice none 0 0]), 11, 176) := by kernel_rfl
/-- The blocks in which the statements read so far may lie: new ones, but not that of their own row. -/
def Off (n : Nat) (v : Value) : Nat → Prop := fun g => n ≤ g ∧ v.ownBlock ≠ some g
theorem after_rem' {f : Pa Sm} (hf : Lt f) (st : St) (he : Er f) : (after f st).rem.length ≤ st.rem.length := after_mon ⟨fun ts a r h => Nat.le_of_lt (hf ts a r h), he⟩ st
theorem own_lt {w : World} {B e size n : Nat} {v : Value} {xs : List Value} (h : w.ownsRow B e size v n xs) : ∀ k, v.ownBlock = some k → B ≤ k ∧ k < w.heap.size := by
  intro k hk
  rcases h.2 with ⟨rfl, _⟩ | ⟨g, cap, cur, rfl, hg, hgg, _⟩
  · simp [Value.ownBlock] at hk
  · simp [Value.ownBlock] at hk
    subst hk
    exact ⟨hg, (Array.getElem?_eq_some_iff.1 hgg).1⟩
theorem cells_new (w : World) (cs : Array Value) (t : TypeId) : ∀ j u, cs.toList[j]? = some u → (w.alloc (.cells cs t)).cell? ((⟨w.heap.size, 0, none⟩ : Addr).add j) = some u := by
  intro j u hj
  have h : cs[j]? = some u := by simpa using hj
  rw [Addr.add_lit]
  simp [h]
/-- What an append leaves of the statements read so far, and of the new one. -/
theorem bso_append {P n0 n e size : Nat} {wr w4 w5 w6 : World} {v v6 : Value} {xs cs : List Value} {o : Obj} (hP : P < n0) (hown : wr.ownsRow n0 e size v n xs) (k45 : Kept P wr w5) (h4 : wr.heap.size ≤ w4.heap.size)
    (hg : (w5.alloc o).grownBy w6 v.ownBlock) (hloc : v6.ownBlock = v.ownBlock ∨ v6.ownBlock = some (w5.alloc o).heap.size) (h04 : n0 ≤ w4.heap.size) (acc : List Sm) (s : Sm)
    (ha : VSs wr (Off n0 v) acc xs) (hs : RdS w5 (From w4.heap.size) s cs) : VSs w6 (Off n0 v6) (acc ++ [s]) (xs ++ cs) := by
  have hl := own_lt hown
  have s5 := k45.size
  have c6 : ∀ g oo, g < w5.heap.size → v.ownBlock ≠ some g → w6.cell? ⟨g, oo, none⟩ = w5.cell? ⟨g, oo, none⟩ := fun g oo hlt hne => by
    refine World.cell?_of_block ?_
    exact (hg.block g (by simp; omega) (fun e => hne e.symm)).trans (Below.heap_alloc _ _ _ hlt)
  have off : ∀ g, n0 ≤ g → g < w5.heap.size → v.ownBlock ≠ some g → Off n0 v6 g := fun g h0 hlt hne => by
    refine ⟨h0, ?_⟩
    rcases hloc with h | h
    · rw [h]; exact hne
    · rw [h]
      intro e
      injection e with e
      simp at e
      omega
  refine VSs.snoc acc xs s cs (VSs.turn ?_ _ _ ha) (RdS.turn ?_ _ _ hs)
  · intro g oo u hgo hc
    have hlt : g < wr.heap.size := block_lt_of_cell (a := ⟨g, oo, none⟩) hc
    have hgP : g ≠ P := by have := hgo.1; omega
    exact ⟨(c6 g oo (by omega) hgo.2).trans ((k45.cell hlt hgP).trans hc), off g hgo.1 (by omega) hgo.2⟩
  · intro g oo u hgo hc
    have hlt : g < w5.heap.size := block_lt_of_cell (a := ⟨g, oo, none⟩) hc
    have hgo2 : w4.heap.size ≤ g := hgo
    have hne : v.ownBlock ≠ some g := fun e => by have := (hl g e).2; omega
    exact ⟨(c6 g oo hlt hne).trans hc, off g (by omega) hlt hne⟩
/-- A row of statements is a slice of them. -/
theorem own_slS {w : World} {n0 : Nat} {a : Option Addr} {n cap : Nat} {xs : List Value} {l : List Sm} {S : Nat → Prop} (hown : w.ownsRow n0 98 11 (.slice a n cap) n xs) (hn : n = l.length) (hv : VSs w S l xs) (hS : ∀ g, S g → From n0 g) : SlS w (From n0) l (.slice a n cap) := by
  refine ⟨a, cap, by rw [hn], ?_⟩
  rcases Nat.eq_zero_or_pos n with h0 | h0
  · exact .inl (List.eq_nil_of_length_eq_zero (by omega))
  · obtain ⟨g, cap2, he, hb, hlt⟩ := hown.form h0
    injection he with h1 h2 h3
    refine .inr ⟨g, xs, h1, hb, VSs.turn (fun k o u hk hc => ⟨hc, hS k hk⟩) _ _ hv, fun j u hj => ?_⟩
    have := hown.cells (g := g) (by rw [h1]; rfl) j u hj
    simpa [Addr.add_lit] using this
end Par

set_option maxHeartbeats 4000000 in
set_option maxRecDepth 100000 in
theorem block_of (f : Pa Sm) (hf : Lt f) (he : Er f) (N : Nat) (hs : SM f N) : BM f N := by
  intro w P all st h hN
  have hP := h.lt
  have CE := Lib.hid (expect_any w P all st ⟨#[123]⟩ h (by decide))
  have HL := Lib.hid (block_split f st)
  have hN1 : (expSt [123] st).rem.length ≤ N := by
    rw [← after_exp]
    exact Nat.le_trans (after_mon (mon_exp _) st) hN
  obtain ⟨st1, hst1⟩ : ∃ st1, st1 = expSt [123] st := ⟨_, rfl⟩
  have CE2 : Hid (Calls Tryz.prog 105 #[.pointer (some ⟨P, 0, none⟩), .string ⟨#[123]⟩] w fun e w' => e = .returned (.tuple #[]) ∧ Went P all st1 w w') := by rw [hst1]; exact CE
  rw [← hst1] at HL hN1
  clear CE h hst1 hN
  have HS := Lib.hid hs
  clear hs
  obtain ⟨i0, hi, hz0, hz1, hz2⟩ := info_parts Tryz.infoSm
  show Calls _ _ _ _ _
  go_enter Tryz.func107, Tryz.ntmps107
  go_wp2_with (go_at_call 105; refine CE2.out.mono ?_; rintro e w1 ⟨rfl, hk1, hi1⟩)
  go_loopw [3] (fun v wr => ∃ n xs st2, wr.ownsRow w.heap.size 98 11 v n xs ∧ Kept P w wr ∧ Is wr P all st2 ∧ BSo f st1 wr (Off w.heap.size v) n xs st2 ∧ n + st2.rem.length + alive st2 ≤ 5002 ∧ st2.rem.length ≤ N) (fun _ wr => 2 * (all.length - nxt wr P) + lives wr P)
  case atStart => exact ⟨0, [], st1, ⟨rfl, .inl ⟨rfl, rfl⟩⟩, hk1, hi1, bso_start _ _ _ _, by have := hi1.rem; cases st1 <;> simp only [alive] <;> omega, hN1⟩
  case round =>
    obtain ⟨n, xs, st2, hown, hkr, hir, hso, hn, hN2⟩ := hrel
    obtain ⟨a, cap, rfl⟩ := own_slice hown
    obtain ⟨v2, k2, hat⟩ := id hir
    have c2 := hat.c2
    clear hat
    cases st2 with
    | off q =>
      simp only [St.bad] at c2
      go_wp2_with fail
      go_ret
      refine ⟨a, n, cap, rfl, ⟨hkr, by rw [HL.out.1, hso.1]; exact hir⟩, fun l hl => ?_⟩
      have := HL.out.2 l hl
      rw [hso.2] at this
      cases this
    | on q =>
      simp only [St.bad] at c2
      by_cases ht : txt q = [125]
      · obtain ⟨t, r, rfl, ht2⟩ : ∃ t r, q = t :: r ∧ t.2.1 = [125] := by
          match q, ht with
          | [], ht => cases ht
          | t :: r, ht => exact ⟨t, r, rfl, ht⟩
        have CS := Lib.hid (skip_yes wr P all t r ⟨#[125]⟩ hir ht2)
        have HE := Lib.hid (bso_end hso ht2)
        clear ht ht2 hso
        go_wp2_with (go_at_call 139; refine CS.out.mono ?_; rintro e w4 ⟨rfl, hw4⟩)
        go_ret
        refine ⟨a, n, cap, rfl, ⟨hkr.trans hw4.1, by rw [HL.out.1, HE.out.1]; exact hw4.2⟩, fun l hl => ?_⟩
        obtain ⟨h1, h2⟩ := HE.out.2 l (HL.out.2 l hl)
        exact own_slS (own_kept hown hw4.1 hP) h1 (VSs.turn (fun g o u hg hc => ⟨(hw4.1.cell (g := g) (block_lt_of_cell (a := ⟨g, o, none⟩) hc) (by have := hg.1; omega)).trans hc, hg⟩) _ _ h2) (fun g hg => hg.1)
      · have CS := Lib.hid (skip_no wr P all (.on q) ⟨#[125]⟩ hir ht)
        have HSO := Lib.hid hso
        have HT := Lib.hid ht
        have hw0 := hkr.size
        have HNX := Lib.hid hir.nxt
        have HLV := Lib.hid hir.lives
        clear hso ht
        go_wp2_with (first
          | (go_at_call 139; refine CS.out.mono ?_; rintro e w4 ⟨rfl, hw4⟩; have s4 := hw4.1.size)
          | (go_at_call 141; refine (HS.out _ P all _ hw4.2 hN2).mono ?_; rintro e w5 ⟨op, line, nm, ag, a4, l4, c4, e0, e1, e2, a3, l3, c3, a9, l9, c9, a10, l10, c10, rfl, hw5, hv5⟩; have s5 := hw5.1.size; have hown5 := own_kept hown (hw4.1.trans hw5.1) hP)
          | (at_builtin; refine wpList_append_own_at _ rfl (.tmp 16) (.tmp 19) 67 rfl w.heap.size 98 i0 (.agg #[.int .i64 0, .int .i64 0, .string ⟨#[]⟩, .string ⟨#[]⟩, .slice none 0 0, .int .i64 0, .int .i64 0, .string ⟨#[]⟩, .slice none 0 0, .slice none 0 0, .slice none 0 0]) 11 176 Tryz.underlying67 hi hz0 hz1 hz2 rfl (by decide) _ _ _ rfl (hown5.alloc _) ⟨w5.heap.size, 0, none⟩ 1 1 [.int .i64 op, .int .i64 line, .string nm, .string ag, .slice a4 l4 c4, .int .i64 e0, .int .i64 e1, .string e2, .slice a3 l3 c3, .slice a9 l9 c9, .slice a10 l10 c10] rfl rfl (cells_new _ _ _) (by intro u hu; simp only [List.mem_cons, List.not_mem_nil, or_false] at hu; rcases hu with rfl | rfl | rfl | rfl | rfl | rfl | rfl | rfl | rfl | rfl | rfl <;> rfl) (by unfold maxLen; omega) (by omega) (by simp; omega) ?_; intro v6 w6 hown6 hgrow6 hnil6 hloc6))
        have hrow : ∀ k, (Value.slice a n cap).ownBlock = some k → w.heap.size ≤ k := fun k hk => (own_lt hown k hk).1
        have hk6 := Kept.grown ((hkr.trans (hw4.1.trans hw5.1)).alloc (.cells #[.int .i64 op, .int .i64 line, .string nm, .string ag, .slice a4 l4 c4, .int .i64 e0, .int .i64 e1, .string e2, .slice a3 l3 c3, .slice a9 l9 c9, .slice a10 l10 c10] 98)) hgrow6 hrow
        have hi6 : Is w6 P all (after f (.on q)) := (hw5.2.below ((Below.refl _ _).alloc (Nat.le_refl _) (.cells #[.int .i64 op, .int .i64 line, .string nm, .string ag, .slice a4 l4 c4, .int .i64 e0, .int .i64 e1, .string e2, .slice a3 l3 c3, .slice a9 l9 c9, .slice a10 l10 c10] 98))).past ((Below.refl _ _).grown hgrow6 (by simp; omega) (fun k hk => by have := hrow k hk; omega))
        have hrem := after_rem' hf (.on q) he
        have hso6 : BSo f st1 w6 (Off w.heap.size v6) (n + 1) (xs ++ [.int .i64 op, .int .i64 line, .string nm, .string ag, .slice a4 l4 c4, .int .i64 e0, .int .i64 e1, .string e2, .slice a3 l3 c3, .slice a9 l9 c9, .slice a10 l10 c10]) (after f (.on q)) :=
          bso_step hf HSO.out HT.out (fun acc s ha hs => bso_append hP hown (hw4.1.trans hw5.1) s4 hgrow6 hloc6 (by omega) acc s ha (hv5 s hs))
        have hmeas : 2 * (all.length - nxt w6 P) + lives w6 P < 2 * (all.length - nxt wr P) + lives wr P := by
          rw [hi6.nxt, HNX.out, HLV.out, hi6.lives]
          cases hx : f q with
          | error q2 =>
            have e1 : after f (.on q) = .off q2 := by simp [after, hx]
            have := he _ _ hx
            rw [e1]
            simp only [St.rem, alive]
            omega
          | ok p =>
            obtain ⟨s, q2⟩ := p
            have e1 : after f (.on q) = .on q2 := by simp [after, hx]
            have := hf _ _ _ hx
            rw [e1]
            simp only [St.rem, alive]
            omega
        have hbnd : n + 1 + (after f (.on q)).rem.length + alive (after f (.on q)) ≤ 5002 := by
          cases hx : f q with
          | error q2 =>
            have e1 : after f (.on q) = .off q2 := by simp [after, hx]
            have := he _ _ hx
            rw [e1]
            simp only [St.rem, alive] at hn ⊢
            omega
          | ok p =>
            obtain ⟨s, q2⟩ := p
            have e1 : after f (.on q) = .on q2 := by simp [after, hx]
            have := hf _ _ _ hx
            rw [e1]
            simp only [St.rem, alive] at hn ⊢
            omega
        have hbN : (after f (.on q)).rem.length ≤ N := Nat.le_trans hrem hN2
        clear HNX HLV
        go_roundw
        case rel => exact ⟨n + 1, _, _, hown6, hk6, hi6, hso6, hbnd, hbN⟩
        case measure => exact hmeas
end Go.Proofs.YteekcepbogndlaaGreatDoor
