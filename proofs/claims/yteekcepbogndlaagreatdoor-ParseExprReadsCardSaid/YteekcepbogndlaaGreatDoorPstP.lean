/-
  Lists of declarations and threads: what appends and stores leave of them.
-/
import Derived.Test.YteekcepbogndlaaGreatDoorPstO
import Derived.Deep.RegionHeld3
import Derived.Deep.RegionLaw
import Derived.Deep.AppendLies
import Derived.Deep.DrawnRows
namespace Go.Proofs.YteekcepbogndlaaGreatDoor
open Go.RowKit
open Par

namespace Par
open Tok (T Bs)
theorem Box.grown {w w' : World} {b : Nat} {vs : List Value} {row : Option Nat} (h : Box w b vs) (hg : w.grownBy w' row) (hne : row ≠ some b) : Box w' b vs := fun j u hj => by
  obtain ⟨h1, h2⟩ := h j u hj
  have hl : b < w.heap.size := block_lt_of_cell (a := ⟨b, j, none⟩) h1
  have hb := hg.block b hl (fun e => hne e.symm)
  exact ⟨(World.cell?_of_block hb).trans h1, (World.frozen?_of_block (w := w) hb).trans h2⟩
theorem Tryz.infoDc : (Tryz.prog.info? 64).map (fun i => (i.zero, i.size, i.bytes)) = some (some (.agg #[.int .i64 0, .int .i64 0, .string ⟨#[]⟩, .int .i64 0, .int .i64 0, .string ⟨#[]⟩]), 6, 64) := by kernel_rfl
theorem Tryz.infoTh : (Tryz.prog.info? 69).map (fun i => (i.zero, i.size, i.bytes)) = some (some (.agg #[.string ⟨#[]⟩, .int .i64 0, .slice none 0 0, .slice none 0 0]), 4, 72) := by kernel_rfl
theorem own_ne {w : World} {B e size n : Nat} {v : Value} {xs : List Value} (h : w.ownsRow B e size v n xs) {b : Nat} (hb : b < B) : v.ownBlock ≠ some b := fun e => by have := (own_lt h b e).1; omega
theorem own_nil (w : World) (B e size : Nat) : w.ownsRow B e size (.slice none 0 0) 0 [] := ⟨by simp, .inl ⟨rfl, rfl⟩⟩
/-- The blocks from n on that were there at m. -/
def Mid (n m : Nat) : Nat → Prop := fun g => n ≤ g ∧ g < m
theorem own_slD {w : World} {n0 : Nat} {v : Value} {n : Nat} {xs : List Value} {l : List Dc} (hown : w.ownsRow n0 64 6 v n xs) (hn : n = l.length) (hx : xs = l.flatMap dcells) : SlD w (Mid n0 w.heap.size) l v := by
  subst hx
  rcases Nat.eq_zero_or_pos n with h0 | h0
  · obtain rfl : l = [] := List.eq_nil_of_length_eq_zero (by omega)
    subst hn
    rcases hown.2 with ⟨rfl, _⟩ | ⟨g, cap, cur, rfl, _⟩
    · exact ⟨none, 0, rfl, .inl rfl⟩
    · exact ⟨_, cap, rfl, .inl rfl⟩
  · obtain ⟨g, cap2, rfl, hb, hlt⟩ := hown.form h0
    refine ⟨_, cap2, by rw [hn], .inr ⟨g, rfl, ⟨hb, (own_lt hown g rfl).2⟩, fun j u hj => ?_⟩⟩
    have := hown.cells (g := g) rfl j u hj
    simpa [Addr.add_lit] using this
theorem dcells_some (d : Dc) (r : List Dc) : ∃ u, ((d :: r).flatMap dcells)[0]? = some u := ⟨_, rfl⟩
theorem SlD.turn {w w' : World} {S S' : Nat → Prop} (h : ∀ k o u, S k → w.cell? ⟨k, o, none⟩ = some u → w'.cell? ⟨k, o, none⟩ = some u ∧ S' k) {l : List Dc} {v : Value} (hl : SlD w S l v) : SlD w' S' l v := by
  obtain ⟨a, cap, rfl, hl⟩ := hl
  refine ⟨a, cap, rfl, ?_⟩
  rcases hl with hl | ⟨g, ha, hg, hr⟩
  · exact .inl hl
  · match l, hr with
    | [], _ => exact .inl rfl
    | e :: r, hr =>
      obtain ⟨u, hu⟩ := dcells_some e r
      exact .inr ⟨g, ha, (h _ _ _ hg (hr 0 u hu)).2, fun j u hj => (h _ _ _ hg (hr j u hj)).1⟩
theorem own_slT {w : World} {n0 : Nat} {a : Option Addr} {n cap : Nat} {xs : List Value} {l : List Th} {S : Nat → Prop} (hown : w.ownsRow n0 69 4 (.slice a n cap) n xs) (hn : n = l.length) (hv : VTs w S l xs) (hS : ∀ g, S g → From n0 g) : SlT w (From n0) l (.slice a n cap) := by
  refine ⟨a, cap, by rw [hn], ?_⟩
  rcases Nat.eq_zero_or_pos n with h0 | h0
  · exact .inl (List.eq_nil_of_length_eq_zero (by omega))
  · obtain ⟨g, cap2, he, hb, hlt⟩ := hown.form h0
    injection he with h1 h2 h3
    refine .inr ⟨g, xs, h1, hb, VTs.turn (fun k o u hk hc => ⟨hc, hS k hk⟩) _ _ hv, fun j u hj => ?_⟩
    have := hown.cells (g := g) (by rw [h1]; rfl) j u hj
    simpa [Addr.add_lit] using this
theorem RdT.len {w : World} {S : Nat → Prop} {t : Th} {cs : List Value} (h : RdT w S t cs) : ∃ u, cs[0]? = some u := by
  obtain ⟨v2, v3, rfl, _⟩ := h
  exact ⟨_, rfl⟩
theorem SlT.turn {w w' : World} {S S' : Nat → Prop} (h : ∀ k o u, S k → w.cell? ⟨k, o, none⟩ = some u → w'.cell? ⟨k, o, none⟩ = some u ∧ S' k) {l : List Th} {v : Value} (hl : SlT w S l v) : SlT w' S' l v := by
  obtain ⟨a, cap, rfl, hl⟩ := hl
  refine ⟨a, cap, rfl, ?_⟩
  rcases hl with hl | ⟨g, xs, ha, hg, hv, hr⟩
  · exact .inl hl
  · match l, hv with
    | [], _ => exact .inl rfl
    | s :: r, hv =>
      have hv2 := VTs.turn h (s :: r) xs hv
      obtain ⟨cs, rest, rfl, hs, _⟩ := hv
      have h0 : ∃ u, (cs ++ rest)[0]? = some u := by
        obtain ⟨u, hu⟩ := hs.len
        match cs, hu with
        | c :: _, _ => exact ⟨c, rfl⟩
      obtain ⟨u, hu⟩ := h0
      exact .inr ⟨g, _, ha, (h _ _ _ hg (hr 0 u hu)).2, hv2, fun j u hj => (h _ _ _ hg (hr j u hj)).1⟩
/-- What an append leaves of the threads read so far, and of the new one. -/
theorem vts_append {P n0 n e size : Nat} {wr w4 w5 w6 : World} {v v6 : Value} {xs cs : List Value} {o : Obj} (hP : P < n0) (hown : wr.ownsRow n0 e size v n xs) (k45 : Kept P wr w5) (h4 : wr.heap.size ≤ w4.heap.size)
    (hg : (w5.alloc o).grownBy w6 v.ownBlock) (hloc : v6.ownBlock = v.ownBlock ∨ v6.ownBlock = some (w5.alloc o).heap.size) (h04 : n0 ≤ w4.heap.size) (acc : List Th) (s : Th)
    (ha : VTs wr (Off n0 v) acc xs) (hs : RdT w5 (From w4.heap.size) s cs) : VTs w6 (Off n0 v6) (acc ++ [s]) (xs ++ cs) := by
  have hl := own_lt hown
  have s5 := k45.size
  have c6 : ∀ g oo, g < w5.heap.size → v.ownBlock ≠ some g → w6.cell? ⟨g, oo, none⟩ = w5.cell? ⟨g, oo, none⟩ := fun g oo hlt hne => by
    refine World.cell?_of_block ?_
    exact (hg.block g (by simp; omega) (fun e => hne e.symm)).trans (Below.heap_alloc _ _ _ hlt)
  have off : ∀ g, n0 ≤ g → g < w5.heap.size → v.ownBlock ≠ some g → Off n0 v6 g := fun g h0 hlt hne => by
    refine ⟨h0, ?_⟩
    rcases hloc with h | h
    · rw [h]; exact hne
    · rw [h]
      intro e
      injection e with e
      simp at e
      omega
  refine VTs.snoc acc xs s cs (VTs.turn ?_ _ _ ha) (hs.turn ?_)
  · intro g oo u hgo hc
    have hlt : g < wr.heap.size := block_lt_of_cell (a := ⟨g, oo, none⟩) hc
    have hgP : g ≠ P := by have := hgo.1; omega
    exact ⟨(c6 g oo (by omega) hgo.2).trans ((k45.cell hlt hgP).trans hc), off g hgo.1 (by omega) hgo.2⟩
  · intro g oo u hgo hc
    have hlt : g < w5.heap.size := block_lt_of_cell (a := ⟨g, oo, none⟩) hc
    have hgo2 : w4.heap.size ≤ g := hgo
    have hne : v.ownBlock ≠ some g := fun e => by have := (hl g e).2; omega
    exact ⟨(c6 g oo hlt hne).trans hc, off g (by omega) hlt hne⟩
theorem val_of_on {α : Type} {f : Pa α} {st : St} {q : List T} (h : after f st = .on q) : ∃ a, val f st = some a := by
  cases st with
  | off r => cases h
  | on r =>
    cases hx : f r with
    | error p => simp [after, hx] at h
    | ok p => exact ⟨p.1, by simp [val, hx]⟩
theorem loc_of {v : Value} {w : World} {gg m cap H : Nat} (h : v.ownBlock = some gg ∨ gg = H) (hH : w.heap.size = H) : (Value.slice (some ⟨gg, 0, none⟩) m cap).ownBlock = v.ownBlock ∨ (Value.slice (some ⟨gg, 0, none⟩) m cap).ownBlock = some w.heap.size := by
  rcases h with h | h
  · exact .inl (by rw [h]; rfl)
  · exact .inr (by rw [hH, ← h]; rfl)
theorem alive_le (st : St) : alive st ≤ 1 := by cases st <;> simp [alive]
/-- A store into an older block. -/
theorem set_far {w : World} {n : Nat} {a : Addr} (ha : a.block < n) (u : Value) {S : Nat → Prop} (hS : ∀ g, S g → n ≤ g) : ∀ k o v, S k → w.cell? ⟨k, o, none⟩ = some v → (w.setCell a u).cell? ⟨k, o, none⟩ = some v ∧ S k := fun k o v hk hc =>
  ⟨(World.cell?_of_block (Below.heap_setCell w a u k (by have := hS k hk; omega))).trans hc, hk⟩
end Par
end Go.Proofs.YteekcepbogndlaaGreatDoor
