/-
  Statements in memory as a forest; which statements are shaped.
-/
import Derived.Test.YtncflfadgcaldaaGreatDoorFiE
import Derived.Test.YtncflfadgcaldaaGreatDoorPstD
namespace Go.Proofs.YtncflfadgcaldaaGreatDoor
open Go.RowKit
open Par

namespace Par
open Tok (T Bs)
/-- Which fields the statements of a kind have: name, second name, index, expression, body, else. -/
def flds : List (List Bool) := [[false, false, false, false, false, false], [true, false, true, true, false, false], [false, false, false, true, true, true], [false, false, false, true, true, false],
  [true, false, false, false, true, false], [true, false, false, false, true, false], [true, false, false, false, true, false], [false, false, false, false, true, false], [false, false, false, false, true, false],
  [true, false, false, false, false, false], [true, false, false, false, false, false], [true, false, false, false, false, false], [true, false, false, false, false, false], [true, false, false, false, false, false],
  [true, false, false, true, false, false], [true, true, false, false, false, false]]
def fl (k j : Nat) : Bool := ((flds[k]?).bind (fun r => r[j]?)).getD false
/-- The table of package parse. -/
def TabF (w : World) : Prop := ∀ k j, k ≤ 15 → j ≤ 5 → w.cell? ⟨2, k * 6 + j, none⟩ = some (.bool (fl k j))
theorem TabF.below {w w' : World} (h : TabF w) (b : Below w.heap.size w w') : TabF w' := fun k j hk hj =>
  (b.cell (p := ⟨2, k * 6 + j, none⟩) (block_lt_of_cell (h k j hk hj))).trans (h k j hk hj)
/-- The expression is zero. -/
def isZeroE : E → Bool
  | .mk op n nm l => decide (op = 0) && decide (n = 0) && decide (nm.size = 0) && l.isEmpty
/-- A statement is shaped, apart from those inside it. -/
def fitSm : Sm → Bool
  | .mk op _ name arg ix ex body els => decide (1 ≤ op) && decide (op ≤ 15) && fname ⟨name.toArray⟩ (fl op 0) && fname ⟨arg.toArray⟩ (fl op 1) && (ix.isEmpty || (fl op 2 && decide (ix.length = 1) && shL ix)) &&
    (if fl op 3 = true then shE ex else isZeroE ex) && (fl op 4 || body.isEmpty) && (fl op 5 || els.isEmpty)
mutual
/-- A shaped statement. -/
def shS : Sm → Bool
  | .mk op line name arg ix ex body els => fitSm (.mk op line name arg ix ex body els) && shSs body && shSs els
def shSs : List Sm → Bool
  | [] => true
  | s :: r => shS s && shSs r
end
theorem shSs_all : ∀ l : List Sm, shSs l = true ↔ ∀ s ∈ l, shS s = true
  | [] => by simp [shSs]
  | s :: r => by simp [shSs, shSs_all r]
mutual
def Sm.sz : Sm → Nat
  | .mk _ _ _ _ _ _ body els => szS body + szS els + 1
def szS : List Sm → Nat
  | [] => 0
  | s :: r => s.sz + szS r
end
mutual
def Sm.ht : Sm → Nat
  | .mk _ _ _ _ _ _ body els => max (htS body) (htS els) + 1
def htS : List Sm → Nat
  | [] => 0
  | s :: r => max s.ht (htS r)
end
theorem szS_sum : ∀ l : List Sm, szS l = (l.map Sm.sz).sum
  | [] => rfl
  | s :: r => by simp only [szS, List.map_cons, List.sum_cons, szS_sum r]
theorem htS_mem : ∀ (l : List Sm) (s : Sm), s ∈ l → s.ht ≤ htS l
  | [], _, h => nomatch h
  | x :: r, s, h => by
    rcases List.mem_cons.1 h with rfl | h
    · simp only [htS]; omega
    · have := htS_mem r s h
      simp only [htS]
      omega
mutual
/-- No name in it is longer than a string may be; its expressions are of a bounded size. -/
def Sm.nok : Sm → Prop
  | .mk _ _ name arg ix ex body els => name.length ≤ maxLen ∧ arg.length ≤ maxLen ∧ nokL ix ∧ ex.nok ∧ szL ix ≤ 500000 ∧ ex.sz ≤ 500000 ∧ nokS body ∧ nokS els
def nokS : List Sm → Prop
  | [] => True
  | s :: r => s.nok ∧ nokS r
end
theorem nokS_get : ∀ (l : List Sm), nokS l → ∀ (k : Nat) (h : k < l.length), l[k].nok
  | [], _, k, h => absurd h (by simp)
  | s :: r, ho, 0, _ => ho.1
  | s :: r, ho, k + 1, h => nokS_get r ho.2 k (by simpa using h)
theorem slE_fun {w : World} {S S' : Nat → Prop} {l l' : List E} {v : Value} (h : SlE w S l v) (h' : SlE w S' l' v) : l = l' := by
  obtain ⟨a, cap, rfl, hl⟩ := h
  obtain ⟨a', cap', hv, hl'⟩ := h'
  injection hv with ha hlen hc
  subst ha
  cases l with
  | nil =>
    cases l' with
    | nil => rfl
    | cons x r => simp at hlen
  | cons x r =>
    cases l' with
    | nil => simp at hlen
    | cons x' r' =>
      obtain ⟨g, hg, _, hr⟩ := hl.resolve_left (by simp)
      obtain ⟨g', hg', _, hr'⟩ := hl'.resolve_left (by simp)
      have : g = g' := by
        rw [hg] at hg'
        injection hg' with hg'
        injection hg' with h1
      subst this
      exact rdL_fun g 0 (x :: r) (x' :: r') hlen hr hr'
theorem same_list {w : World} {g : Nat} {xs ys : List Value} (hlen : xs.length = ys.length) (hx : ∀ j u, xs[j]? = some u → w.cell? ⟨g, j, none⟩ = some u) (hy : ∀ j u, ys[j]? = some u → w.cell? ⟨g, j, none⟩ = some u) : xs = ys := by
  apply List.ext_getElem hlen
  intro k h1 h2
  have e1 := hx k _ (List.getElem?_eq_getElem h1)
  have e2 := hy k _ (List.getElem?_eq_getElem h2)
  rw [e1] at e2
  exact Option.some.inj e2
mutual
theorem rdS_fun {w : World} {S S' : Nat → Prop} : ∀ (s s' : Sm) (cs : List Value), RdS w S s cs → RdS w S' s' cs → s = s'
  | .mk op line name arg ix ex body els, .mk op' line' name' arg' ix' ex' body' els', cs, h, h' => by
    obtain ⟨v4, e0, e1, e2, e3, a9, c9, a10, c10, rfl, h4, he, hb, hl⟩ := h
    obtain ⟨u4, f0, f1, f2, f3, b9, d9, b10, d10, hq, h4', he', hb', hl'⟩ := h'
    simp at hq
    obtain ⟨q1, q2, q3, q4, rfl, rfl, rfl, rfl, rfl, ⟨rfl, q5, rfl⟩, ⟨rfl, q6, rfl⟩⟩ := hq
    have r1 : op = op' := by omega
    have r2 : line = line' := by omega
    have r3 : name = name' := q3
    have r4 : arg = arg' := q4
    have r5 := slE_fun h4 h4'
    have r6 := rdE_fun _ _ _ he he'
    have r7 : body = body' := by
      cases body with
      | nil =>
        cases body' with
        | nil => rfl
        | cons x r => simp at q5
      | cons x r =>
        cases body' with
        | nil => simp at q5
        | cons x' r' =>
          obtain ⟨g, xs, hg, _, hv, hc⟩ := hb.resolve_left (by simp)
          obtain ⟨g', ys, hg', _, hv', hc'⟩ := hb'.resolve_left (by simp)
          have : g = g' := by
            rw [hg] at hg'
            injection hg' with hg'
            injection hg' with h1
          subst this
          have hlen : xs.length = ys.length := by rw [VSs.len _ _ hv, VSs.len _ _ hv', q5]
          obtain rfl := same_list hlen hc hc'
          exact vss_fun (x :: r) (x' :: r') xs q5 hv hv'
    have r8 : els = els' := by
      cases els with
      | nil =>
        cases els' with
        | nil => rfl
        | cons x r => simp at q6
      | cons x r =>
        cases els' with
        | nil => simp at q6
        | cons x' r' =>
          obtain ⟨g, xs, hg, _, hv, hc⟩ := hl.resolve_left (by simp)
          obtain ⟨g', ys, hg', _, hv', hc'⟩ := hl'.resolve_left (by simp)
          have : g = g' := by
            rw [hg] at hg'
            injection hg' with hg'
            injection hg' with h1
          subst this
          have hlen : xs.length = ys.length := by rw [VSs.len _ _ hv, VSs.len _ _ hv', q6]
          obtain rfl := same_list hlen hc hc'
          exact vss_fun (x :: r) (x' :: r') xs q6 hv hv'
    rw [r1, r2, r3, r4, r5, r6, r7, r8]
theorem vss_fun {w : World} {S S' : Nat → Prop} : ∀ (l l' : List Sm) (xs : List Value), l.length = l'.length → VSs w S l xs → VSs w S' l' xs → l = l'
  | [], [], _, _, _, _ => rfl
  | [], _ :: _, _, h, _, _ => by simp at h
  | _ :: _, [], _, h, _, _ => by simp at h
  | s :: r, s' :: r', xs, hlen, h, h' => by
    obtain ⟨cs, rest, rfl, hs, hr⟩ := h
    obtain ⟨cs', rest', hq, hs', hr'⟩ := h'
    have hl := hs.len
    have hl' := hs'.len
    obtain ⟨rfl, rfl⟩ := List.append_inj hq (by omega)
    rw [rdS_fun s s' cs hs hs', vss_fun r r' rest (by simpa using hlen) hr hr']
end
/-- A statement stands at this address, in blocks that can be compared. -/
def AtS (w : World) (a : Addr) (s : Sm) : Prop := ∃ n0 g o cs, a = ⟨g, o, none⟩ ∧ PlainAt w g ∧ (∀ j u, cs[j]? = some u → w.cell? ⟨g, o + j, none⟩ = some u) ∧ RdS w (PF n0 w) s cs ∧ s.nok
theorem atS_fun {w : World} {a : Addr} {s s' : Sm} (h : AtS w a s) (h' : AtS w a s') : s = s' := by
  obtain ⟨_, g, o, cs, rfl, _, hc, hs, _⟩ := h
  obtain ⟨_, g', o', cs', hq, _, hc', hs', _⟩ := h'
  injection hq with hq1 hq2
  subst hq1
  subst hq2
  have : cs = cs' := by
    apply List.ext_getElem (by rw [hs.len, hs'.len])
    intro k h1 h2
    have e1 := hc k _ (List.getElem?_eq_getElem h1)
    have e2 := hc' k _ (List.getElem?_eq_getElem h2)
    rw [e1] at e2
    exact Option.some.inj e2
  subst this
  exact rdS_fun s s' cs hs hs'
theorem vss_at {w : World} {S : Nat → Prop} : ∀ (l : List Sm) (xs : List Value), VSs w S l xs → ∀ (k : Nat) (h : k < l.length), ∃ cs, RdS w S l[k] cs ∧ ∀ j u, cs[j]? = some u → xs[k * 11 + j]? = some u
  | [], _, _, k, h => absurd h (by simp)
  | s :: r, _, hx, 0, _ => by
    obtain ⟨cs, rest, rfl, hs, _⟩ := hx
    refine ⟨cs, hs, fun j u hj => ?_⟩
    have hlt : j < cs.length := (List.getElem?_eq_some_iff.1 hj).1
    rw [Nat.zero_mul, Nat.zero_add, List.getElem?_append_left hlt]
    exact hj
  | s :: r, _, hx, k + 1, h => by
    obtain ⟨cs, rest, rfl, hs, hr⟩ := hx
    obtain ⟨cs2, h2, hat⟩ := vss_at r rest hr k (by simpa using h)
    refine ⟨cs2, h2, fun j u hj => ?_⟩
    have hl := hs.len
    rw [List.getElem?_append_right (by omega), show (k + 1) * 11 + j - cs.length = k * 11 + j by omega]
    exact hat j u hj
/-- The addresses of the statements of a slice. -/
def nodesS (v : Option Value) : List Addr := match v with
  | some (.slice (some b) n _) => (List.range n).map fun k => ⟨b.block, k * 11, none⟩
  | _ => []
/-- A slice of statements in blocks that can be compared. -/
theorem slS_nodes {w : World} {n0 : Nat} {l : List Sm} {a : Option Addr} {cap : Nat} (h : l = [] ∨ ∃ g xs, a = some ⟨g, 0, none⟩ ∧ PF n0 w g ∧ VSs w (PF n0 w) l xs ∧ ∀ j u, xs[j]? = some u → w.cell? ⟨g, j, none⟩ = some u) (hn : nokS l) :
    Ev.Leads 11 (.slice a l.length cap) (nodesS (some (.slice a l.length cap))) ∧ (nodesS (some (.slice a l.length cap))).length = l.length ∧ ∀ k (hk : k < l.length) (hk' : k < (nodesS (some (.slice a l.length cap))).length), AtS w ((nodesS (some (.slice a l.length cap)))[k]) l[k] := by
  rcases h with rfl | ⟨g, xs, rfl, hS, hv, hc⟩
  · have e : nodesS (some (.slice a ([] : List Sm).length cap)) = [] := by
      cases a <;> rfl
    rw [e]
    exact ⟨⟨a, cap, rfl, fun h => absurd h (by simp)⟩, rfl, fun k hk => absurd hk (by simp)⟩
  · have e : nodesS (some (.slice (some ⟨g, 0, none⟩) l.length cap)) = (List.range l.length).map fun k => ⟨g, k * 11, none⟩ := rfl
    rw [e]
    refine ⟨⟨some ⟨g, 0, none⟩, cap, by simp, fun _ => ⟨g, rfl, fun k hk => by simp⟩⟩, by simp, fun k hk hk' => ?_⟩
    obtain ⟨cs, hs, hat⟩ := vss_at l xs hv k hk
    exact ⟨n0, g, k * 11, cs, by simp, hS.2, fun j u hj => hc _ _ (hat j u hj), hs, nokS_get l hn k hk⟩
def kidsS (w : World) (a : Addr) : List Addr := nodesS (w.cell? ⟨a.block, a.off + 9, none⟩) ++ nodesS (w.cell? ⟨a.block, a.off + 10, none⟩)
open Classical in
noncomputable def evS (w : World) (a : Addr) : Sm := if h : ∃ s, AtS w a s then Classical.choose h else .mk 0 0 [] [] [] (.mk 0 0 ⟨#[]⟩ []) [] []
theorem evS_eq {w : World} {a : Addr} {s : Sm} (h : AtS w a s) : evS w a = s := by
  have hx : ∃ s, AtS w a s := ⟨s, h⟩
  unfold evS
  rw [dif_pos hx]
  exact atS_fun (Classical.choose_spec hx) h
/-- What stands in the cells of a statement. -/
theorem atS_parts {w : World} {a : Addr} {op line : Nat} {name arg : Bs} {ix : List E} {ex : E} {body els : List Sm} (h : AtS w a (.mk op line name arg ix ex body els)) :
    ∃ a9 c9 a10 c10, w.cell? ⟨a.block, a.off + 9, none⟩ = some (.slice a9 body.length c9) ∧ w.cell? ⟨a.block, a.off + 10, none⟩ = some (.slice a10 els.length c10) ∧
      kidsS w a = nodesS (some (.slice a9 body.length c9)) ++ nodesS (some (.slice a10 els.length c10)) ∧
      (Ev.Leads 11 (.slice a9 body.length c9) (nodesS (some (.slice a9 body.length c9))) ∧ (nodesS (some (.slice a9 body.length c9))).length = body.length ∧ ∀ k (hk : k < body.length) (hk' : k < (nodesS (some (.slice a9 body.length c9))).length), AtS w ((nodesS (some (.slice a9 body.length c9)))[k]) body[k]) ∧
      (Ev.Leads 11 (.slice a10 els.length c10) (nodesS (some (.slice a10 els.length c10))) ∧ (nodesS (some (.slice a10 els.length c10))).length = els.length ∧ ∀ k (hk : k < els.length) (hk' : k < (nodesS (some (.slice a10 els.length c10))).length), AtS w ((nodesS (some (.slice a10 els.length c10)))[k]) els[k]) := by
  obtain ⟨n0, g, o, cs, rfl, hp, hc, ⟨v4, e0, e1, e2, e3, a9, c9, a10, c10, rfl, h4, he, hb, hl⟩, hn⟩ := h
  have k9 := hc 9 _ rfl
  have k10 := hc 10 _ rfl
  refine ⟨a9, c9, a10, c10, k9, k10, ?_, slS_nodes hb hn.2.2.2.2.2.2.1, slS_nodes hl hn.2.2.2.2.2.2.2⟩
  unfold kidsS
  rw [k9, k10]
theorem kidS_mem {w : World} {a : Addr} {op line : Nat} {name arg : Bs} {ix : List E} {ex : E} {body els : List Sm} (h : AtS w a (.mk op line name arg ix ex body els)) {c : Addr} (hc : c ∈ kidsS w a) : ∃ s, (s ∈ body ∨ s ∈ els) ∧ AtS w c s := by
  obtain ⟨a9, c9, a10, c10, _, _, hk, ⟨_, hl1, hat1⟩, ⟨_, hl2, hat2⟩⟩ := atS_parts h
  rw [hk] at hc
  rcases List.mem_append.1 hc with h1 | h1
  · obtain ⟨k, hk, rfl⟩ := List.getElem_of_mem h1
    exact ⟨body[k]'(by omega), .inl (List.getElem_mem _), hat1 k (by omega) hk⟩
  · obtain ⟨k, hk, rfl⟩ := List.getElem_of_mem h1
    exact ⟨els[k]'(by omega), .inr (List.getElem_mem _), hat2 k (by omega) hk⟩
theorem nodes_sum {w : World} {l : List Sm} {L : List Addr} (hl : L.length = l.length) (hat : ∀ k (hk : k < l.length) (hk' : k < L.length), AtS w L[k] l[k]) : L.map (fun c => (evS w c).sz) = l.map Sm.sz := by
  apply List.ext_getElem
  · simp [hl]
  · intro k h1 h2
    simp only [List.length_map] at h1 h2
    rw [List.getElem_map, List.getElem_map, evS_eq (hat k h2 h1)]
theorem shS_parts {op line : Nat} {name arg : Bs} {ix : List E} {ex : E} {body els : List Sm} (h : shS (.mk op line name arg ix ex body els) = true) : fitSm (.mk op line name arg ix ex body els) = true ∧ shSs body = true ∧ shSs els = true := by
  simp only [shS, Bool.and_eq_true] at h
  exact ⟨h.1.1, h.1.2, h.2⟩
/-- The shaped statements of a world. -/
noncomputable def forestS (w : World) : Ev.Forest where
  D := fun a => ∃ s, AtS w a s ∧ shS s = true
  kids := kidsS w
  ht := fun a => (evS w a).ht
  sz := fun a => (evS w a).sz
  fit := fun _ => true
  down := by
    rintro a ⟨⟨op, line, name, arg, ix, ex, body, els⟩, h, hsh⟩ c hc
    obtain ⟨s, hs, hcs⟩ := kidS_mem h hc
    obtain ⟨_, hb, hl⟩ := shS_parts hsh
    refine ⟨⟨s, hcs, ?_⟩, ?_⟩
    · rcases hs with hs | hs
      · exact (shSs_all body).1 hb s hs
      · exact (shSs_all els).1 hl s hs
    · rw [evS_eq h, evS_eq hcs]
      simp only [Sm.ht]
      rcases hs with hs | hs
      · have := htS_mem body s hs
        omega
      · have := htS_mem els s hs
        omega
  size := by
    rintro a ⟨⟨op, line, name, arg, ix, ex, body, els⟩, h, _⟩
    obtain ⟨a9, c9, a10, c10, _, _, hk, ⟨_, hl1, hat1⟩, ⟨_, hl2, hat2⟩⟩ := atS_parts h
    rw [hk, List.map_append, List.sum_append, nodes_sum hl1 hat1, nodes_sum hl2 hat2, evS_eq h]
    simp only [Sm.sz, szS_sum]
    exact Nat.le_refl _
theorem allS (w : World) : ∀ (N : Nat) (a : Addr), (forestS w).ht a ≤ N → (forestS w).D a → Ev.All (forestS w) a
  | 0, a, hN, hD => .mk a rfl (fun c hc => by
      have := ((forestS w).down a hD c hc).2
      omega)
  | N + 1, a, hN, hD => .mk a rfl (fun c hc => by
      have := (forestS w).down a hD c hc
      exact allS w N c (by omega) this.1)
theorem AtS.plain {w : World} {a : Addr} {s : Sm} (h : AtS w a s) : PlainAt w a.block := by
  obtain ⟨_, g, o, _, rfl, hp, _⟩ := h
  exact hp
end Par
end Go.Proofs.YtncflfadgcaldaaGreatDoor
