/-
  The walk over all nodes: what lies in memory at the head of its loops.
-/
import Derived.Test.YtncflfadgcaldaaGreatDoorEvA
import Derived.Test.YtncflfadgcaldaaGreatDoorPlain
import Derived.Test.YtncflfadgcaldaaGreatDoorAwD
import Derived.Deep.LoopGhost
import Derived.WalkSmall
namespace Go.Proofs.YtncflfadgcaldaaGreatDoor
open Go.RowKit
open Par

namespace Ev
open MapP (get put)
def ptrs (l : List Addr) : List Value := l.map fun a => Value.pointer (some a)
theorem ptrs_len (l : List Addr) : (ptrs l).length = l.length := by simp [ptrs]
theorem ptrs_snoc (l : List Addr) (a : Addr) : ptrs (l ++ [a]) = ptrs l ++ [.pointer (some a)] := by simp [ptrs]
/-- A slice value that leads to these nodes, each of 'size' cells. -/
def Leads (size : Nat) (v : Value) (l : List Addr) : Prop := ∃ A cap, v = .slice A l.length cap ∧ (0 < l.length → ∃ g, A = some ⟨g, 0, none⟩ ∧ ∀ k (h : k < l.length), l[k] = ⟨g, k * size, none⟩)
theorem Leads.at_ {size : Nat} {v : Value} {l : List Addr} (h : Leads size v l) {k : Nat} (hk : k < l.length) : ∃ g cap, v = .slice (some ⟨g, 0, none⟩) l.length cap ∧ l[k] = ⟨g, k * size, none⟩ := by
  obtain ⟨A, cap, hv, hc⟩ := h
  obtain ⟨g, rfl, hl⟩ := hc (by omega)
  exact ⟨g, cap, hv, hl k hk⟩
/-- The memory at the head of a loop: the stack's row, the map, what was there before. T: the type of pointers. -/
structure Mem (w : World) (T : TypeId) (L : List (Addr × Int)) (st : List Addr) (sv : Value) (wr : World) : Prop where
  own : wr.ownsRow (w.heap.size + 1) T 1 sv st.length (ptrs st)
  map : MapP.At wr w.heap.size L
  bel : Below w.heap.size w wr
theorem Mem.lt {w : World} {T : TypeId} {L : List (Addr × Int)} {st : List Addr} {sv : Value} {wr : World} (h : Mem w T L st sv wr) : w.heap.size < wr.heap.size := h.map.lt
theorem Mem.notMap {w : World} {T : TypeId} {L : List (Addr × Int)} {st : List Addr} {sv : Value} {wr : World} (h : Mem w T L st sv wr) : sv.ownBlock ≠ some w.heap.size := fun e => by
  have := (h.own.lt _ e).1
  omega
theorem Mem.start (w : World) (T : TypeId) : Mem w T [] [] (.slice none 0 0) (w.alloc (.map #[] 0)) :=
  ⟨World.ownsRow_nil _ _ _ _, MapP.At.made w, (Below.refl _ _).alloc (Nat.le_refl _) _⟩
theorem Mem.below {w : World} {T : TypeId} {L : List (Addr × Int)} {st : List Addr} {sv : Value} {wr w' : World} (h : Mem w T L st sv wr) (b : Below wr.heap.size wr w') : Mem w T L st sv w' :=
  ⟨by
    refine ⟨h.own.1, ?_⟩
    rcases h.own.2 with hn | ⟨g, cap, cur, rfl, hg, hgg, rest⟩
    · exact .inl hn
    · exact .inr ⟨g, cap, cur, rfl, hg, by rw [b.block g (Array.getElem?_eq_some_iff.1 hgg).1]; exact hgg, rest⟩, h.map.below b, h.bel.trans (b.mono h.bel.size)⟩
theorem Mem.store {w : World} {T : TypeId} {L L' : List (Addr × Int)} {st : List Addr} {sv : Value} {wr w' : World} (h : Mem w T L st sv wr) (hg : wr.grownBy w' (some w.heap.size)) (hm : MapP.At w' w.heap.size L') : Mem w T L' st sv w' :=
  ⟨h.own.kept hg (.inr h.notMap), hm, below_grown h.bel hg (Nat.le_refl _) h.bel.size⟩
theorem Mem.push {w : World} {T : TypeId} {L : List (Addr × Int)} {st : List Addr} {a : Addr} {sv v' : Value} {wr w' : World} (h : Mem w T L st sv wr) (o : Obj) (hown : w'.ownsRow (w.heap.size + 1) T 1 v' (st.length + 1) (ptrs st ++ [.pointer (some a)]))
    (hg : (wr.alloc o).grownBy w' sv.ownBlock) : Mem w T L (st ++ [a]) v' w' := by
  have h1 := h.below ((Below.refl _ _).alloc (Nat.le_refl _) o)
  refine ⟨by rw [List.length_append, ptrs_snoc]; exact hown, ?_, h1.bel.grown hg h1.bel.size (fun k hk => ?_)⟩
  · refine h1.map.kept (hg.block _ h1.map.lt ?_)
    intro e
    exact h1.notMap e.symm
  · have := (h1.own.lt _ hk).1
    omega
theorem Mem.form {w : World} {T : TypeId} {L : List (Addr × Int)} {st : List Addr} {sv : Value} {wr : World} (h : Mem w T L st sv wr) : ∃ A cap, sv = .slice A st.length cap := by
  rcases h.own.2 with ⟨rfl, hn⟩ | ⟨g, cap, cur, rfl, _⟩
  · exact ⟨none, 0, by rw [hn]⟩
  · exact ⟨_, cap, rfl⟩
theorem Mem.top {w : World} {T : TypeId} {L : List (Addr × Int)} {st : List Addr} {a : Addr} {sv : Value} {wr : World} (h : Mem w T L (st ++ [a]) sv wr) :
    ∃ g cap, sv = .slice (some ⟨g, 0, none⟩) (st.length + 1) cap ∧ st.length + 1 ≤ cap ∧ wr.cell? ⟨g, st.length, none⟩ = some (.pointer (some a)) ∧ Mem w T L st (.slice (some ⟨g, 0, none⟩) st.length cap) wr := by
  have hl : (st ++ [a]).length = st.length + 1 := by simp
  obtain ⟨own, map, bel⟩ := h
  rw [hl, ptrs_snoc] at own
  rcases own.2 with ⟨_, hn⟩ | ⟨g, cap, cur, rfl, hg, hgg, hc, rest⟩
  · omega
  · refine ⟨g, cap, rfl, hc, ?_, ⟨ownsRow_pop (by rw [ptrs_len]; omega) own, map, bel⟩⟩
    have := own.cellAt st.length (by omega)
    rw [this]
    have e : (ptrs st).length = st.length := ptrs_len st
    rw [List.getElem?_append_right (by omega), e]
    simp
/-- Below every node that the walk may still meet everything fits, if it does below the roots. -/
def Reach (F : Forest) (roots st : List Addr) : Prop := (∀ a ∈ roots, All F a) → ∀ b ∈ st, All F b
theorem all_fit {F : Forest} {a : Addr} (h : All F a) : F.fit a = true := by
  cases h with
  | mk _ h _ => exact h
theorem all_kids {F : Forest} {a : Addr} (h : All F a) : ∀ c ∈ F.kids a, All F c := by
  cases h with
  | mk _ _ h => exact h
theorem Reach.pop {F : Forest} {roots st : List Addr} {v : Addr} (h : Reach F roots (st ++ [v])) : Reach F roots st := fun ha b hb => h ha b (List.mem_append_left _ hb)
theorem Reach.visit {F : Forest} {roots st : List Addr} {v : Addr} (h : Reach F roots (st ++ [v])) (p : Addr → Bool) : Reach F roots ((st ++ [v]) ++ (F.kids v).filter p) := fun ha b hb => by
  rcases List.mem_append.1 hb with h1 | h1
  · exact h ha b h1
  · exact all_kids (h ha v (by simp)) b (List.mem_filter.1 h1).1
theorem len_meas {F : Forest} {L : List (Addr × Int)} : ∀ st : List Addr, (∀ a ∈ st, F.D a) → st.length ≤ meas F L st
  | [], _ => Nat.zero_le _
  | a :: r, h => by
    have h1 := len_meas (L := L) r (fun x hx => h x (List.mem_cons_of_mem _ hx))
    have h2 := cost_pos (L := L) (h a (List.mem_cons_self ..))
    unfold meas at h1 ⊢
    simp only [List.length_cons, List.map_cons, List.sum_cons]
    omega
theorem filter_take_snoc (p : Addr → Bool) (l : List Addr) (k : Nat) (h : k < l.length) : (l.take (k + 1)).filter p = (l.take k).filter p ++ (if p l[k] = true then [l[k]] else []) := by
  rw [List.take_succ_eq_append_getElem h, List.filter_append]
  congr 1
  by_cases hp : p l[k] = true
  · rw [if_pos hp]
    simp [hp]
  · rw [if_neg hp]
    simp [hp]
theorem filter_take_len (p : Addr → Bool) (l : List Addr) (k : Nat) : ((l.take k).filter p).length ≤ (l.filter p).length := by
  have e : l.filter p = (l.take k).filter p ++ (l.drop k).filter p := by rw [← List.filter_append, List.take_append_drop]
  rw [e, List.length_append]
  omega
theorem kids_len {F : Forest} {a : Addr} (h : F.D a) : (F.kids a).length + 1 ≤ F.sz a := by
  have h1 := F.size a h
  have key : ∀ l : List Addr, (∀ c ∈ l, 1 ≤ F.sz c) → l.length ≤ (l.map F.sz).sum := by
    intro l
    induction l with
    | nil => intro _; exact Nat.le_refl _
    | cons c r ih =>
      intro hc
      have h2 := hc c (List.mem_cons_self ..)
      have h3 := ih (fun x hx => hc x (List.mem_cons_of_mem _ hx))
      simp only [List.length_cons, List.map_cons, List.sum_cons]
      omega
  have h2 := key (F.kids a) (fun c hc => by have := F.size c (F.down a h c hc).1; omega)
  omega
theorem kids_meas {F : Forest} {roots : List Addr} {L : List (Addr × Int)} {st : List Addr} {a : Addr} (h : Inv F roots L (st ++ [a])) (hv : get L a = 0) : (F.kids a).length ≤ meas F L (st ++ [a]) := by
  have h1 := kids_len (h.dom a (by simp))
  have h2 : cost F L a = 2 * F.sz a := by unfold cost; rw [if_pos hv]
  unfold meas
  rw [List.map_append, List.sum_append]
  simp only [List.map_cons, List.map_nil, List.sum_cons, List.sum_nil]
  omega
/-- Addresses of nodes can be compared. -/
theorem cmp {P : Program} {w wr : World} {F : Forest} {roots : List Addr} {L : List (Addr × Int)} {st : List Addr} (h : Inv F roots L st) (hP : ∀ a, F.D a → PlainAt w a.block) (b : Below w.heap.size w wr) {a : Addr} (ha : F.D a) :
    ∀ p ∈ L, (sameAddr a p.1).run P wr = .ok (decide (p.1 = a)) wr := fun p hp => same_plain ((hP a ha).below b) ((hP p.1 (h.vdom p hp)).below b)
/-- What the walk returns. -/
def PostEv (F : Forest) (roots : List Addr) (w : World) (e : Ending) (w' : World) : Prop := ∃ b : Bool, e = .returned (.bool b) ∧ (b = true ↔ ∀ a ∈ roots, All F a) ∧ Below w.heap.size w w'
end Ev
end Go.Proofs.YtncflfadgcaldaaGreatDoor
