/-
  The walk over all nodes of trees that may share parts, on its own: what holds at the head of its loop, and that it ends.
-/
import Derived.Test.YtncflfadgcaldaaGreatDoorMapP
namespace Go.Proofs.YtncflfadgcaldaaGreatDoor
open Go.RowKit

namespace MapP
theorem seek_shift (a : Addr) : ∀ (L : List (Addr × Int)) (i : Nat), (seek a L i).map Prod.snd = (seek a L 0).map Prod.snd
  | [], _ => rfl
  | p :: r, i => by
    simp only [seek]
    split
    · rfl
    · rw [seek_shift a r (i + 1), seek_shift a r (0 + 1)]
theorem get_eq (a : Addr) (L : List (Addr × Int)) : get L a = ((seek a L 0).map Prod.snd).getD 0 := by
  unfold get
  cases seek a L 0 <;> rfl
theorem get_cons (a : Addr) (p : Addr × Int) (r : List (Addr × Int)) : get (p :: r) a = if p.1 = a then p.2 else get r a := by
  rw [get_eq, get_eq]
  simp only [seek]
  split
  · rfl
  · rw [seek_shift a r (0 + 1)]
theorem get_nil (a : Addr) : get [] a = 0 := rfl
theorem get_put (a b : Addr) (v : Int) : ∀ L : List (Addr × Int), get (put L a v) b = if b = a then v else get L b
  | [] => by
    simp only [put, get_cons, get_nil]
    by_cases h : a = b
    · rw [if_pos h, if_pos h.symm]
    · rw [if_neg h, if_neg (fun e => h e.symm)]
  | p :: r => by
    simp only [put]
    split
    · rename_i hp
      simp only [get_cons]
      by_cases h : b = a
      · rw [if_pos h, if_pos h.symm]
      · rw [if_neg h, if_neg (fun e => h e.symm), if_neg (by rw [hp]; exact fun e => h e.symm)]
    · rename_i hp
      simp only [get_cons, get_put a b v r]
      by_cases h : b = a
      · subst h
        rw [if_neg hp, if_pos rfl, if_pos rfl]
      · rw [if_neg h, if_neg h]
theorem mem_put {a : Addr} {v : Int} : ∀ {L : List (Addr × Int)} {p : Addr × Int}, p ∈ put L a v → p = (a, v) ∨ p ∈ L
  | [], p, h => by
    simp only [put, List.mem_singleton] at h
    exact .inl h
  | q :: r, p, h => by
    simp only [put] at h
    split at h
    · rcases List.mem_cons.1 h with h | h
      · exact .inl h
      · exact .inr (List.mem_cons_of_mem _ h)
    · rcases List.mem_cons.1 h with h | h
      · exact .inr (h ▸ List.mem_cons_self ..)
      · rcases mem_put h with h | h
        · exact .inl h
        · exact .inr (List.mem_cons_of_mem _ h)
end MapP

namespace Ev
open MapP (get put get_put)
/-- A forest in memory: the nodes, what lies below each, their heights and sizes, whether one fits. -/
structure Forest where
  D : Addr → Prop
  kids : Addr → List Addr
  ht : Addr → Nat
  sz : Addr → Nat
  fit : Addr → Bool
  down : ∀ a, D a → ∀ c ∈ kids a, D c ∧ ht c < ht a
  size : ∀ a, D a → ((kids a).map sz).sum + 1 ≤ sz a
/-- What holds at the head of the loop: what was visited, the stack (its top last). -/
structure Inv (F : Forest) (roots : List Addr) (L : List (Addr × Int)) (st : List Addr) : Prop where
  dom : ∀ a ∈ st, F.D a
  vdom : ∀ p ∈ L, F.D p.1
  val : ∀ a, get L a = 0 ∨ get L a = 1 ∨ get L a = 2
  fits : ∀ a, get L a ≠ 0 → F.fit a = true
  seen : ∀ a, get L a ≠ 0 → F.D a
  clo : ∀ a, get L a ≠ 0 → ∀ c ∈ F.kids a, get L c ≠ 0 ∨ c ∈ st
  root : ∀ a ∈ roots, get L a ≠ 0 ∨ a ∈ st
  opn : ∀ u, get L u = 1 → ∃ pre post, st = pre ++ u :: post ∧ ∀ b ∈ post, F.ht b < F.ht u
/-- What a node on the stack still costs. -/
def cost (F : Forest) (L : List (Addr × Int)) (a : Addr) : Nat := if get L a = 0 then 2 * F.sz a else 1
def meas (F : Forest) (L : List (Addr × Int)) (st : List Addr) : Nat := (st.map (cost F L)).sum
theorem start {F : Forest} {roots : List Addr} (h : ∀ a ∈ roots, F.D a) : Inv F roots [] roots :=
  ⟨h, fun p hp => (nomatch hp), fun _ => .inl rfl, fun _ h => absurd rfl h, fun _ h => absurd rfl h, fun _ h => absurd rfl h, fun _ h => .inr h, fun _ h => absurd h (by simp [MapP.get_nil])⟩
theorem cost_pos {F : Forest} {L : List (Addr × Int)} {a : Addr} (h : F.D a) : 1 ≤ cost F L a := by
  have := F.size a h
  unfold cost
  split <;> omega
theorem sum_le {α : Type} (f g : α → Nat) : ∀ l : List α, (∀ a ∈ l, f a ≤ g a) → (l.map f).sum ≤ (l.map g).sum
  | [], _ => Nat.le_refl _
  | a :: r, h => by
    have h1 := h a (List.mem_cons_self ..)
    have h2 := sum_le f g r (fun x hx => h x (List.mem_cons_of_mem _ hx))
    simp only [List.map_cons, List.sum_cons]
    omega
theorem sum_filter {α : Type} (f : α → Nat) (p : α → Bool) : ∀ l : List α, ((l.filter p).map f).sum ≤ (l.map f).sum
  | [] => Nat.le_refl _
  | a :: r => by
    have := sum_filter f p r
    simp only [List.filter_cons, List.map_cons, List.sum_cons]
    split
    · simp only [List.map_cons, List.sum_cons]; omega
    · omega
/-- The top of the stack was visited: it is done and leaves the stack. -/
theorem pop {F : Forest} {roots : List Addr} {L : List (Addr × Int)} {st : List Addr} {v : Addr} (h : Inv F roots L (st ++ [v])) (hv : get L v ≠ 0) :
    Inv F roots (put L v 2) st ∧ meas F (put L v 2) st < meas F L (st ++ [v]) := by
  have g0 : ∀ a, get (put L v 2) a ≠ 0 ↔ get L a ≠ 0 := fun a => by
    rw [get_put]
    by_cases e : a = v
    · subst e; rw [if_pos rfl]; simp [hv]
    · rw [if_neg e]
  have inStack : ∀ a, a ∈ st ++ [v] → get (put L v 2) a ≠ 0 ∨ a ∈ st := fun a ha => by
    rcases List.mem_append.1 ha with h1 | h1
    · exact .inr h1
    · obtain rfl := List.mem_singleton.1 h1
      exact .inl ((g0 a).2 hv)
  refine ⟨⟨fun a ha => h.dom a (List.mem_append_left _ ha), ?_, ?_, fun a ha => h.fits a ((g0 a).1 ha), fun a ha => h.seen a ((g0 a).1 ha), ?_, ?_, ?_⟩, ?_⟩
  · intro p hp
    rcases MapP.mem_put hp with rfl | hp
    · exact h.dom v (by simp)
    · exact h.vdom p hp
  · intro a
    rw [get_put]
    split
    · exact .inr (.inr rfl)
    · exact h.val a
  · intro a ha c hc
    rcases h.clo a ((g0 a).1 ha) c hc with h1 | h1
    · exact .inl ((g0 c).2 h1)
    · exact inStack c h1
  · intro a ha
    rcases h.root a ha with h1 | h1
    · exact .inl ((g0 a).2 h1)
    · exact inStack a h1
  · intro u hu
    rw [get_put] at hu
    split at hu
    · cases hu
    · rename_i hne
      obtain ⟨pre, post, he, hp⟩ := h.opn u hu
      rcases List.eq_nil_or_concat post with rfl | ⟨q, b, rfl⟩
      · have := List.append_inj_right' he rfl
        exact absurd (List.cons.inj this).1.symm hne
      · rw [List.concat_eq_append] at he hp
        have e2 : st ++ [v] = (pre ++ u :: q) ++ [b] := by rw [he]; simp
        have e3 := List.append_inj_left' e2 rfl
        exact ⟨pre, q, e3, fun x hx => hp x (List.mem_append_left _ hx)⟩
  · unfold meas
    rw [List.map_append, List.sum_append]
    have h1 : cost F L v = 1 := by unfold cost; rw [if_neg hv]
    have h2 : (st.map (cost F (put L v 2))).sum ≤ (st.map (cost F L)).sum := sum_le _ _ st (fun a ha => by
      unfold cost
      by_cases e : get L a = 0
      · rw [if_pos e]
        split
        · exact Nat.le_refl _
        · have := F.size a (h.dom a (List.mem_append_left _ ha)); omega
      · rw [if_neg e, if_neg ((g0 a).2 e)]
        exact Nat.le_refl _)
    simp only [List.map_cons, List.map_nil, List.sum_cons, List.sum_nil]
    omega
/-- No node below the one that is visited now is open. -/
theorem closed {F : Forest} {roots : List Addr} {L : List (Addr × Int)} {st : List Addr} {v : Addr} (h : Inv F roots L (st ++ [v])) (hv : get L v = 0) : ∀ c ∈ F.kids v, get (put L v 1) c ≠ 1 := by
  intro c hc he
  have hd := (F.down v (h.dom v (by simp)) c hc).2
  rw [get_put] at he
  split at he
  · rename_i e
    subst e
    omega
  · obtain ⟨pre, post, e1, hp⟩ := h.opn c he
    rcases List.eq_nil_or_concat post with rfl | ⟨q, b, rfl⟩
    · have := List.append_inj_right' e1 rfl
      have e2 := (List.cons.inj this).1
      subst e2
      omega
    · rw [List.concat_eq_append] at e1 hp
      have e2 : st ++ [v] = (pre ++ c :: q) ++ [b] := by rw [e1]; simp
      have e3 := (List.cons.inj (List.append_inj_right' e2 rfl)).1
      subst e3
      have := hp v (by simp)
      omega
/-- The top of the stack is visited: what lies below it and was not visited comes on the stack. -/
theorem visit {F : Forest} {roots : List Addr} {L : List (Addr × Int)} {st : List Addr} {v : Addr} (h : Inv F roots L (st ++ [v])) (hv : get L v = 0) (hf : F.fit v = true) :
    Inv F roots (put L v 1) ((st ++ [v]) ++ (F.kids v).filter (fun c => get (put L v 1) c == 0)) ∧ meas F (put L v 1) ((st ++ [v]) ++ (F.kids v).filter (fun c => get (put L v 1) c == 0)) < meas F L (st ++ [v]) := by
  have hD := h.dom v (by simp)
  have g1 : ∀ a, get L a ≠ 0 → get (put L v 1) a ≠ 0 := fun a ha => by
    rw [get_put]
    split
    · simp
    · exact ha
  have g2 : ∀ a, get (put L v 1) a ≠ 0 → a = v ∨ get L a ≠ 0 := fun a ha => by
    rw [get_put] at ha
    split at ha
    · rename_i e; exact .inl e
    · exact .inr ha
  refine ⟨⟨?_, ?_, ?_, ?_, ?_, ?_, ?_, ?_⟩, ?_⟩
  · intro a ha
    rcases List.mem_append.1 ha with h1 | h1
    · exact h.dom a h1
    · exact (F.down v hD a (List.mem_filter.1 h1).1).1
  · intro p hp
    rcases MapP.mem_put hp with rfl | hp
    · exact hD
    · exact h.vdom p hp
  · intro a
    rw [get_put]
    split
    · exact .inr (.inl rfl)
    · exact h.val a
  · intro a ha
    rcases g2 a ha with rfl | h1
    · exact hf
    · exact h.fits a h1
  · intro a ha
    rcases g2 a ha with rfl | h1
    · exact hD
    · exact h.seen a h1
  · intro a ha c hc
    rcases g2 a ha with rfl | h1
    · by_cases e : get (put L a 1) c = 0
      · exact .inr (List.mem_append_right _ (List.mem_filter.2 ⟨hc, by simp [e]⟩))
      · exact .inl e
    · rcases h.clo a h1 c hc with h2 | h2
      · exact .inl (g1 c h2)
      · exact .inr (List.mem_append_left _ h2)
  · intro a ha
    rcases h.root a ha with h1 | h1
    · exact .inl (g1 a h1)
    · exact .inr (List.mem_append_left _ h1)
  · intro u hu
    rw [get_put] at hu
    split at hu
    · rename_i e
      subst e
      exact ⟨st, (F.kids u).filter (fun c => get (put L u 1) c == 0), by simp, fun b hb => (F.down u hD b (List.mem_filter.1 hb).1).2⟩
    · obtain ⟨pre, post, e1, hp⟩ := h.opn u hu
      refine ⟨pre, post ++ (F.kids v).filter (fun c => get (put L v 1) c == 0), by rw [e1]; simp, fun b hb => ?_⟩
      rcases List.mem_append.1 hb with h1 | h1
      · exact hp b h1
      · have hvu : F.ht v < F.ht u := by
          rcases List.eq_nil_or_concat post with rfl | ⟨q, b2, rfl⟩
          · have e2 := (List.cons.inj (List.append_inj_right' e1 rfl)).1
            rename_i hne
            exact absurd e2.symm hne
          · rw [List.concat_eq_append] at e1 hp
            have e2 : st ++ [v] = (pre ++ u :: q) ++ [b2] := by rw [e1]; simp
            have e3 := (List.cons.inj (List.append_inj_right' e2 rfl)).1
            subst e3
            exact hp v (by simp)
        have := (F.down v hD b (List.mem_filter.1 h1).1).2
        omega
  · unfold meas
    rw [List.map_append, List.sum_append, List.map_append, List.sum_append, List.map_append, List.sum_append]
    have h1 : cost F L v = 2 * F.sz v := by unfold cost; rw [if_pos hv]
    have h2 : cost F (put L v 1) v = 1 := by unfold cost; rw [get_put, if_pos rfl]; rfl
    have h3 : (st.map (cost F (put L v 1))).sum ≤ (st.map (cost F L)).sum := sum_le _ _ st (fun a ha => by
      unfold cost
      by_cases e : get L a = 0
      · rw [if_pos e]
        split
        · exact Nat.le_refl _
        · have := F.size a (h.dom a (List.mem_append_left _ ha)); omega
      · rw [if_neg e, if_neg (g1 a e)]
        exact Nat.le_refl _)
    have h4 : (((F.kids v).filter (fun c => get (put L v 1) c == 0)).map (cost F (put L v 1))).sum ≤ (((F.kids v).filter (fun c => get (put L v 1) c == 0)).map (fun c => 2 * F.sz c)).sum := sum_le _ _ _ (fun c hc => by
      unfold cost
      have := (List.mem_filter.1 hc).2
      rw [if_pos (by simpa using this)]
      exact Nat.le_refl _)
    have h5 := sum_filter (fun c => 2 * F.sz c) (fun c => get (put L v 1) c == 0) (F.kids v)
    have h6 : ((F.kids v).map (fun c => 2 * F.sz c)).sum = 2 * ((F.kids v).map F.sz).sum := by
      generalize F.kids v = l
      induction l with
      | nil => rfl
      | cons a r ih => simp only [List.map_cons, List.sum_cons, ih]; omega
    have h7 := F.size v hD
    simp only [List.map_cons, List.map_nil, List.sum_cons, List.sum_nil]
    omega
/-- Every node that was visited and all below it fit. -/
inductive All (F : Forest) : Addr → Prop
  | mk (a : Addr) : F.fit a = true → (∀ c ∈ F.kids a, All F c) → All F a
theorem done {F : Forest} {roots : List Addr} {L : List (Addr × Int)} (h : Inv F roots L []) : ∀ a ∈ roots, All F a := by
  have key : ∀ (n : Nat) (a : Addr), F.ht a ≤ n → get L a ≠ 0 → All F a := by
    intro n
    induction n with
    | zero =>
      intro a ha hv
      refine .mk a (h.fits a hv) (fun c hc => ?_)
      have := (F.down a (h.seen a hv) c hc).2
      omega
    | succ n ih =>
      intro a ha hv
      refine .mk a (h.fits a hv) (fun c hc => ?_)
      have h1 := (F.down a (h.seen a hv) c hc).2
      exact ih c (by omega) ((h.clo a hv c hc).resolve_right (by simp))
  intro a ha
  exact key _ a (Nat.le_refl _) ((h.root a ha).resolve_right (by simp))
end Ev
end Go.Proofs.YtncflfadgcaldaaGreatDoor
