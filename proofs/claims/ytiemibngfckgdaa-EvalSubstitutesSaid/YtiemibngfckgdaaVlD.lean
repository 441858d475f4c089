/-
  The walk of package eval over an expression: what holds at the head of its loop, and what each round makes of it. The calls of the program stand in the next text.
-/
import Derived.Test.YtiemibngfckgdaaFoE
import Derived.Test.YtiemibngfckgdaaMapR
import Derived.OwnWalk
import Derived.WalkSmall
namespace Go.Proofs.Ytiemibngfckgdaa
open Go.RowKit
open Par

namespace Vl
/-- A visit: where its expression stands, the expression, the values of its first operands. -/
abbrev Vs := Addr × E × List Int
/-- Its cells. -/
def fc (x : Vs) : List Value := [.pointer (some x.1), .int .i64 (x.2.2.getD 0 0), .int .i64 (x.2.2.getD 1 0), .int .i64 (x.2.2.length : Nat)]
theorem fc_len (x : Vs) : (fc x).length = 4 := rfl
theorem fcs_len : ∀ st : List Vs, (st.flatMap fc).length = st.length * 4
  | [] => rfl
  | x :: r => by
    simp only [List.flatMap_cons, List.length_append, fc_len, fcs_len r, List.length_cons]
    omega
theorem fcs_snoc (st : List Vs) (x : Vs) : (st ++ [x]).flatMap fc = st.flatMap fc ++ fc x := by simp
/-- The visits, the top first, as the plain walk has them. -/
def frs (st : List Vs) : List Fr := (st.map Prod.snd).reverse
theorem frs_snoc (st : List Vs) (x : Vs) : frs (st ++ [x]) = x.2 :: frs st := by simp [frs]
/-- A cell of an owned row is written anew. -/
theorem ownsRow_set {w : World} {base : Nat} {e : TypeId} {size g n cap : Nat} {xs : List Value} (h : w.ownsRow base e size (.slice (some ⟨g, 0, none⟩) n cap) n xs) (j : Nat) (hj : j < n * size) (u : Value) :
    (w.setCell ⟨g, j, none⟩ u).ownsRow base e size (.slice (some ⟨g, 0, none⟩) n cap) n (xs.set j u) := by
  obtain ⟨hl, h2⟩ := h
  rcases h2 with ⟨h0, _⟩ | ⟨g', cap', cur, hv, hg, hh, hn, hcap, hsz, htake⟩
  · cases h0
  · cases hv
    have hlt : j < cur.size := by
      have := Nat.mul_le_mul_right size hn
      omega
    refine ⟨by rw [List.length_set]; exact hl, .inr ⟨g, cap, cur.set! j u, rfl, hg, ?_, hn, hcap, by simpa using hsz, ?_⟩⟩
    · simp only [World.setCell, Array.getElem?_modify, hh]
      simp
    · rw [Array.set!_eq_setIfInBounds, Array.toList_setIfInBounds, List.take_set, htake]
/-- The memory at the head of the loop: w2 is the world in which the walk began, its next block the map of results. -/
structure LM (w2 : World) (R : List (Addr × Value)) (st : List Vs) (sv : Value) (wr : World) : Prop where
  own : wr.ownsRow (w2.heap.size + 1) 59 4 sv st.length (st.flatMap fc)
  map : MapR.At wr w2.heap.size R
  bel : Below w2.heap.size w2 wr
theorem LM.lt {w2 : World} {R : List (Addr × Value)} {st : List Vs} {sv : Value} {wr : World} (h : LM w2 R st sv wr) : w2.heap.size < wr.heap.size := h.map.lt
theorem LM.below {w2 : World} {R : List (Addr × Value)} {st : List Vs} {sv : Value} {wr w' : World} (h : LM w2 R st sv wr) (b : Below wr.heap.size wr w') : LM w2 R st sv w' :=
  ⟨by
    refine ⟨h.own.1, ?_⟩
    rcases h.own.2 with hn | ⟨g, cap, cur, rfl, hg, hgg, rest⟩
    · exact .inl hn
    · exact .inr ⟨g, cap, cur, rfl, hg, by rw [b.block g (Array.getElem?_eq_some_iff.1 hgg).1]; exact hgg, rest⟩, h.map.below b, h.bel.trans (b.mono h.bel.size)⟩
theorem LM.notMap {w2 : World} {R : List (Addr × Value)} {st : List Vs} {sv : Value} {wr : World} (h : LM w2 R st sv wr) : sv.ownBlock ≠ some w2.heap.size := fun e => by
  have := (h.own.lt _ e).1
  omega
theorem LM.store {w2 : World} {R R' : List (Addr × Value)} {st : List Vs} {sv : Value} {wr w' : World} (h : LM w2 R st sv wr) (hg : wr.grownBy w' (some w2.heap.size)) (hm : MapR.At w' w2.heap.size R') : LM w2 R' st sv w' :=
  ⟨h.own.kept hg (.inr h.notMap), hm, ⟨hg.os.trans h.bel.os, hg.tape.trans h.bel.tape, hg.output.trans h.bel.output, Nat.le_trans h.bel.size hg.size, fun i hi => (hg.block i (Nat.lt_trans hi h.lt) (by intro e; cases e; omega)).trans (h.bel.block i hi)⟩⟩
theorem LM.push {w2 : World} {R : List (Addr × Value)} {st : List Vs} {x : Vs} {sv v' : Value} {wr w' : World} (h : LM w2 R st sv wr) (o : Obj) (hown : w'.ownsRow (w2.heap.size + 1) 59 4 v' (st.length + 1) (st.flatMap fc ++ fc x))
    (hg : (wr.alloc o).grownBy w' sv.ownBlock) : LM w2 R (st ++ [x]) v' w' := by
  have h1 := h.below ((Below.refl _ _).alloc (Nat.le_refl _) o)
  refine ⟨by rw [List.length_append, fcs_snoc]; exact hown, ?_, h1.bel.grown hg h1.bel.size (fun k hk => ?_)⟩
  · refine h1.map.kept (hg.block _ h1.map.lt ?_)
    intro e
    exact h1.notMap e.symm
  · have := (h1.own.lt _ hk).1
    omega
/-- The top visit in memory. -/
theorem LM.top {w2 : World} {R : List (Addr × Value)} {st : List Vs} {a : Addr} {e : E} {vs : List Int} {sv : Value} {wr : World} (h : LM w2 R (st ++ [(a, e, vs)]) sv wr) :
    ∃ g cap, sv = .slice (some ⟨g, 0, none⟩) (st.length + 1) cap ∧ st.length + 1 ≤ cap ∧ w2.heap.size + 1 ≤ g ∧ g < wr.heap.size ∧ (∀ j, wr.frozen? ⟨g, j, none⟩ = false) ∧
      (wr.cell? ⟨g, st.length * 4, none⟩ = some (.pointer (some a)) ∧ wr.cell? ⟨g, st.length * 4 + 1, none⟩ = some (.int .i64 (vs.getD 0 0)) ∧ wr.cell? ⟨g, st.length * 4 + 2, none⟩ = some (.int .i64 (vs.getD 1 0)) ∧ wr.cell? ⟨g, st.length * 4 + 3, none⟩ = some (.int .i64 (vs.length : Nat))) ∧
      LM w2 R st (.slice (some ⟨g, 0, none⟩) st.length cap) wr := by
  have hl : (st ++ [(a, e, vs)]).length = st.length + 1 := by simp
  obtain ⟨own, map, bel⟩ := h
  rw [hl, fcs_snoc] at own
  rcases own.2 with ⟨_, hn⟩ | ⟨g, cap, cur, rfl, hg, hgg, hc, rest⟩
  · omega
  · have hfl := fcs_len st
    have key : ∀ j, j < 4 → wr.cell? ⟨g, st.length * 4 + j, none⟩ = (fc (a, e, vs))[j]? := by
      intro j hj
      rw [own.cellAt (st.length * 4 + j) (by omega), List.getElem?_append_right (by omega), hfl]
      congr 1
      omega
    refine ⟨g, cap, rfl, hc, hg, (Array.getElem?_eq_some_iff.1 hgg).1, fun j => PlainAt.frozen ⟨cur, _, hgg⟩ j, ⟨key 0 (by omega), key 1 (by omega), key 2 (by omega), key 3 (by omega)⟩, ⟨ownsRow_pop hfl own, map, bel⟩⟩
/-- The top visit gets one value more. -/
theorem LM.add {w2 : World} {R : List (Addr × Value)} {st : List Vs} {a : Addr} {e : E} {vs : List Int} {g cap : Nat} {wr : World} (h : LM w2 R (st ++ [(a, e, vs)]) (.slice (some ⟨g, 0, none⟩) (st.length + 1) cap) wr) (hv : vs.length < 2) (v : Int) {w1 : World} (hb : Below wr.heap.size wr w1) :
    LM w2 R (st ++ [(a, e, vs ++ [v])]) (.slice (some ⟨g, 0, none⟩) (st.length + 1) cap) ((w1.setCell ⟨g, st.length * 4 + 1 + vs.length, none⟩ (.int .i64 v)).setCell ⟨g, st.length * 4 + 3, none⟩ (.int .i64 ((vs.length : Int) + 1))) := by
  obtain ⟨g', cap', hsv, _, hg, _⟩ := h.top
  cases hsv
  have h1 := h.below hb
  have hl : ∀ z : Vs, (st ++ [z]).length = st.length + 1 := by simp
  obtain ⟨own, map, bel⟩ := h1
  have hfl := fcs_len st
  rw [hl, fcs_snoc] at own
  have own2 := ownsRow_set (ownsRow_set own (st.length * 4 + 1 + vs.length) (by omega) (.int .i64 v)) (st.length * 4 + 3) (by omega) (.int .i64 ((vs.length : Int) + 1))
  refine ⟨?_, ?_, (bel.setCell (p := ⟨g, _, none⟩) (by show w2.heap.size ≤ g; omega) _).setCell (p := ⟨g, _, none⟩) (by show w2.heap.size ≤ g; omega) _⟩
  · rw [hl, fcs_snoc]
    have e1 : ((st.flatMap fc ++ fc (a, e, vs)).set (st.length * 4 + 1 + vs.length) (.int .i64 v)).set (st.length * 4 + 3) (.int .i64 ((vs.length : Int) + 1)) = st.flatMap fc ++ fc (a, e, vs ++ [v]) := by
      rw [List.set_append_right _ _ (by omega), List.set_append_right _ _ (by omega), hfl]
      congr 1
      match vs, hv with
      | [], _ =>
        have e2 : st.length * 4 + 1 + ([] : List Int).length - st.length * 4 = 1 := by simp only [List.length_nil]; omega
        have e3 : st.length * 4 + 3 - st.length * 4 = 3 := by omega
        rw [e2, e3]
        rfl
      | [x], _ =>
        have e2 : st.length * 4 + 1 + ([x] : List Int).length - st.length * 4 = 2 := by simp only [List.length_singleton]; omega
        have e3 : st.length * 4 + 3 - st.length * 4 = 3 := by omega
        rw [e2, e3]
        rfl
    rw [e1] at own2
    exact own2
  · refine (map.kept ?_)
    rw [Below.heap_setCell _ _ _ _ (by simp; omega), Below.heap_setCell _ _ _ _ (by simp; omega)]
/-- Each visit is one of the next operand of the visit before it. -/
def Lk (x y : Vs) : Prop := (kids x.2.1)[x.2.2.length]? = some y.2.1
def Ch : List Vs → Prop
  | [] => True
  | x :: r => (∀ y, r.head? = some y → Lk x y) ∧ Ch r
theorem ch_snoc (z : Vs) : ∀ l : List Vs, Ch (l ++ [z]) ↔ Ch l ∧ ∀ x, l.getLast? = some x → Lk x z
  | [] => by simp [Ch]
  | [x] => by simp [Ch]
  | x :: y :: r => by
    have ih := ch_snoc z (y :: r)
    simp only [List.cons_append] at ih ⊢
    have e : (x :: y :: r).getLast? = (y :: r).getLast? := by simp [List.getLast?_cons_cons]
    rw [e]
    show (_ ∧ Ch (y :: (r ++ [z]))) ↔ (_ ∧ Ch (y :: r)) ∧ _
    rw [ih]
    simp only [List.head?_cons]
    exact ⟨fun ⟨h1, h2, h3⟩ => ⟨⟨h1, h2⟩, h3⟩, fun ⟨⟨h1, h2⟩, h3⟩ => ⟨h1, h2, h3⟩⟩
/-- What holds at the head of the loop, beside the memory. -/
structure Li (w2 : World) (f : ByteArray → Option Int) (e0 : E) (R : List (Addr × Value)) (st : List Vs) : Prop where
  at_ : ∀ x ∈ st, AtE w2 x.1 x.2.1 ∧ x.2.2.length ≤ (kids x.2.1).length ∧ x.2.2.length ≤ 2
  low : ∀ x ∈ st.dropLast, x.2.2.length < (kids x.2.1).length ∧ x.2.2.length < 2
  ht : st.Pairwise fun x y => y.2.1.ht < x.2.1.ht
  res : ∀ p v, MapR.get R p = some v → (∃ e z, AtE w2 p e ∧ ev f e = some z ∧ v = .agg #[.int .i64 z, .bool true]) ∨ (v = .agg #[.int .i64 0, .bool false] ∧ ∃ x ∈ st, x.1 = p)
  pl : ∀ q ∈ R, PlainAt w2 q.1.block
  run : run f (frs st) = ev f e0
  fv : ∀ x ∈ st, frv f x.2 = ev f x.2.1
  ch : Ch st
theorem Li.start {w2 : World} {f : ByteArray → Option Int} {e : E} {a : Addr} (h : AtE w2 a e) : Li w2 f e (MapR.put [] a (.agg #[.int .i64 0, .bool false])) [(a, e, [])] := by
  refine ⟨fun x hx => ?_, fun x hx => (by simp at hx), List.pairwise_singleton _ _, fun p v hp => ?_, fun q hq => ?_, ?_, fun x hx => ?_, ⟨fun y hy => (by cases hy), trivial⟩⟩
  · obtain rfl := List.mem_singleton.1 hx
    exact ⟨h, Nat.zero_le _, Nat.zero_le _⟩
  · rw [MapR.get_put] at hp
    split at hp
    · rename_i hpa
      cases hp
      exact .inr ⟨rfl, _, List.mem_singleton_self _, hpa.symm⟩
    · cases hp
  · rcases MapR.mem_put hq with rfl | hq
    · exact h.plain
    · cases hq
  · show Vl.run f [(e, [])] = _
    simp only [Vl.run, up, frv_new]
  · obtain rfl := List.mem_singleton.1 hx
    exact frv_new e
theorem ht_kid {op n : Int} {nm : ByteArray} {l : List E} {k : Nat} (h : k < l.length) : l[k].ht < (E.mk op n nm l).ht := by
  have := ht_get l k h
  simp only [E.ht]
  omega
theorem Li.cmp {P : Program} {w2 wr : World} {f : ByteArray → Option Int} {e0 : E} {R : List (Addr × Value)} {st : List Vs} (h : Li w2 f e0 R st) (b : Below w2.heap.size w2 wr) {a : Addr} (ha : PlainAt w2 a.block) :
    ∀ p ∈ R, (sameAddr a p.1).run P wr = .ok (decide (p.1 = a)) wr := fun p hp => same_plain (ha.below b) ((h.pl p hp).below b)
/-- The next operand is not being visited. -/
theorem Li.free {w2 : World} {f : ByteArray → Option Int} {e0 : E} {R : List (Addr × Value)} {st : List Vs} {a p : Addr} {op n : Int} {nm : ByteArray} {l : List E} {vs : List Int} {k : Nat} {v : Value} (h : Li w2 f e0 R (st ++ [(a, .mk op n nm l, vs)])) (hk : k < l.length) (hp : AtE w2 p l[k])
    (hg : MapR.get R p = some v) : ∃ z, ev f l[k] = some z ∧ v = .agg #[.int .i64 z, .bool true] := by
  rcases h.res p v hg with ⟨e, z, he, hz, hv⟩ | ⟨_, x, hx, hxp⟩
  · obtain rfl := atE_fun he hp
    exact ⟨z, hz, hv⟩
  · exfalso
    have h1 := (h.at_ x hx).1
    rw [hxp] at h1
    have h2 := atE_fun h1 hp
    have h3 := ht_kid (op := op) (n := n) (nm := nm) hk
    rw [← h2] at h3
    rcases List.mem_append.1 hx with hx | hx
    · have := (List.pairwise_append.1 h.ht).2.2 x hx _ (List.mem_singleton_self _)
      simp only at this
      omega
    · obtain rfl := List.mem_singleton.1 hx
      simp only at h3
      omega
theorem Li.push {w2 : World} {f : ByteArray → Option Int} {e0 : E} {R : List (Addr × Value)} {st : List Vs} {a p : Addr} {op n : Int} {nm : ByteArray} {l : List E} {vs : List Int} (h : Li w2 f e0 R (st ++ [(a, .mk op n nm l, vs)])) (hk : vs.length < l.length) (h2 : vs.length < 2) (hp : AtE w2 p l[vs.length]) :
    Li w2 f e0 (MapR.put R p (.agg #[.int .i64 0, .bool false])) ((st ++ [(a, .mk op n nm l, vs)]) ++ [(p, l[vs.length], [])]) ∧ meas (frs ((st ++ [(a, .mk op n nm l, vs)]) ++ [(p, l[vs.length], [])])) < meas (frs (st ++ [(a, .mk op n nm l, vs)])) := by
  refine ⟨⟨fun x hx => ?_, fun x hx => ?_, ?_, fun q v hq => ?_, fun q hq => ?_, ?_, fun x hx => ?_, ?_⟩, ?_⟩
  · rcases List.mem_append.1 hx with hx | hx
    · exact h.at_ x hx
    · obtain rfl := List.mem_singleton.1 hx
      exact ⟨hp, Nat.zero_le _, Nat.zero_le _⟩
  · rw [List.dropLast_concat] at hx
    rcases List.mem_append.1 hx with hx | hx
    · exact h.low x (by rw [List.dropLast_concat]; exact hx)
    · obtain rfl := List.mem_singleton.1 hx
      exact ⟨hk, h2⟩
  · refine List.pairwise_append.2 ⟨h.ht, List.pairwise_singleton _ _, fun x hx y hy => ?_⟩
    obtain rfl := List.mem_singleton.1 hy
    have h3 := ht_kid (op := op) (n := n) (nm := nm) hk
    rcases List.mem_append.1 hx with hx | hx
    · have := (List.pairwise_append.1 h.ht).2.2 x hx _ (List.mem_singleton_self _)
      simp only at this ⊢
      omega
    · obtain rfl := List.mem_singleton.1 hx
      exact h3
  · rw [MapR.get_put] at hq
    split at hq
    · rename_i hqp
      cases hq
      exact .inr ⟨rfl, _, List.mem_append_right _ (List.mem_singleton_self _), hqp.symm⟩
    · rcases h.res q v hq with h4 | ⟨h4, x, hx, hxq⟩
      · exact .inl h4
      · exact .inr ⟨h4, x, List.mem_append_left _ hx, hxq⟩
  · rcases MapR.mem_put hq with rfl | hq
    · exact hp.plain
    · exact h.pl q hq
  · have := h.run
    rw [frs_snoc] at this ⊢
    rw [frs_snoc]
    rw [← this]
    exact run_push hk
  · rcases List.mem_append.1 hx with hx | hx
    · exact h.fv x hx
    · obtain rfl := List.mem_singleton.1 hx
      exact frv_new _
  · refine (ch_snoc _ _).2 ⟨h.ch, fun x hx => ?_⟩
    simp only [List.getLast?_concat, Option.some.injEq] at hx
    subst hx
    exact List.getElem?_eq_getElem hk
  · rw [frs_snoc, frs_snoc]
    exact meas_push hk
theorem Li.add {w2 : World} {f : ByteArray → Option Int} {e0 : E} {R : List (Addr × Value)} {st : List Vs} {a : Addr} {op n : Int} {nm : ByteArray} {l : List E} {vs : List Int} {v : Int} (h : Li w2 f e0 R (st ++ [(a, .mk op n nm l, vs)])) (hk : vs.length < l.length) (h2 : vs.length < 2) (hv : ev f l[vs.length] = some v) :
    Li w2 f e0 R (st ++ [(a, .mk op n nm l, vs ++ [v])]) ∧ meas (frs (st ++ [(a, .mk op n nm l, vs ++ [v])])) < meas (frs (st ++ [(a, .mk op n nm l, vs)])) := by
  have hA := h.at_ (a, .mk op n nm l, vs) (by simp)
  have hF := h.fv (a, .mk op n nm l, vs) (by simp)
  have hC := (ch_snoc _ _).1 h.ch
  refine ⟨⟨fun x hx => ?_, fun x hx => ?_, ?_, fun q u hq => ?_, h.pl, ?_, fun x hx => ?_, ?_⟩, ?_⟩
  · rcases List.mem_append.1 hx with hx | hx
    · exact h.at_ x (List.mem_append_left _ hx)
    · obtain rfl := List.mem_singleton.1 hx
      refine ⟨hA.1, ?_, ?_⟩
      · simp only [List.length_append, List.length_singleton, kids]
        omega
      · simp only [List.length_append, List.length_singleton]
        omega
  · rw [List.dropLast_concat] at hx
    exact h.low x (by rw [List.dropLast_concat]; exact hx)
  · refine List.pairwise_append.2 ⟨(List.pairwise_append.1 h.ht).1, List.pairwise_singleton _ _, fun x hx y hy => ?_⟩
    obtain rfl := List.mem_singleton.1 hy
    exact (List.pairwise_append.1 h.ht).2.2 x hx (a, .mk op n nm l, vs) (List.mem_singleton_self _)
  · rcases h.res q u hq with h4 | ⟨h4, x, hx, hxq⟩
    · exact .inl h4
    · rcases List.mem_append.1 hx with hx | hx
      · exact .inr ⟨h4, x, List.mem_append_left _ hx, hxq⟩
      · obtain rfl := List.mem_singleton.1 hx
        exact .inr ⟨h4, (a, .mk op n nm l, vs ++ [v]), List.mem_append_right _ (List.mem_singleton_self _), hxq⟩
  · have := h.run
    rw [frs_snoc] at this ⊢
    rw [← this]
    exact run_memo hk hv
  · rcases List.mem_append.1 hx with hx | hx
    · exact h.fv x (List.mem_append_left _ hx)
    · obtain rfl := List.mem_singleton.1 hx
      rw [frv_next hk, hv] at hF
      exact hF
  · exact (ch_snoc _ _).2 ⟨hC.1, fun x hx => hC.2 x hx⟩
  · rw [frs_snoc, frs_snoc]
    exact meas_memo hk
theorem Li.pop {w2 : World} {f : ByteArray → Option Int} {e0 : E} {R : List (Addr × Value)} {st : List Vs} {a b : Addr} {op n : Int} {nm : ByteArray} {l : List E} {vs us : List Int} {t : E} {v : Int} (h : Li w2 f e0 R ((st ++ [(b, t, us)]) ++ [(a, .mk op n nm l, vs)])) (hk : vs.length = l.length) (hv : app f op n nm vs = some v) :
    Li w2 f e0 (MapR.put R a (.agg #[.int .i64 v, .bool true])) (st ++ [(b, t, us ++ [v])]) ∧ meas (frs (st ++ [(b, t, us ++ [v])])) < meas (frs ((st ++ [(b, t, us)]) ++ [(a, .mk op n nm l, vs)])) ∧ us.length < 2 := by
  have hA := h.at_ (a, .mk op n nm l, vs) (by simp)
  have hB := h.at_ (b, t, us) (by simp)
  have hL := h.low (b, t, us) (by rw [List.dropLast_concat]; simp)
  have hev : ev f (.mk op n nm l) = some v := by
    rw [← h.fv (a, .mk op n nm l, vs) (by simp)]
    rw [frv_all hk, hv]
  have hC := (ch_snoc _ _).1 h.ch
  have hK : (kids t)[us.length]? = some (.mk op n nm l) := hC.2 (b, t, us) (by simp)
  have hF := h.fv (b, t, us) (by simp)
  refine ⟨⟨fun x hx => ?_, fun x hx => ?_, ?_, fun q u hq => ?_, fun q hq => ?_, ?_, fun x hx => ?_, ?_⟩, ?_, hL.2⟩
  · rcases List.mem_append.1 hx with hx | hx
    · exact h.at_ x (List.mem_append_left _ (List.mem_append_left _ hx))
    · obtain rfl := List.mem_singleton.1 hx
      refine ⟨hB.1, ?_, ?_⟩
      · simp only [List.length_append, List.length_singleton]
        exact hL.1
      · simp only [List.length_append, List.length_singleton]
        exact hL.2
  · rw [List.dropLast_concat] at hx
    exact h.low x (by rw [List.dropLast_concat]; exact List.mem_append_left _ hx)
  · have h5 := (List.pairwise_append.1 h.ht).1
    refine List.pairwise_append.2 ⟨(List.pairwise_append.1 h5).1, List.pairwise_singleton _ _, fun x hx y hy => ?_⟩
    obtain rfl := List.mem_singleton.1 hy
    exact (List.pairwise_append.1 h5).2.2 x hx (b, t, us) (List.mem_singleton_self _)
  · rw [MapR.get_put] at hq
    split at hq
    · rename_i hqa
      cases hq
      subst hqa
      exact .inl ⟨_, v, hA.1, hev, rfl⟩
    · rename_i hqa
      rcases h.res q u hq with h4 | ⟨h4, x, hx, hxq⟩
      · exact .inl h4
      · rcases List.mem_append.1 hx with hx | hx
        · rcases List.mem_append.1 hx with hx | hx
          · exact .inr ⟨h4, x, List.mem_append_left _ hx, hxq⟩
          · obtain rfl := List.mem_singleton.1 hx
            exact .inr ⟨h4, (b, t, us ++ [v]), List.mem_append_right _ (List.mem_singleton_self _), hxq⟩
        · obtain rfl := List.mem_singleton.1 hx
          exact absurd hxq.symm hqa
  · rcases MapR.mem_put hq with rfl | hq
    · exact hA.1.plain
    · exact h.pl q hq
  · have := h.run
    rw [frs_snoc, frs_snoc] at this
    rw [frs_snoc, ← this]
    exact run_pop hk hv
  · rcases List.mem_append.1 hx with hx | hx
    · exact h.fv x (List.mem_append_left _ (List.mem_append_left _ hx))
    · obtain rfl := List.mem_singleton.1 hx
      obtain ⟨op', n', nm', l'⟩ := t
      have hlt : us.length < l'.length := hL.1
      have hk2 : l'[us.length] = .mk op n nm l := by
        have : l'[us.length]? = some (.mk op n nm l) := hK
        rw [List.getElem?_eq_getElem hlt] at this
        exact Option.some.inj this
      rw [frv_next hlt, hk2, hev] at hF
      exact hF
  · have hC1 := (ch_snoc _ _).1 hC.1
    exact (ch_snoc _ _).2 ⟨hC1.1, fun x hx => hC1.2 x hx⟩
  · rw [frs_snoc, frs_snoc, frs_snoc]
    exact meas_pop
end Vl
end Go.Proofs.Ytiemibngfckgdaa
