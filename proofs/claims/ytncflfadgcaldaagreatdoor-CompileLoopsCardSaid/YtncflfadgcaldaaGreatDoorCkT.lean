/-
  A region that draws its order: what each operation yields is described by a condition on the value and the world that later operations keep. Each operation is walked once, over whatever frame its operands are known in; no order is looked at.
  Package check: assignments; what a statement's parts are in memory.
  Package check: statements of a condition.
  Package check: statements of threads and of futures.
-/
import Derived.StillTail
import Derived.Deep.Quiet
import Derived.Below
import Derived.Test.YtncflfadgcaldaaGreatDoorCkQ
namespace Go.Proofs.YtncflfadgcaldaaGreatDoor
open Go Go.RowKit

namespace Gd
section
variable {P : Program} {ops : Array Oper} {md : Region.Mode}
/-- The operation that writes slot t. -/
def dstOf (ops : Array Oper) (t : Tmp) : Option Nat := (List.range ops.size).find? fun j => (ops[j]?).bind (·.dst) == some t
theorem dstOf_some {t : Tmp} {j : Nat} (h : dstOf ops t = some j) : ∃ o, ops[j]? = some o ∧ o.dst = some t := by
  have h1 := List.find?_some h
  simp only [beq_iff_eq, Option.bind_eq_some_iff] at h1
  exact h1
theorem dstOf_none {t : Tmp} (h : dstOf ops t = none) : ∀ (j : Nat) (o : Oper), ops[j]? = some o → o.dst ≠ some t := by
  intro j o ho hd
  have h1 := List.find?_eq_none.1 h j (List.mem_range.2 (Array.getElem?_eq_some_iff.1 ho).1)
  simp [ho, hd] at h1
/-- Each operation waits for those before it alone, and for every one whose slot it looks at; no slot is written twice, all lie in the frame. -/
def regB (md : Region.Mode) (ops : Array Oper) (n : Nat) : Bool :=
  (List.range ops.size).all fun i => match ops[i]? with
    | none => true
    | some o => (o.after.all fun e => !Region.binds md e || decide (e.on < i)) &&
      ((o.looksAt ops).all fun t => (List.range ops.size).all fun j => ((ops[j]?).bind (·.dst) != some t) || Region.waitsFor md ops i j) &&
      (match o.dst with
        | none => true
        | some t => decide (t < n) && (List.range ops.size).all fun j => (j == i) || ((ops[j]?).bind (·.dst) != some t))
theorem regB_spec {n : Nat} (h : regB md ops n = true) {i : Nat} {o : Oper} (ho : ops[i]? = some o) :
    (∀ e ∈ o.after, Region.binds md e = true → e.on < i) ∧ (∀ t ∈ o.looksAt ops, ∀ j oj, ops[j]? = some oj → oj.dst = some t → Region.waitsFor md ops i j = true) ∧
    (∀ t, o.dst = some t → t < n ∧ ∀ j oj, ops[j]? = some oj → oj.dst = some t → j = i) := by
  have h1 := List.all_eq_true.1 h i (List.mem_range.2 (Array.getElem?_eq_some_iff.1 ho).1)
  simp only [ho, Bool.and_eq_true] at h1
  obtain ⟨⟨h1, h2⟩, h3⟩ := h1
  refine ⟨fun e he hb => ?_, fun t ht j oj hj hd => ?_, fun t ht => ?_⟩
  · have := Array.all_eq_true'.1 h1 e he
    simpa [hb] using this
  · have := List.all_eq_true.1 (List.all_eq_true.1 h2 t ht) j (List.mem_range.2 (Array.getElem?_eq_some_iff.1 hj).1)
    simpa [hj, hd] using this
  · rw [ht] at h3
    simp only [Bool.and_eq_true, decide_eq_true_eq] at h3
    refine ⟨h3.1, fun j oj hj hd => ?_⟩
    have := List.all_eq_true.1 h3.2 j (List.mem_range.2 (Array.getElem?_eq_some_iff.1 hj).1)
    simpa [hj, hd] using this
/-- What an operation looks at. -/
def Sees (ops : Array Oper) (G : Nat → Value → World → Prop) (a0 a : Act) (x : World) (o : Oper) : Prop :=
  a.tmps.size = a0.tmps.size ∧ ∀ t ∈ o.looksAt ops, match dstOf ops t with
    | some j => G j (a.tmps.getD t undef) x
    | none => a.tmps.getD t undef = a0.tmps.getD t undef
/-- An operation yields a value, or calls a function that does. -/
def goesUpon (P : Program) (K : Value → World → Prop) : Result Next → Prop
  | .ok (.value u) w' => K u w'
  | .ok .skip w' => K undef w'
  | .ok (.enter f args) w' => Calls P f args w' (fun e w'' => ∃ v, e = .returned v ∧ K v w'')
  | _ => False
def Goes (P : Program) (ops : Array Oper) (o : Oper) (a : Act) (x : World) (K : Value → World → Prop) : Prop :=
  if Region.wanted o (yielded ops a.tmps) then goesUpon P K ((execOp a.eval o).run P x) else K undef x
def putAll : Act → List Oper → Nat → (Nat → Value) → Act
  | a, [], _, _ => a
  | a, o :: r, k, vs => putAll (a.put o.dst (vs k)) r (k + 1) vs
theorem put_size (a : Act) (d : Option Tmp) (v : Value) : (a.put d v).tmps.size = a.tmps.size := by
  cases d <;> simp [Act.put]
theorem put_defers (a : Act) (d : Option Tmp) (v : Value) : (a.put d v).defers = a.defers := by
  cases d <;> rfl
theorem put_ne (a : Act) (d : Option Tmp) (v : Value) (t : Tmp) (h : d ≠ some t) : (a.put d v).tmps.getD t undef = a.tmps.getD t undef := by
  cases d with
  | none => rfl
  | some s =>
    have hs : s ≠ t := fun e => h (by rw [e])
    simp [Act.put, hs, Array.getD_eq_getD_getElem?]
theorem put_eq (a : Act) (v : Value) (t : Tmp) (h : t < a.tmps.size) : (a.put (some t) v).tmps.getD t undef = v := by
  simp [Act.put, h, Array.getD_eq_getD_getElem?]
theorem putAll_defers : ∀ (l : List Oper) (a : Act) (k : Nat) (vs : Nat → Value), (putAll a l k vs).defers = a.defers
  | [], _, _, _ => rfl
  | _ :: r, a, _, _ => (putAll_defers r _ _ _).trans (put_defers a _ _)
theorem putAll_size : ∀ (l : List Oper) (a : Act) (k : Nat) (vs : Nat → Value), (putAll a l k vs).tmps.size = a.tmps.size
  | [], _, _, _ => rfl
  | _ :: r, a, _, _ => (putAll_size r _ _ _).trans (put_size a _ _)
theorem putAll_at (F : Tmp → Value) (t : Tmp) : ∀ (l : List Oper) (a : Act) (k : Nat) (vs : Nat → Value), t < a.tmps.size → (∀ i o s, l[i]? = some o → o.dst = some s → vs (k + i) = F s) →
    (putAll a l k vs).tmps.getD t undef = if (l.any fun o => o.dst == some t) = true then F t else a.tmps.getD t undef
  | [], a, k, vs, _, _ => by simp [putAll]
  | o :: r, a, k, vs, ht, h => by
    have ih := putAll_at F t r (a.put o.dst (vs k)) (k + 1) vs (by rw [put_size]; exact ht) (fun i o' s hi hs => by
      have := h (i + 1) o' s (by simpa using hi) hs
      rw [← this]
      congr 1
      omega)
    show (putAll (a.put o.dst (vs k)) r (k + 1) vs).tmps.getD t undef = _
    rw [ih, List.any_cons]
    by_cases hr : (r.any fun o => o.dst == some t) = true
    · rw [if_pos hr, if_pos (by rw [hr]; simp)]
    · rw [if_neg hr]
      by_cases ho : o.dst = some t
      · rw [if_pos (by rw [ho]; simp), ho, put_eq _ _ _ ht]
        have := h 0 o t rfl ho
        simpa using this
      · rw [if_neg (by simp only [Bool.or_eq_true, beq_iff_eq, not_or]; exact ⟨ho, hr⟩), put_ne _ _ _ _ ho]
theorem act_ext {a b : Act} (h1 : a.tmps.size = b.tmps.size) (h2 : ∀ t, t < a.tmps.size → a.tmps.getD t undef = b.tmps.getD t undef) (h3 : a.defers = b.defers) : a = b := by
  obtain ⟨ta, da⟩ := a
  obtain ⟨tb, db⟩ := b
  simp only at h1 h2 h3
  subst h3
  congr 1
  refine Array.ext h1 fun i hi hj => ?_
  have := h2 i hi
  simpa [Array.getD_eq_getD_getElem?, hi, hj] using this
/-- How many operations have not come up. -/
def unl (ops : Array Oper) (listed : Array Bool) : Nat := (List.range ops.size).countP fun i => !listed.getD i true
theorem countP_lt {p q : Nat → Bool} {i : Nat} : ∀ {l : List Nat}, i ∈ l → p i = true → q i = false → (∀ x, q x = true → p x = true) → l.countP q < l.countP p
  | [], h, _, _, _ => nomatch h
  | y :: r, h, hp, hq, hle => by
    have hmono : r.countP q ≤ r.countP p := List.countP_mono_left fun x _ hx => hle x hx
    rw [List.countP_cons, List.countP_cons]
    by_cases hy : y = i
    · subst hy
      rw [if_pos hp, if_neg (by rw [hq]; decide)]
      omega
    · have hr : i ∈ r := (List.mem_cons.1 h).resolve_left (fun e => hy e.symm)
      have ih := countP_lt hr hp hq hle
      by_cases hqy : q y = true
      · rw [if_pos hqy, if_pos (hle y hqy)]
        omega
      · rw [if_neg hqy]
        omega
theorem unl_set {listed : Array Bool} {i : Nat} (hi : i ∈ Region.ready md ops listed) : unl ops (listed.setIfInBounds i true) < unl ops listed := by
  obtain ⟨hun, o, ho, _⟩ := mem_ready.1 hi
  have hlt : i < ops.size := (Array.getElem?_eq_some_iff.1 ho).1
  refine countP_lt (List.mem_range.2 hlt) (by rw [hun]; rfl) ?_ (fun x hx => ?_)
  · rcases Nat.lt_or_ge i listed.size with h | h
    · simp [Array.getD_eq_getD_getElem?, h]
    · simp [Array.getD_eq_getD_getElem?, Array.getElem?_eq_none h] at hun
  · by_cases hxi : i = x
    · subst hxi
      rw [hun]
      rfl
    · rw [getD_set_ne true hxi] at hx
      exact hx
/-- What holds while operations come up. -/
structure Inv (ops : Array Oper) (C : Array Bool → World → Prop) (G : Nat → Value → World → Prop) (a0 : Act) (listed : Array Bool) (a : Act) (x : World) : Prop where
  cls : C listed x
  defers : a.defers = a0.defers
  size : a.tmps.size = a0.tmps.size
  ls : listed.size = ops.size
  old : ∀ t, (∀ j o, ops[j]? = some o → o.dst = some t → listed.getD j true = false) → a.tmps.getD t undef = a0.tmps.getD t undef
  good : ∀ j o t, ops[j]? = some o → o.dst = some t → listed.getD j false = true → G j (a.tmps.getD t undef) x
theorem Inv.sees {C : Array Bool → World → Prop} {G : Nat → Value → World → Prop} {a0 a : Act} {listed : Array Bool} {x : World} {n i : Nat} {o : Oper} (h : Inv ops C G a0 listed a x) (hB : regB md ops n = true) (hi : i ∈ Region.ready md ops listed) (ho : ops[i]? = some o) : Sees ops G a0 a x o := by
  refine ⟨h.size, fun t ht => ?_⟩
  cases hd : dstOf ops t with
  | none => exact h.old t (fun j oj hj hdj => absurd hdj (dstOf_none hd j oj hj))
  | some j =>
    obtain ⟨oj, hj, hdj⟩ := dstOf_some hd
    obtain ⟨_, o', ho', hall⟩ := mem_ready.1 hi
    obtain rfl : o = o' := Option.some.inj (ho.symm.trans ho')
    obtain ⟨o'', ho'', e, he, hb, hon⟩ := Region.waitsFor_spec ((regB_spec hB ho).2.1 t ht j oj hj hdj)
    obtain rfl : o = o'' := Option.some.inj (ho.symm.trans ho'')
    have := hall e he hb
    rw [hon] at this
    exact h.good j oj t hj hdj this
theorem Inv.next {C : Array Bool → World → Prop} {G : Nat → Value → World → Prop} {Ext : World → World → Prop} {a0 a : Act} {listed : Array Bool} {x y : World} {n i : Nat} {o : Oper} {v : Value} (h : Inv ops C G a0 listed a x) (hB : regB md ops n = true) (hn : a0.tmps.size = n)
    (hi : i ∈ Region.ready md ops listed) (ho : ops[i]? = some o) (hstab : ∀ i v x y, Ext x y → G i v x → G i v y) (hC : C (listed.setIfInBounds i true) y) (hE : Ext x y) (hG : G i v y) : Inv ops C G a0 (listed.setIfInBounds i true) (a.put o.dst v) y := by
  have hun := (mem_ready.1 hi).1
  have hlt : i < listed.size := by rw [h.ls]; exact (Array.getElem?_eq_some_iff.1 ho).1
  have hset : (listed.setIfInBounds i true).getD i true = true := by simp [Array.getD_eq_getD_getElem?, hlt]
  refine ⟨hC, (put_defers _ _ _).trans h.defers, (put_size _ _ _).trans h.size, by simpa using h.ls, fun t ht => ?_, fun j oj t hj hdj hl => ?_⟩
  · have hne : o.dst ≠ some t := fun e => by
      have := ht i o ho e
      rw [hset] at this
      cases this
    rw [put_ne _ _ _ _ hne]
    refine h.old t (fun j oj hj hdj => ?_)
    have := ht j oj hj hdj
    by_cases hij : i = j
    · subst hij
      rw [hset] at this
      cases this
    · rwa [getD_set_ne true hij] at this
  · by_cases hij : i = j
    · subst hij
      obtain rfl : o = oj := Option.some.inj (ho.symm.trans hj)
      rw [hdj, put_eq _ _ _ (by rw [h.size, hn]; exact ((regB_spec hB ho).2.2 t hdj).1)]
      exact hG
    · have hne : o.dst ≠ some t := fun e => hij (((regB_spec hB hj).2.2 t hdj).2 i o ho e)
      rw [put_ne _ _ _ _ hne]
      rw [getD_set_ne false hij] at hl
      exact hstab _ _ _ _ hE (h.good j oj t hj hdj hl)
theorem all_listed {listed : Array Bool} {n : Nat} (hB : regB md ops n = true) (hls : listed.size = ops.size) (hr : Region.ready md ops listed = []) : ∀ i, i < ops.size → listed.getD i false = true := by
  intro i
  induction i using Nat.strongRecOn with
  | _ i ih =>
    intro hi
    cases hl : listed.getD i false with
    | true => rfl
    | false =>
      exfalso
      obtain ⟨o, ho⟩ : ∃ o, ops[i]? = some o := ⟨_, Array.getElem?_eq_getElem hi⟩
      have : i ∈ Region.ready md ops listed := mem_ready.2 ⟨getD_in (by omega) hl, o, ho, fun e he hb => by
        have h1 := (regB_spec hB ho).1 e he hb
        exact ih e.on h1 (by omega)⟩
      rw [hr] at this
      cases this
theorem goes_wp {o : Oper} {a : Act} {x : World} {Q : Exit → Act → World → Prop} {K : Value → World → Prop} {K' : Act → World → Prop} (h : goesUpon P K ((execOp a.eval o).run P x)) (hK : ∀ v y, K v y → K' (a.put o.dst v) y) : o.wp P a x K' Q := by
  unfold Oper.wp
  generalize (execOp a.eval o).run P x = r at *
  cases r with
  | ok nx w' =>
    cases nx <;> simp only [goesUpon] at h <;> simp only [Oper.upon]
    case value u => exact hK _ _ h
    case skip => exact hK _ _ h
    case enter f args =>
      exact h.mono fun e w'' ⟨v, he, hv⟩ => by subst he; exact hK _ _ hv
  | halt e w' => simp only [goesUpon] at h
theorem wp_region_good {id : Nat} {Q : Exit → Act → World → Prop} {a0 : Act} {w : World} {l : List Oper} (C : Array Bool → World → Prop) (Ext : World → World → Prop) (G : Nat → Value → World → Prop) (n : Nat)
    (hm : P.follows .mixedOrders = true) (hn : a0.tmps.size = n) (hB : regB .any l.toArray n = true) (hC : C (Array.replicate l.toArray.size false) w.drew)
    (hstab : ∀ i v x y, Ext x y → G i v x → G i v y)
    (hstep : ∀ i o, l[i]? = some o → ∀ listed a x, C listed x → listed.size = l.length → listed.getD i true = false → Sees l.toArray G a0 a x o → Goes P l.toArray o a x (fun v y => C (listed.setIfInBounds i true) y ∧ Ext x y ∧ G i v y))
    (hfin : ∀ (vs : Nat → Value) listed x, C listed x → (∀ i, i < l.length → listed.getD i false = true) → (∀ i o t, l[i]? = some o → o.dst = some t → G i (vs i) x) → Q .normal (putAll a0 l 0 vs) x) : (Code.region id l.toArray true).wp P Q a0 w := by
  have main : ∀ (f : Nat) (listed : Array Bool) (a : Act) (x : World), unl l.toArray listed ≤ f → Inv l.toArray C G a0 listed a x → wpAny P .any l.toArray Q f listed a x := by
    have last : ∀ (listed : Array Bool) (a : Act) (x : World), Inv l.toArray C G a0 listed a x → Region.ready .any l.toArray listed = [] → Q .normal a x := by
      intro listed a x h hr
      have hall := all_listed hB h.ls hr
      have hvs : ∀ i o s, l[i]? = some o → o.dst = some s → (fun i => match (l[i]?).bind (·.dst) with | some t => a.tmps.getD t undef | none => undef) (0 + i) = a.tmps.getD s undef := by
        intro i o s hi hs
        simp [hi, hs]
      have hp : a = putAll a0 l 0 (fun i => match (l[i]?).bind (·.dst) with | some t => a.tmps.getD t undef | none => undef) := by
        refine act_ext (h.size.trans (putAll_size _ _ _ _).symm) (fun t ht => ?_) (h.defers.trans (putAll_defers _ _ _ _).symm)
        rw [putAll_at (fun t => a.tmps.getD t undef) t l a0 0 _ (by rw [← h.size]; exact ht) hvs]
        by_cases hno : (l.any fun o => o.dst == some t) = true
        · rw [if_pos hno]
        · rw [if_neg hno]
          refine h.old t (fun j o hj hd => ?_)
          exact absurd (List.any_eq_true.2 ⟨o, List.mem_of_getElem? (by simpa using hj), by simpa using hd⟩) hno
      rw [hp]
      refine hfin _ listed x h.cls (fun i hi => hall i (by simpa using hi)) (fun i o t hi ht => ?_)
      have hlt : i < l.toArray.size := by simpa using (List.getElem?_eq_some_iff.1 hi).1
      have := h.good i o t (by simpa using hi) ht (hall i hlt)
      simp only [hi, Option.bind_some, ht]
      exact this
    intro f
    induction f with
    | zero =>
      intro listed a x hu h
      have hr : Region.ready .any l.toArray listed = [] := by
        cases hr : Region.ready .any l.toArray listed with
        | nil => rfl
        | cons i r =>
          have := unl_set (md := .any) (ops := l.toArray) (listed := listed) (i := i) (by rw [hr]; exact List.mem_cons_self ..)
          omega
      exact ⟨hr, last listed a x h hr⟩
    | succ f ih =>
      intro listed a x hu h
      refine ⟨fun hr => last listed a x h hr, fun i hi => ?_⟩
      obtain ⟨hun, o, ho, _⟩ := mem_ready.1 hi
      have hgo := hstep i o (by simpa using ho) listed a x h.cls (by simpa using h.ls) hun (h.sees hB hi ho)
      have hlt := unl_set hi
      have hnext : ∀ v y, (C (listed.setIfInBounds i true) y ∧ Ext x y ∧ G i v y) → wpAny P .any l.toArray Q f (listed.setIfInBounds i true) (a.put o.dst v) y := fun v y ⟨h1, h2, h3⟩ =>
        ih _ _ _ (by omega) (h.next hB hn hi ho hstab h1 h2 h3)
      unfold wpOp
      simp only [ho]
      unfold Goes at hgo
      split
      · rename_i hw
        rw [if_pos hw] at hgo
        exact .inl (goes_wp hgo hnext)
      · rename_i hw
        rw [if_neg hw] at hgo
        exact hnext _ _ hgo
  refine wp_region_any hm (main _ _ _ _ ?_ ?_)
  · exact Nat.le_trans (List.countP_le_length) (by simp)
  · refine ⟨hC, rfl, rfl, by simp, fun t _ => rfl, fun j o t _ _ hl => ?_⟩
    rw [getD_replicate_false] at hl
    cases hl
/-- A condition on a value and the world. -/
abbrev Cond := Value → World → Prop
def push (d : Option Tmp) (g : Cond) (kn : List (Tmp × Cond)) : List (Tmp × Cond) := match d with
  | some t => (t, g) :: kn
  | none => kn
def look : List (Tmp × Cond) → Tmp → Option Cond
  | [], _ => none
  | p :: r, t => if p.1 = t then some p.2 else look r t
/-- What is known of the slots that an operation looks at. -/
def Knows (a0 : Act) (kn : List (Tmp × Cond)) (a : Act) (x : World) : List Tmp → Prop
  | [] => True
  | t :: r => (match look kn t with
    | some g => g (a.tmps.getD t undef) x
    | none => a.tmps.getD t undef = a0.tmps.getD t undef) ∧ Knows a0 kn a x r
/-- What stands behind the region, whatever values that meet their conditions lie in the slots. -/
def Fin (Q : Exit → Act → World → Prop) (x : World) : Act → List (Tmp × Cond) → Prop
  | a, [] => Q .normal a x
  | a, (t, g) :: r => ∀ v, g v x → Fin Q x (a.put (some t) v) r
/-- One operation after the other, in the order of the text: each is given a condition. m: the number of the one operation that may turn the class. -/
def Steps (P : Program) (ops : Array Oper) (C : Bool → World → Prop) (Ext : World → World → Prop) (a0 : Act) (m : Option Nat) (Q : Exit → Act → World → Prop) : List (Tmp × Cond) → Nat → List Oper → Prop
  | kn, _, [] => ∀ x, C m.isSome x → Fin Q x a0 kn.reverse
  | kn, k, o :: r => ∃ g : Cond, (∀ v x y, Ext x y → g v x → g v y) ∧
      (∀ s a x, C s x → (m = some k → s = false) → a.tmps.size = a0.tmps.size → Knows a0 kn a x (o.looksAt ops) → Goes P ops o a x (fun v y => C (s || m == some k) y ∧ Ext x y ∧ g v y)) ∧
      Steps P ops C Ext a0 m Q (push o.dst g kn) (k + 1) r
/-- What the first i operations have pushed. -/
def knOf : List Oper → List Cond → Nat → List (Tmp × Cond)
  | _, _, 0 => []
  | l, gs, i + 1 => match l[i]?, gs[i]? with
    | some o, some g => push o.dst g (knOf l gs i)
    | _, _ => knOf l gs i
theorem knOf_succ (l : List Oper) (gs : List Cond) (i : Nat) : knOf l gs (i + 1) = match l[i]?, gs[i]? with
    | some o, some g => push o.dst g (knOf l gs i)
    | _, _ => knOf l gs i := rfl
/-- Whether the one operation has come up. -/
def bitOf (m : Option Nat) (listed : Array Bool) : Bool := match m with
  | some k => listed.getD k false
  | none => false
theorem look_knOf {l : List Oper} {gs : List Cond} {t : Tmp} : ∀ (i : Nat) (g : Cond), look (knOf l gs i) t = some g → ∃ j o, j < i ∧ l[j]? = some o ∧ o.dst = some t ∧ gs[j]? = some g
  | 0, _, h => by simp [knOf, look] at h
  | i + 1, g, h => by
    unfold knOf at h
    cases ho : l[i]? with
    | none =>
      rw [ho] at h
      obtain ⟨j, o, hj, h1⟩ := look_knOf i g h
      exact ⟨j, o, by omega, h1⟩
    | some o =>
      cases hg : gs[i]? with
      | none =>
        rw [ho, hg] at h
        obtain ⟨j, o, hj, h1⟩ := look_knOf i g h
        exact ⟨j, o, by omega, h1⟩
      | some g' =>
        rw [ho, hg] at h
        simp only [push] at h
        cases hd : o.dst with
        | none =>
          rw [hd] at h
          obtain ⟨j, o, hj, h1⟩ := look_knOf i g h
          exact ⟨j, o, by omega, h1⟩
        | some s =>
          rw [hd] at h
          simp only [look] at h
          by_cases hs : s = t
          · rw [if_pos hs] at h
            cases h
            exact ⟨i, o, by omega, ho, by rw [hd, hs], hg⟩
          · rw [if_neg hs] at h
            obtain ⟨j, o, hj, h1⟩ := look_knOf i g h
            exact ⟨j, o, by omega, h1⟩
theorem look_knOf_none {l : List Oper} {gs : List Cond} {t : Tmp} (hl : gs.length = l.length) : ∀ (i : Nat), look (knOf l gs i) t = none → ∀ j o, j < i → l[j]? = some o → o.dst ≠ some t
  | 0, _, j, _, hj, _ => absurd hj (by omega)
  | i + 1, h, j, o, hj, ho => by
    unfold knOf at h
    by_cases hij : j = i
    · subst hij
      obtain ⟨g, hg⟩ : ∃ g, gs[j]? = some g := ⟨_, List.getElem?_eq_getElem (by rw [hl]; exact (List.getElem?_eq_some_iff.1 ho).1)⟩
      rw [ho, hg] at h
      simp only [push] at h
      cases hd : o.dst with
      | none => simp
      | some s =>
        rw [hd] at h
        simp only [look] at h
        by_cases hs : s = t
        · rw [if_pos hs] at h
          cases h
        · intro e
          exact hs (Option.some.inj e)
    · have hji : j < i := by omega
      cases ho' : l[i]? with
      | none =>
        rw [ho'] at h
        exact look_knOf_none hl i h j o hji ho
      | some o' =>
        cases hg : gs[i]? with
        | none =>
          rw [ho', hg] at h
          exact look_knOf_none hl i h j o hji ho
        | some g' =>
          rw [ho', hg] at h
          simp only [push] at h
          cases hd : o'.dst with
          | none =>
            rw [hd] at h
            exact look_knOf_none hl i h j o hji ho
          | some s =>
            rw [hd] at h
            simp only [look] at h
            by_cases hs : s = t
            · rw [if_pos hs] at h
              cases h
            · rw [if_neg hs] at h
              exact look_knOf_none hl i h j o hji ho
/-- What one operation of the list owes. -/
def Owes (P : Program) (ops : Array Oper) (C : Bool → World → Prop) (Ext : World → World → Prop) (a0 : Act) (m : Option Nat) (kn : List (Tmp × Cond)) (k : Nat) (o : Oper) (g : Cond) : Prop :=
  (∀ v x y, Ext x y → g v x → g v y) ∧ ∀ s a x, C s x → (m = some k → s = false) → a.tmps.size = a0.tmps.size → Knows a0 kn a x (o.looksAt ops) → Goes P ops o a x (fun v y => C (s || m == some k) y ∧ Ext x y ∧ g v y)
theorem knOf_append {l1 : List Oper} {gs1 : List Cond} (hl : gs1.length = l1.length) (l2 : List Oper) (gs2 : List Cond) : ∀ i, i ≤ l1.length → knOf (l1 ++ l2) (gs1 ++ gs2) i = knOf l1 gs1 i
  | 0, _ => rfl
  | i + 1, hi => by
    unfold knOf
    rw [List.getElem?_append_left (by omega), List.getElem?_append_left (by omega), knOf_append hl l2 gs2 i (by omega)]
theorem steps_open {C : Bool → World → Prop} {Ext : World → World → Prop} {a0 : Act} {m : Option Nat} {Q : Exit → Act → World → Prop} : ∀ (l2 l1 : List Oper) (gs1 : List Cond), gs1.length = l1.length →
    Steps P ops C Ext a0 m Q (knOf l1 gs1 l1.length) l1.length l2 → ∃ gs2, gs2.length = l2.length ∧ (∀ i o g, l2[i]? = some o → gs2[i]? = some g → Owes P ops C Ext a0 m (knOf (l1 ++ l2) (gs1 ++ gs2) (l1.length + i)) (l1.length + i) o g) ∧
      ∀ x, C m.isSome x → Fin Q x a0 (knOf (l1 ++ l2) (gs1 ++ gs2) (l1.length + l2.length)).reverse
  | [], l1, gs1, hl, h => ⟨[], rfl, fun i o g ho => by simp at ho, fun x hx => by
    have := h x hx
    simpa using this⟩
  | o :: r, l1, gs1, hl, h => by
    obtain ⟨g, hst, hgo, hrest⟩ := h
    have e1 : knOf (l1 ++ [o]) (gs1 ++ [g]) (l1 ++ [o]).length = push o.dst g (knOf l1 gs1 l1.length) := by
      have : (l1 ++ [o]).length = l1.length + 1 := by simp
      rw [this, knOf_succ]
      rw [List.getElem?_append_right (Nat.le_refl _), Nat.sub_self, List.getElem?_append_right (by omega), hl, Nat.sub_self]
      simp only [List.getElem?_cons_zero]
      rw [knOf_append hl [o] [g] _ (Nat.le_refl _)]
    obtain ⟨gs2, h1, h2, h3⟩ := steps_open r (l1 ++ [o]) (gs1 ++ [g]) (by simp [hl]) (by
      rw [e1]
      have : (l1 ++ [o]).length = l1.length + 1 := by simp
      rw [this]
      exact hrest)
    have e2 : (l1 ++ [o]) ++ r = l1 ++ o :: r := by simp
    have e3 : (gs1 ++ [g]) ++ gs2 = gs1 ++ g :: gs2 := by simp
    rw [e2, e3] at h2 h3
    refine ⟨g :: gs2, by simp [h1], fun i o' g' ho hg => ?_, fun x hx => ?_⟩
    · cases i with
      | zero =>
        simp only [List.getElem?_cons_zero, Option.some.injEq] at ho hg
        subst ho hg
        rw [Nat.add_zero, knOf_append hl _ _ _ (Nat.le_refl _)]
        exact ⟨hst, hgo⟩
      | succ i =>
        have := h2 i o' g' (by simpa using ho) (by simpa using hg)
        have e : (l1 ++ [o]).length + i = l1.length + (i + 1) := by simp; omega
        rw [e] at this
        exact this
    · have := h3 x hx
      have e : (l1 ++ [o]).length + r.length = l1.length + (o :: r).length := by simp; omega
      rw [e] at this
      exact this
theorem knows_of {a0 a : Act} {kn : List (Tmp × Cond)} {x : World} : ∀ ts : List Tmp, (∀ t ∈ ts, match look kn t with
    | some g => g (a.tmps.getD t undef) x
    | none => a.tmps.getD t undef = a0.tmps.getD t undef) → Knows a0 kn a x ts
  | [], _ => trivial
  | t :: r, h => ⟨h t (List.mem_cons_self ..), knows_of r fun s hs => h s (List.mem_cons_of_mem _ hs)⟩
theorem fin_use {Q : Exit → Act → World → Prop} {x : World} : ∀ (l1 l2 : List (Tmp × Cond)) (a : Act), Fin Q x a (l1 ++ l2) → Fin (fun e a' x' => Fin Q x' a' l2 ∧ e = .normal) x a l1
  | [], _, _, h => ⟨h, rfl⟩
  | (_, _) :: r, l2, _, h => fun v hv => fin_use r l2 _ (h v hv)
theorem fin_put {Q : Exit → Act → World → Prop} {x : World} {l : List Oper} {gs : List Cond} (hl : gs.length = l.length) (vs : Nat → Value) (hv : ∀ (i : Nat) (o : Oper) (t : Tmp) (g : Cond), l[i]? = some o → o.dst = some t → gs[i]? = some g → g (vs i) x) :
    ∀ (i : Nat) (a : Act), i ≤ l.length → Fin Q x a (knOf l gs i).reverse → Q .normal (putAll a (l.take i) 0 vs) x := by
  have snoc : ∀ (r : List Oper) (o : Oper) (k : Nat) (a : Act), putAll a (r ++ [o]) k vs = (putAll a r k vs).put o.dst (vs (k + r.length)) := by
    intro r
    induction r with
    | nil => intro o k a; rfl
    | cons q r ih =>
      intro o k a
      show putAll (a.put q.dst (vs k)) (r ++ [o]) (k + 1) vs = _
      rw [ih]
      show _ = (putAll (a.put q.dst (vs k)) r (k + 1) vs).put o.dst _
      congr 2
      simp only [List.length_cons]
      omega
  have run : ∀ (i : Nat) (a : Act) (Q : Exit → Act → World → Prop), i ≤ l.length → Fin Q x a (knOf l gs i).reverse → Q .normal (putAll a (l.take i) 0 vs) x := by
    intro i
    induction i with
    | zero => intro a Q _ h; exact h
    | succ i ih =>
      intro a Q hi h
      obtain ⟨o, ho⟩ : ∃ o, l[i]? = some o := ⟨_, List.getElem?_eq_getElem (by omega)⟩
      obtain ⟨g, hg⟩ : ∃ g, gs[i]? = some g := ⟨_, List.getElem?_eq_getElem (by omega)⟩
      have et : l.take (i + 1) = l.take i ++ [o] := by
        rw [List.take_add_one, ho]
        rfl
      have elen : (l.take i).length = i := by rw [List.length_take]; omega
      rw [et, snoc, elen, Nat.zero_add]
      rw [knOf_succ, ho, hg] at h
      simp only [push] at h
      cases hd : o.dst with
      | none =>
        rw [hd] at h
        exact ih a Q (by omega) h
      | some t =>
        rw [hd] at h
        simp only [List.reverse_cons] at h
        have h2 := ih a _ (by omega) (fin_use _ _ _ h)
        exact h2.1 _ (hv i o t g ho hd hg)
  exact fun i a => run i a Q
/-- **A region that draws its order, by steps in the order of the text.** -/
theorem wp_region_steps {id : Nat} {Q : Exit → Act → World → Prop} {a0 : Act} {w : World} {l : List Oper} (C : Bool → World → Prop) (Ext : World → World → Prop) (m : Option Nat) (n : Nat)
    (hm : P.follows .mixedOrders = true) (hn : a0.tmps.size = n) (hB : (regB .any l.toArray n && (match m with | some k => decide (k < l.length) | none => true)) = true) (hC : C false w.drew)
    (h : Steps P l.toArray C Ext a0 m Q [] 0 l) : (Code.region id l.toArray true).wp P Q a0 w := by
  rw [Bool.and_eq_true] at hB
  obtain ⟨hB, hmk⟩ := hB
  obtain ⟨gs, hgl, howe, hfin⟩ := steps_open (ops := l.toArray) l [] [] rfl h
  simp only [List.nil_append, List.length_nil, Nat.zero_add] at howe hfin
  refine wp_region_good (fun listed x => C (bitOf m listed) x) Ext (fun i v x => match gs[i]? with | some g => g v x | none => True) n hm hn hB ?_ ?_ ?_ ?_
  · have : bitOf m (Array.replicate l.toArray.size false) = false := by
      cases m with
      | none => rfl
      | some k => exact getD_replicate_false _ _
    rw [this]
    exact hC
  · intro i v x y hE hg
    cases hgi : gs[i]? with
    | none => trivial
    | some g =>
      rw [hgi] at hg
      obtain ⟨o, ho⟩ : ∃ o, l[i]? = some o := ⟨_, List.getElem?_eq_getElem (by rw [← hgl]; exact (List.getElem?_eq_some_iff.1 hgi).1)⟩
      exact (howe i o g ho hgi).1 v x y hE hg
  · intro i o ho listed a x hCx hls hun hs
    obtain ⟨g, hg⟩ : ∃ g, gs[i]? = some g := ⟨_, List.getElem?_eq_getElem (by rw [hgl]; exact (List.getElem?_eq_some_iff.1 ho).1)⟩
    have hoA : l.toArray[i]? = some o := by simpa using ho
    have hil : i < listed.size := by rw [hls]; exact (List.getElem?_eq_some_iff.1 ho).1
    have hgo := (howe i o g ho hg).2 _ a x hCx (fun e => by
      subst e
      exact getD_both hun) hs.1 (knows_of _ fun t ht => by
        have h1 := hs.2 t ht
        cases hlk : look (knOf l gs i) t with
        | some g' =>
          obtain ⟨j, oj, hj, hoj, hdj, hgj⟩ := look_knOf i g' hlk
          have hojA : l.toArray[j]? = some oj := by simpa using hoj
          cases hd : dstOf l.toArray t with
          | none => exact absurd hdj (dstOf_none hd j oj hojA)
          | some j' =>
            obtain ⟨oj', hoj', hdj'⟩ := dstOf_some hd
            have := ((regB_spec hB hojA).2.2 t hdj).2 j' oj' hoj' hdj'
            subst this
            rw [hd] at h1
            simp only [hgj] at h1
            exact h1
        | none =>
          have hno := look_knOf_none hgl i hlk
          cases hd : dstOf l.toArray t with
          | none =>
            rw [hd] at h1
            exact h1
          | some j =>
            exfalso
            obtain ⟨oj, hoj, hdj⟩ := dstOf_some hd
            obtain ⟨o', ho', e, he, hb, hon⟩ := Region.waitsFor_spec ((regB_spec hB hoA).2.1 t ht j oj hoj hdj)
            obtain rfl : o = o' := Option.some.inj (hoA.symm.trans ho')
            have hlt := (regB_spec hB hoA).1 e he hb
            rw [hon] at hlt
            exact hno j oj hlt (by simpa using hoj) hdj)
    have hcong : ∀ v y, (C ((bitOf m listed) || m == some i) y ∧ Ext x y ∧ g v y) → (C (bitOf m (listed.setIfInBounds i true)) y ∧ Ext x y ∧ (match gs[i]? with | some g => g v y | none => True)) := by
      intro v y ⟨h1, h2, h3⟩
      refine ⟨?_, h2, by rw [hg]; exact h3⟩
      cases m with
      | none => simpa [bitOf] using h1
      | some k =>
        by_cases hki : k = i
        · subst hki
          have e : (listed.setIfInBounds k true).getD k false = true := by simp [Array.getD_eq_getD_getElem?, hil]
          simp only [beq_self_eq_true, Bool.or_true] at h1
          show C ((listed.setIfInBounds k true).getD k false) y
          rw [e]
          exact h1
        · have e : (listed.setIfInBounds i true).getD k false = listed.getD k false := getD_set_ne false (fun e => hki e.symm)
          show C ((listed.setIfInBounds i true).getD k false) y
          rw [e]
          have : (some k == some i) = false := by simpa using hki
          rw [this, Bool.or_false] at h1
          exact h1
    unfold Goes at hgo ⊢
    split
    · rename_i hw
      rw [if_pos hw] at hgo
      revert hgo
      generalize (execOp a.eval o).run P x = r
      intro hgo
      cases r with
      | ok nx w' =>
        cases nx <;> simp only [goesUpon] at hgo ⊢
        case value u => exact hcong _ _ hgo
        case skip => exact hcong _ _ hgo
        case enter f args => exact hgo.mono fun e w'' ⟨v, he, hv⟩ => ⟨v, he, hcong _ _ hv⟩
      | halt e w' => simp only [goesUpon] at hgo
    · rename_i hw
      rw [if_neg hw] at hgo
      exact hcong _ _ hgo
  · intro vs listed x hCx hall hgv
    have hb : bitOf m listed = m.isSome := by
      cases m with
      | none => rfl
      | some k =>
        simp only [decide_eq_true_eq] at hmk
        exact hall k hmk
    rw [hb] at hCx
    have h1 := hfin x hCx
    have h2 := fin_put hgl vs (fun i o t g ho ht hg => by
      have := hgv i o t ho ht
      simp only [hg] at this
      exact this) l.length a0 (Nat.le_refl _) h1
    rw [List.take_length] at h2
    exact h2
theorem yielded_of {ops : Array Oper} {a : Act} {j : Nat} {t : Tmp} {b : Bool} (hj : (ops[j]?).bind (·.dst) = some t) (h : a.tmps.getD t undef = .bool b) : yielded ops a.tmps j = some b := by
  unfold yielded
  rw [hj]
  simp only [Option.bind_some]
  have : a.tmps[t]? = some (.bool b) := by
    rcases Nat.lt_or_ge t a.tmps.size with hlt | hge
    · simp [Array.getD_eq_getD_getElem?, hlt] at h
      simp [hlt, h]
    · simp [Array.getD_eq_getD_getElem?, Array.getElem?_eq_none hge, undef] at h
  rw [this]
def eqv (V : Value) : Cond := fun v _ => v = V
/-- An operation that turns nothing and yields this value. -/
theorem step_pure {C : Bool → World → Prop} {Ext : World → World → Prop} {a0 : Act} {m : Option Nat} {Q : Exit → Act → World → Prop} {kn : List (Tmp × Cond)} {k : Nat} {o : Oper} {r : List Oper} (hE : ∀ x, Ext x x) (hm : (m == some k) = false) (V : Value)
    (h1 : ∀ s a x, C s x → Knows a0 kn a x (o.looksAt ops) → Goes P ops o a x (fun v y => v = V ∧ y = x)) (h2 : Steps P ops C Ext a0 m Q (push o.dst (eqv V) kn) (k + 1) r) : Steps P ops C Ext a0 m Q kn k (o :: r) := by
  refine ⟨eqv V, fun _ _ _ _ h => h, fun s a x hC _ _ hk => ?_, h2⟩
  have h := h1 s a x hC hk
  have key : ∀ v y, (v = V ∧ y = x) → (C (s || m == some k) y ∧ Ext x y ∧ eqv V v y) := fun v y ⟨hv, hy⟩ => by
    subst hy
    rw [hm, Bool.or_false]
    exact ⟨hC, hE _, hv⟩
  unfold Goes at h ⊢
  split
  · rename_i hw
    rw [if_pos hw] at h
    revert h
    generalize (execOp a.eval o).run P x = q
    intro h
    cases q with
    | ok nx w' =>
      cases nx <;> simp only [goesUpon] at h ⊢
      case value u => exact key _ _ h
      case skip => exact key _ _ h
      case enter f args => exact h.mono fun e w'' ⟨v, he, hv⟩ => ⟨v, he, key _ _ hv⟩
    | halt e w' => simp only [goesUpon] at h
  · rename_i hw
    rw [if_neg hw] at h
    exact key _ _ h
theorem goes_mono {o : Oper} {a : Act} {x : World} {K K' : Value → World → Prop} (h : Goes P ops o a x K) (key : ∀ v y, K v y → K' v y) : Goes P ops o a x K' := by
  unfold Goes at h ⊢
  split
  · rename_i hw
    rw [if_pos hw] at h
    revert h
    generalize (execOp a.eval o).run P x = q
    intro h
    cases q with
    | ok nx w' =>
      cases nx <;> simp only [goesUpon] at h ⊢
      case value u => exact key _ _ h
      case skip => exact key _ _ h
      case enter f args => exact h.mono fun e w'' ⟨v, he, hv⟩ => ⟨v, he, key _ _ hv⟩
    | halt e w' => simp only [goesUpon] at h
  · rename_i hw
    rw [if_neg hw] at h
    exact key _ _ h
/-- The worlds that extend one world, and that a world extends another. -/
def BC (w : World) : Bool → World → Prop := fun _ x => Below w.heap.size w x
def BE : World → World → Prop := fun x y => Below x.heap.size x y
theorem step_eqv {w : World} {a0 : Act} {Q : Exit → Act → World → Prop} {kn : List (Tmp × Cond)} {k : Nat} {o : Oper} {r : List Oper} (V : Value)
    (h1 : ∀ a x, Below w.heap.size w x → Knows a0 kn a x (o.looksAt ops) → Goes P ops o a x (fun v y => v = V ∧ Below x.heap.size x y)) (h2 : Steps P ops (BC w) BE a0 none Q (push o.dst (eqv V) kn) (k + 1) r) : Steps P ops (BC w) BE a0 none Q kn k (o :: r) :=
  ⟨eqv V, fun _ _ _ _ h => h, fun _ a x hC _ _ hk => goes_mono (h1 a x hC hk) fun _ _ ⟨hv, hy⟩ => ⟨Below.trans hC (hy.mono hC.size), hy, hv⟩, h2⟩
theorem step_cond {w : World} {a0 : Act} {Q : Exit → Act → World → Prop} {kn : List (Tmp × Cond)} {k : Nat} {o : Oper} {r : List Oper} (g : Cond) (hst : ∀ v x y, Below x.heap.size x y → g v x → g v y)
    (h1 : ∀ a x, Below w.heap.size w x → Knows a0 kn a x (o.looksAt ops) → Goes P ops o a x (fun v y => g v y ∧ Below x.heap.size x y)) (h2 : Steps P ops (BC w) BE a0 none Q (push o.dst g kn) (k + 1) r) : Steps P ops (BC w) BE a0 none Q kn k (o :: r) :=
  ⟨g, hst, fun _ a x hC _ _ hk => goes_mono (h1 a x hC hk) fun _ _ ⟨hv, hy⟩ => ⟨Below.trans hC (hy.mono hC.size), hy, hv⟩, h2⟩
theorem wp_region_below {id : Nat} {Q : Exit → Act → World → Prop} {a0 : Act} {w : World} {l : List Oper} (n : Nat)
    (hm : P.follows .mixedOrders = true) (hn : a0.tmps.size = n) (hB : regB .any l.toArray n = true)
    (h : Steps P l.toArray (BC w) BE a0 none Q [] 0 l) : (Code.region id l.toArray true).wp P Q a0 w :=
  wp_region_steps (BC w) BE none n hm hn (by rw [hB]; rfl) (Below.refl _ _).drew h
theorem calls_eqv {f : FuncId} {args : Array Value} {x : World} {V : Value} (h : Calls P f args x fun e w' => e = .returned V ∧ Below x.heap.size x w') : Calls P f args x fun e w' => ∃ v, e = .returned v ∧ v = V ∧ Below x.heap.size x w' :=
  h.mono fun _ _ ⟨he, hb⟩ => ⟨_, he, rfl, hb⟩
theorem getD_bool {l : Array Value} {t : Nat} {b : Bool} : l[t]?.getD undef = .bool b ↔ l[t]? = some (.bool b) := by
  cases h : l[t]? with
  | none => simp [undef]
  | some v => simp
end
end Gd
end Go.Proofs.YtncflfadgcaldaaGreatDoor

namespace Go.Proofs.YtncflfadgcaldaaGreatDoor
open Go.RowKit
open Par Tok

namespace Ck
/-- A statement stands at this address. -/
def SmAt (w : World) (S : Nat → Prop) (g o : Nat) (x : Sm) : Prop := ∃ cs, RdS w S x cs ∧ ∀ j u, cs[j]? = some u → w.cell? ⟨g, o + j, none⟩ = some u
theorem SmAt.below {w w' : World} {S : Nat → Prop} {g o : Nat} {x : Sm} (h : SmAt w S g o x) (b : Below w.heap.size w w') : SmAt w' S g o x := by
  obtain ⟨cs, h1, h2⟩ := h
  exact ⟨cs, RdS.turn (fun _ _ _ hk hc => ⟨(b.cell (block_lt_of_cell hc)).trans hc, hk⟩) _ _ h1, fun j u hj => (b.cell (block_lt_of_cell (h2 j u hj))).trans (h2 j u hj)⟩
/-- The value is a slice of these numbers. -/
def gZ (zs : List Int) : Gd.Cond := fun v x => ZsAt x v zs
theorem gZ_stable (zs : List Int) : ∀ v x y, Below x.heap.size x y → gZ zs v x → gZ zs v y := fun _ _ _ b h => ZsAt.below h b
theorem gZ_one (x : World) (p : Int) (t : TypeId) : gZ [p] (.slice (some ⟨x.heap.size, 0, none⟩) 1 1) (x.alloc (.cells #[.int .i64 p] t)) := by
  refine ⟨_, 1, rfl, fun k h => ?_⟩
  match k, h with
  | 0, _ => exact ⟨x.heap.size, rfl, by simp, by simp⟩
theorem gZ_two (x : World) (p q : Int) (t : TypeId) : gZ [p, q] (.slice (some ⟨x.heap.size, 0, none⟩) 2 2) (x.alloc (.cells #[.int .i64 p, .int .i64 q] t)) := by
  refine ⟨_, 2, rfl, fun k h => ?_⟩
  match k, h with
  | 0, _ => exact ⟨x.heap.size, rfl, by simp, by simp⟩
  | 1, _ => exact ⟨x.heap.size, rfl, by simp, by simp⟩
theorem gZ_three (x : World) (p q r : Int) (t : TypeId) : gZ [p, q, r] (.slice (some ⟨x.heap.size, 0, none⟩) 3 3) (x.alloc (.cells #[.int .i64 p, .int .i64 q, .int .i64 r] t)) := by
  refine ⟨_, 3, rfl, fun k h => ?_⟩
  match k, h with
  | 0, _ => exact ⟨x.heap.size, rfl, by simp, by simp⟩
  | 1, _ => exact ⟨x.heap.size, rfl, by simp, by simp⟩
  | 2, _ => exact ⟨x.heap.size, rfl, by simp, by simp⟩
/-- The value is a slice of these errors, without room for more. -/
def gE (zs : List Nat) : Gd.Cond := fun v x => ∃ g, v = .slice (some ⟨g, 0, none⟩) zs.length zs.length ∧ ∀ k (h : k < zs.length), x.cell? ⟨g, k, none⟩ = some (.int .i64 (zs[k] : Nat))
theorem gE_stable (zs : List Nat) : ∀ v x y, Below x.heap.size x y → gE zs v x → gE zs v y := by
  rintro v x y b ⟨g, hv, hc⟩
  exact ⟨g, hv, fun k h => (b.cell (block_lt_of_cell (hc k h))).trans (hc k h)⟩
theorem gE_two (x : World) (p q : Nat) (t : TypeId) : gE [p, q] (.slice (some ⟨x.heap.size, 0, none⟩) 2 2) (x.alloc (.cells #[.int .i64 p, .int .i64 q] t)) := by
  refine ⟨_, rfl, fun k h => ?_⟩
  match k, h with
  | 0, _ => simp
  | 1, _ => simp
theorem gE_three (x : World) (p q r : Nat) (t : TypeId) : gE [p, q, r] (.slice (some ⟨x.heap.size, 0, none⟩) 3 3) (x.alloc (.cells #[.int .i64 p, .int .i64 q, .int .i64 r] t)) := by
  refine ⟨_, rfl, fun k h => ?_⟩
  match k, h with
  | 0, _ => simp
  | 1, _ => simp
  | 2, _ => simp
theorem firstE_at (x : World) (v : Value) (es : List Nat) (e : Nat) (he : firstE es = e) (hl : es.length ≤ 100) (hv : gE es v x) : Calls Tryz.prog 105 #[v] x fun z w' => z = .returned (.int .i64 (e : Nat)) ∧ Below x.heap.size x w' := by
  obtain ⟨g, rfl, hc⟩ := hv
  refine (first_any x g es hc hl).mono ?_
  rintro _ _ ⟨rfl, rfl⟩
  exact ⟨by rw [he], Below.refl _ _⟩
theorem alloc_below (x : World) (o : Obj) : Below x.heap.size x (x.alloc o) := (Below.refl _ _).alloc (Nat.le_refl _) _

/-- What the walk over a statement reads of it. -/
structure SmF (w : World) (gs os : Nat) (op line : Nat) (name arg : Bs) : Prop where
  s0 : ∀ x, Below w.heap.size w x → x.cell? ⟨gs, os, none⟩ = some (.int .i64 op)
  s1 : ∀ x, Below w.heap.size w x → x.cell? ⟨gs, os + 1, none⟩ = some (.int .i64 line)
  s2 : ∀ x, Below w.heap.size w x → x.cell? ⟨gs, os + 2, none⟩ = some (.string ⟨name.toArray⟩)
  s3 : ∀ x, Below w.heap.size w x → x.cell? ⟨gs, os + 3, none⟩ = some (.string ⟨arg.toArray⟩)
theorem SmAt.f {W0 w : World} {S : Nat → Prop} {gs os op line : Nat} {name arg : Bs} {ix : List E} {ex : E} {body els : List Sm} (h : SmAt W0 S gs os (.mk op line name arg ix ex body els)) (bel : Below W0.heap.size W0 w) : SmF w gs os op line name arg := by
  obtain ⟨cs, ⟨v4, e0, e1, e2, e3, a9, c9, a10, c10, rfl, _, _, _, _⟩, hcs⟩ := h
  have key : ∀ j u, ([.int .i64 op, .int .i64 line, .string ⟨name.toArray⟩, .string ⟨arg.toArray⟩, v4, e0, e1, e2, e3, .slice a9 body.length c9, .slice a10 els.length c10] : List Value)[j]? = some u → ∀ x, Below w.heap.size w x → x.cell? ⟨gs, os + j, none⟩ = some u := fun j u hj x hx => ((Below.trans bel (hx.mono bel.size)).cell (block_lt_of_cell (hcs j u hj))).trans (hcs j u hj)
  exact ⟨key 0 _ rfl, key 1 _ rfl, key 2 _ rfl, key 3 _ rfl⟩
theorem SmAt.ex {W0 : World} {S : Nat → Prop} {gs os op line : Nat} {name arg : Bs} {ix : List E} {ex : E} {body els : List Sm} (h : SmAt W0 S gs os (.mk op line name arg ix ex body els)) : ExAt W0 S gs (os + 5) ex := by
  obtain ⟨cs, ⟨v4, e0, e1, e2, e3, a9, c9, a10, c10, rfl, _, hex, _, _⟩, hcs⟩ := h
  exact ⟨e0, e1, e2, e3, hcs 5 _ rfl, hcs 6 _ rfl, hcs 7 _ rfl, hcs 8 _ rfl, hex⟩
/-- What the walk's block holds, in every world that extends one. -/
structure WkF (w : World) (G b : Nat) (vl vd vt va : Value) (own : Bs) : Prop where
  p0 : ∀ x, Below w.heap.size w x → x.cell? ⟨G, 0, none⟩ = some vl
  p1 : ∀ x, Below w.heap.size w x → x.cell? ⟨G, 1, none⟩ = some vd
  p2 : ∀ x, Below w.heap.size w x → x.cell? ⟨G, 2, none⟩ = some vt
  p3 : ∀ x, Below w.heap.size w x → x.cell? ⟨G, 3, none⟩ = some (.string ⟨own.toArray⟩)
  p4 : ∀ x, Below w.heap.size w x → x.cell? ⟨G, 4, none⟩ = some va
  p5 : ∀ x, Below w.heap.size w x → x.cell? ⟨G, 5, none⟩ = some (.map (some b))
theorem WkAt.f {W0 w : World} {G b n : Nat} {s : Sc} {vl vd vt va : Value} {own : Bs} {ar : Ar} {dn : List Bs} (h : WkAt W0 G b s vl vd vt own ar dn n va w) : WkF w G b vl vd vt va own :=
  ⟨fun _ hx => (hx.cell (block_lt_of_cell h.c0)).trans h.c0, fun _ hx => (hx.cell (block_lt_of_cell h.c1)).trans h.c1, fun _ hx => (hx.cell (block_lt_of_cell h.c2)).trans h.c2, fun _ hx => (hx.cell (block_lt_of_cell h.c3)).trans h.c3, fun _ hx => (hx.cell (block_lt_of_cell h.c4)).trans h.c4, fun _ hx => (hx.cell (block_lt_of_cell h.c5)).trans h.c5⟩
theorem kind_in {w : World} {s : Sc} {vl vd vt : Value} (h : ScAt w vl vd vt s) (ok : ScOk s) (nm : Bs) (asked : List Nat) (zs : List Int) (hz : zs = asked.map fun n => ((n : Nat) : Int)) (e : Nat) (he : kindE s nm asked = e) (hl : asked.length ≤ 100) (x : World) (hx : Below w.heap.size w x) (va : Value) (hv : gZ zs va x) :
    Calls Tryz.prog 75 #[.agg #[vl, vd, vt], .string ⟨nm.toArray⟩, va] x fun z w' => z = .returned (.int .i64 (e : Nat)) ∧ Below x.heap.size x w' :=
  kind_at x vl vd vt va s ⟨nm.toArray⟩ asked e he (h.below hx) ok (hz ▸ hv) hl
theorem expression_in {W0 w : World} (bel : Below W0.heap.size W0 w) {s : Sc} (ok : ScOk s) {vl vd vt : Value} (hsc : ScAt W0 vl vd vt s) {S : Nat → Prop} (hS : ∀ k, S k → k < W0.heap.size) {g o : Nat} {ex : E} (hok : ex.ok) (hea : ExAt W0 S g o ex) (e : Nat) (he : exprE s ex = e) (x : World) (hx : Below w.heap.size w x) :
    Calls Tryz.prog 135 #[.agg #[vl, vd, vt], .pointer (some ⟨g, o, none⟩)] x fun z w' => z = .returned (.int .i64 (e : Nat)) ∧ Below x.heap.size x w' := by
  have hb : Below W0.heap.size W0 x := Below.trans bel (hx.mono bel.size)
  have := expression_any s ok vl vd vt ex x S g o (fun k hk => Nat.lt_of_lt_of_le (hS k hk) hb.size) hok (hsc.below hb) (hea.below hb)
  rwa [he] at this
theorem inside_in {W0 w : World} {G b n : Nat} {s : Sc} {vl vd vt va : Value} {own : Bs} {ar : Ar} {dn : List Bs} (h : WkAt W0 G b s vl vd vt own ar dn n va w) (ks : List Int) (r : Bool) (hr : inside ar ks = r) (hl : ks.length ≤ 100) (hal : ar.length ≤ 100) (x : World) (hx : Below w.heap.size w x) (vk : Value) (hv : gZ ks vk x) :
    Calls Tryz.prog 137 #[.pointer (some ⟨G, 0, none⟩), vk] x fun z w' => z = .returned (.bool r) ∧ Below x.heap.size x w' := by
  have := inside_any x G va vk ar ks (h.below hx).c4 (h.below hx).arAt hv (by omega) (by omega)
  rwa [hr] at this
theorem insideOf_in {W0 w : World} {G b n : Nat} {s : Sc} {vl vd vt va : Value} {own : Bs} {ar : Ar} {dn : List Bs} (h : WkAt W0 G b s vl vd vt own ar dn n va w) (nm : Bs) (ks : List Int) (r : Bool) (hr : insideOf ar nm ks = r) (hl : ks.length ≤ 100) (hal : ar.length ≤ 100) (x : World) (hx : Below w.heap.size w x) (vk : Value) (hv : gZ ks vk x) :
    Calls Tryz.prog 138 #[.pointer (some ⟨G, 0, none⟩), .string ⟨nm.toArray⟩, vk] x fun z w' => z = .returned (.bool r) ∧ Below x.heap.size x w' := by
  have := insideOf_any x G ⟨nm.toArray⟩ va vk ar ks (h.below hx).c4 (h.below hx).arAt hv (by omega) (by omega)
  rwa [show insideOf ar (⟨nm.toArray⟩ : ByteArray).data.toList ks = r from hr] at this
theorem nest_in (b : Bool) (e : Nat) (he : nest b = e) (x : World) : Calls Tryz.prog 136 #[.bool b] x fun z w' => z = .returned (.int .i64 (e : Nat)) ∧ Below x.heap.size x w' := by
  refine (nesting_any x b).mono ?_
  rintro _ _ ⟨rfl, rfl⟩
  exact ⟨by rw [he], Below.refl _ _⟩

attribute [local go_sem] Gd.Goes Gd.goesUpon Oper.looksAt Op.operands Call.operands Gd.Knows Gd.look Gd.push Gd.eqv Gd.getD_bool

set_option maxHeartbeats 4000000 in
set_option maxRecDepth 100000 in
theorem assignment0_any (W0 w : World) (G b n : Nat) (s : Sc) (ok : ScOk s) (vl vd vt va : Value) (own : Bs) (ar : Ar) (dn : List Bs) (S : Nat → Prop) (gs os : Nat) (op line : Nat) (name arg : Bs) (ex : E) (body els : List Sm)
    (hS : ∀ k, S k → k < W0.heap.size) (hok : ex.ok) (hW : WkAt W0 G b s vl vd vt own ar dn n va w) (hs : SmAt W0 S gs os (.mk op line name arg [] ex body els)) :
    Calls Tryz.prog 134 #[.pointer (some ⟨G, 0, none⟩), .pointer (some ⟨gs, os, none⟩)] w fun x w' => x = .returned (.int .i64 (assignE s name [] ex : Nat)) ∧ Below w.heap.size w w' := by
  obtain ⟨p0, p1, p2, _, _, _⟩ := hW.f
  obtain ⟨_, _, s2, _⟩ := hs.f hW.bel
  obtain ⟨ek, hek⟩ : ∃ e, kindE s name [1, 2] = e := ⟨_, rfl⟩
  obtain ⟨ee, hee⟩ : ∃ e, exprE s ex = e := ⟨_, rfl⟩
  obtain ⟨er, her⟩ : ∃ e, firstE [ek, ee] = e := ⟨_, rfl⟩
  have HA := Lib.hid (show assignE s name [] ex = er by simp only [assignE]; rw [hek, hee, her])
  have CK := Lib.hid (kind_in hW.scAt ok name [1, 2] [1, 2] rfl ek hek (by simp))
  have CX := Lib.hid (expression_in hW.bel ok hW.sc hS hok hs.ex ee hee)
  have CF := Lib.hid (fun x (_ : Below w.heap.size w x) v hv => firstE_at x v [ek, ee] er her (by simp) hv)
  obtain ⟨cs, ⟨v4, e0, e1, e2, e3, a9, c9, a10, c10, rfl, ⟨ai, ci, rfl, _⟩, _, _, _⟩, hcs⟩ := hs
  have s4 := (hW.bel.cell (block_lt_of_cell (hcs 4 _ rfl))).trans (hcs 4 _ rfl)
  simp only [List.length_nil] at s4
  clear hcs hek hee her hW
  go_enter Tryz.func134, Tryz.ntmps134
  go_wp2_with fail
  refine Gd.wp_region_below 61 (by kernel_rfl) rfl (by kernel_rfl) ?_
  repeat (first
    | (apply Gd.step_eqv
       · intro a x hC hk
         try simp [go_sem] at hk
         simp [go_sem, hk, p0, p1, p2, s2, hC]
         first
           | exact ⟨rfl, Below.refl _ _⟩
           | (go_at_call 75; ((with_reducible refine Gd.calls_eqv (CK.out x hC _ ?_)); (first | exact hk | exact hk.1 | exact hk.2 | exact hk.2.1 | exact hk.2.2 | exact hk.2.2.1 | exact hk.2.2.2)))
           | (go_at_call 135; ((with_reducible exact Gd.calls_eqv (CX.out x hC))))
           | (go_at_call 105; ((with_reducible refine Gd.calls_eqv (CF.out x hC _ ?_)); (first | exact hk | exact hk.1 | exact hk.2 | exact hk.2.1 | exact hk.2.2 | exact hk.2.2.1 | exact hk.2.2.2))))
    | (apply Gd.step_cond (gZ [1, 2]) (gZ_stable _)
       · intro a x hC hk
         try simp [go_sem] at hk
         simp [go_sem, hk]
         exact ⟨gZ_two _ _ _ _, alloc_below _ _⟩)
    | (apply Gd.step_cond (gE [ek, ee]) (gE_stable _)
       · intro a x hC hk
         try simp [go_sem] at hk
         simp [go_sem, hk]
         exact ⟨gE_two _ _ _ _, alloc_below _ _⟩))
  intro x hC
  simp only [Gd.push, List.reverse_cons, List.reverse_nil, List.nil_append, List.cons_append, Gd.Fin, Gd.eqv, forall_eq]
  intro v19 _ v29 _
  simp [Act.put]
  go_wp2_with fail
  go_ret
  exact ⟨by rw [HA.out]; rfl, hC⟩

set_option maxHeartbeats 4000000 in
set_option maxRecDepth 100000 in
theorem assignment1_any (W0 w : World) (G b n : Nat) (s : Sc) (ok : ScOk s) (vl vd vt va : Value) (own : Bs) (ar : Ar) (dn : List Bs) (S : Nat → Prop) (gs os : Nat) (op line : Nat) (name arg : Bs) (i ex : E) (body els : List Sm)
    (hS : ∀ k, S k → k < W0.heap.size) (hok : ex.ok) (hoi : i.ok) (hW : WkAt W0 G b s vl vd vt own ar dn n va w) (hs : SmAt W0 S gs os (.mk op line name arg [i] ex body els)) :
    Calls Tryz.prog 134 #[.pointer (some ⟨G, 0, none⟩), .pointer (some ⟨gs, os, none⟩)] w fun x w' => x = .returned (.int .i64 (assignE s name [i] ex : Nat)) ∧ Below w.heap.size w w' := by
  obtain ⟨p0, p1, p2, _, _, _⟩ := hW.f
  obtain ⟨_, _, s2, _⟩ := hs.f hW.bel
  obtain ⟨ek, hek⟩ : ∃ e, kindE s name [3] = e := ⟨_, rfl⟩
  obtain ⟨ei, hei⟩ : ∃ e, exprE s i = e := ⟨_, rfl⟩
  obtain ⟨ee, hee⟩ : ∃ e, exprE s ex = e := ⟨_, rfl⟩
  obtain ⟨er, her⟩ : ∃ e, firstE [ek, ei, ee] = e := ⟨_, rfl⟩
  have HA := Lib.hid (show assignE s name [i] ex = er by simp only [assignE]; rw [hek, hei, hee, her])
  have CK := Lib.hid (kind_in hW.scAt ok name [3] [3] rfl ek hek (by simp))
  have CX := Lib.hid (expression_in hW.bel ok hW.sc hS hok hs.ex ee hee)
  have CF := Lib.hid (fun x (_ : Below w.heap.size w x) v hv => firstE_at x v [ek, ei, ee] er her (by simp) hv)
  obtain ⟨cs, ⟨v4, e0, e1, e2, e3, a9, c9, a10, c10, rfl, ⟨ai, ci, rfl, hix⟩, _, _, _⟩, hcs⟩ := hs
  obtain ⟨gi, rfl, _, hri⟩ := hix.resolve_left (by simp)
  have hia := rdL_at [i] 0 hri 0 (by simp)
  simp only [Nat.zero_add, Nat.zero_mul, List.getElem_cons_zero] at hia
  have CI := Lib.hid (expression_in hW.bel ok hW.sc hS hoi hia ei hei)
  have s4 : ∀ x, Below w.heap.size w x → x.cell? ⟨gs, os + 4, none⟩ = some (.slice (some ⟨gi, 0, none⟩) 1 ci) := fun x hx => ((Below.trans hW.bel (hx.mono hW.bel.size)).cell (block_lt_of_cell (hcs 4 _ rfl))).trans (hcs 4 _ rfl)
  have q4 := s4 w (Below.refl _ _)
  clear hcs hek hei hee her hW hix hri hia
  go_enter Tryz.func134, Tryz.ntmps134
  go_wp2_with fail
  refine Gd.wp_region_below 61 (by kernel_rfl) rfl (by kernel_rfl) ?_
  repeat (first
    | (apply Gd.step_eqv
       · intro a x hC hk
         try simp [go_sem] at hk
         simp [go_sem, hk, p0, p1, p2, s2, s4, hC]
         first
           | exact ⟨rfl, Below.refl _ _⟩
           | (go_at_call 75; ((with_reducible refine Gd.calls_eqv (CK.out x hC _ ?_)); (first | exact hk | exact hk.1 | exact hk.2 | exact hk.2.1 | exact hk.2.2 | exact hk.2.2.1 | exact hk.2.2.2)))
           | (go_at_call 135; ((with_reducible exact Gd.calls_eqv (CX.out x hC))))
           | (go_at_call 135; ((with_reducible exact Gd.calls_eqv (CI.out x hC))))
           | (go_at_call 105; ((with_reducible refine Gd.calls_eqv (CF.out x hC _ ?_)); (first | exact hk | exact hk.1 | exact hk.2 | exact hk.2.1 | exact hk.2.2 | exact hk.2.2.1 | exact hk.2.2.2))))
    | (apply Gd.step_cond (gZ [3]) (gZ_stable _)
       · intro a x hC hk
         try simp [go_sem] at hk
         simp [go_sem, hk]
         exact ⟨gZ_one _ _ _, alloc_below _ _⟩)
    | (apply Gd.step_cond (gE [ek, ei, ee]) (gE_stable _)
       · intro a x hC hk
         try simp [go_sem] at hk
         simp [go_sem, hk]
         exact ⟨gE_three _ _ _ _ _, alloc_below _ _⟩))
  intro x hC
  simp only [Gd.push, List.reverse_cons, List.reverse_nil, List.nil_append, List.cons_append, Gd.Fin, Gd.eqv, forall_eq]
  intro v39 _ v59 _
  simp [Act.put]
  go_wp2_with fail
  go_ret
  exact ⟨by rw [HA.out]; rfl, hC⟩
end Ck
end Go.Proofs.YtncflfadgcaldaaGreatDoor

namespace Go.Proofs.YtncflfadgcaldaaGreatDoor
open Go.RowKit
open Par Tok

namespace Ck
theorem kindE_zero {s : Sc} {nm : Bs} {asked : List Nat} (h : kindE s nm asked = 0) : mean s nm ∈ asked := by
  unfold kindE errIf firstE firstE firstE at h
  by_cases h1 : (mean s nm == 0) = true
  · rw [if_pos h1] at h
    simp at h
  · rw [if_neg h1] at h
    by_cases h2 : asked.contains (mean s nm) = true
    · exact List.contains_iff_mem.1 h2
    · rw [Bool.eq_false_iff.2 h2] at h
      simp at h
/-- A name that stands for a condition: its declaration. -/
theorem cond_of {s : Sc} {nm : Bs} (h : mean s nm = 6) : ∃ j, ∃ hj : j < s.decls.length, idxD s.decls nm = (j : Int) ∧ onOf s nm = s.decls[j].on := by
  unfold mean at h
  split at h
  · simp at h
  · rcases find_idx (fun d => d.name == nm) s.decls 0 with ⟨_, hf⟩ | ⟨j, hj, hi, hf⟩
    · rw [hf] at h
      simp only at h
      split at h <;> simp at h
    · rw [Nat.zero_add] at hi
      exact ⟨j, hj, hi, by unfold onOf; rw [hf]⟩
theorem declarationOf_in {w : World} {s : Sc} {vl vd vt : Value} (h : ScAt w vl vd vt s) (ok : ScOk s) (nm : Bs) (r : Int) (hr : idxD s.decls nm = r) (x : World) (hx : Below w.heap.size w x) :
    Calls Tryz.prog 44 #[vd, .string ⟨nm.toArray⟩] x fun z w' => z = .returned (.int .i64 r) ∧ Below x.heap.size x w' :=
  declarationOf_at x vd s.decls ⟨nm.toArray⟩ r hr (h.below hx).d ok.d
attribute [local go_sem] Gd.Goes Gd.goesUpon Oper.looksAt Op.operands Call.operands Gd.Knows Gd.look Gd.push Gd.eqv Gd.getD_bool

set_option maxHeartbeats 4000000 in
set_option maxRecDepth 100000 in
theorem signal_any (W0 w : World) (G b n : Nat) (s : Sc) (ok : ScOk s) (vl vd vt va : Value) (own : Bs) (ar : Ar) (hal : ar.length ≤ 100) (dn : List Bs) (S : Nat → Prop) (gs os : Nat) (op line : Nat) (name arg : Bs) (ix : List E) (ex : E) (body els : List Sm)
    (hW : WkAt W0 G b s vl vd vt own ar dn n va w) (hs : SmAt W0 S gs os (.mk op line name arg ix ex body els)) :
    Calls Tryz.prog 139 #[.pointer (some ⟨G, 0, none⟩), .pointer (some ⟨gs, os, none⟩)] w fun x w' => x = .returned (.int .i64 (signalE s ar op name : Nat)) ∧ Below w.heap.size w w' := by
  obtain ⟨p0, p1, p2, _, _, _⟩ := hW.f
  obtain ⟨_, _, s2, _⟩ := hs.f hW.bel
  obtain ⟨ek, hek⟩ : ∃ e, kindE s name [6] = e := ⟨_, rfl⟩
  have CK := Lib.hid (kind_in hW.scAt ok name [6] [6] rfl ek hek (by simp))
  have HW := Lib.hid hW
  have HSm := Lib.hid hs
  by_cases h0 : ek = 0
  · subst h0
    obtain ⟨j, hj, hi, hon⟩ := cond_of (List.mem_singleton.1 (kindE_zero hek))
    obtain ⟨b1, hb1⟩ : ∃ r, inside ar [7] = r := ⟨_, rfl⟩
    obtain ⟨b2, hb2⟩ : ∃ r, insideOf ar s.decls[j].on [4] = r := ⟨_, rfl⟩
    obtain ⟨b3, hb3⟩ : ∃ r, inside ar [8] = r := ⟨_, rfl⟩
    have HA := Lib.hid (show signalE s ar op name = nest (b1 || !b2 || ((op : Int) == 9 && b3)) by simp only [signalE]; rw [if_pos hek, hb1, hon, hb2, hb3])
    obtain ⟨A, cap, hvd, hcp, hcs⟩ := hW.scAt.d
    obtain ⟨g, hA, hg, -, -, -, -, -, q5⟩ := hcs j hj
    subst hA
    have HCS := Lib.hid hcs
    obtain ⟨m, hm⟩ : ∃ m, m = s.decls.length := ⟨_, rfl⟩
    rw [← hm] at hvd
    have hjm : j < m := by rw [hm]; exact hj
    have hjmi : (j : Int) < (m : Int) := by omega
    have hji : (0 : Int) ≤ (j : Int) := by omega
    obtain ⟨on, hone⟩ : ∃ o, o = s.decls[j].on := ⟨_, rfl⟩
    rw [← hone] at q5 hb2
    have Q5 := Lib.hid q5
    have HGL := Lib.hid hg
    have HI := Lib.hid hi
    have H1 := Lib.hid hb1
    have H2 := Lib.hid hb2
    have H3 := Lib.hid hb3
    have HVD := Lib.hid hvd
    clear hek hW hs hcs hcp hm hone q5 hi hon hb1 hb2 hb3 hvd hg hj
    go_enter Tryz.func139, Tryz.ntmps139
    go_wp2_with fail
    refine Gd.wp_region_below 61 (by kernel_rfl) rfl (by kernel_rfl) ?_
    repeat (first
      | (apply Gd.step_eqv
         · intro a x hC hk
           try simp [go_sem] at hk
           simp [go_sem, hk, p0, p1, p2, s2, hC]
           first
             | exact ⟨rfl, Below.refl _ _⟩
             | (go_at_call 75; ((with_reducible refine Gd.calls_eqv (CK.out x hC _ ?_)); (first | exact hk | exact hk.1 | exact hk.2 | exact hk.2.1 | exact hk.2.2 | exact hk.2.2.1 | exact hk.2.2.2))))
      | (apply Gd.step_cond (gZ [6]) (gZ_stable _)
         · intro a x hC hk
           try simp [go_sem] at hk
           simp [go_sem]
           exact ⟨gZ_one _ _ _, alloc_below _ _⟩))
    intro x hC
    simp only [Gd.push, List.reverse_cons, List.reverse_nil, List.nil_append, List.cons_append, Gd.Fin, Gd.eqv, forall_eq]
    intro v15 _
    simp [Act.put]
    have HB := Lib.hid hC
    have HW1 := Lib.hid (HW.out.below hC)
    obtain ⟨r0, r1, r2, _, _, _⟩ := HW1.out.f
    obtain ⟨t0, _, t2, _⟩ := HSm.out.f HW1.out.bel
    have CD := Lib.hid (declarationOf_in HW1.out.scAt ok name j HI.out)
    have d5 : ∀ y, Below x.heap.size x y → y.cell? ⟨g, j * 6 + 5, none⟩ = some (.string ⟨on.toArray⟩) := fun y hy => ((Below.trans HB.out (hy.mono HB.out.size)).cell (p := ⟨g, j * 6 + 5, none⟩) HGL.out).trans Q5.out
    have hvd := HVD.out
    rw [hvd] at r1 CD
    clear p0 p1 p2 s2 hvd
    go_wp2_with fail
    refine Gd.wp_region_below 61 (by kernel_rfl) rfl (by kernel_rfl) ?_
    repeat (first
      | (apply Gd.step_eqv
         · intro a y hC hk
           try simp [go_sem] at hk
           simp [go_sem, hk, hjmi, hji, r1, t2, d5, hC]
           first
             | exact ⟨rfl, Below.refl _ _⟩
             | (go_at_call 44; ((with_reducible exact Gd.calls_eqv (CD.out y hC))))))
    intro y hC
    simp only [Gd.push, List.reverse_cons, List.reverse_nil, List.nil_append, List.cons_append, Gd.Fin, Gd.eqv, forall_eq]
    simp [Act.put]
    have hB : Below w.heap.size w y := Below.trans HB.out (hC.mono HB.out.size)
    have u0 := t0 y hC
    have C7 := Lib.hid (inside_in HW.out [7] b1 H1.out (by simp) hal)
    have C4 := Lib.hid (insideOf_in HW.out on [4] b2 H2.out (by simp) hal)
    have C8 := Lib.hid (inside_in HW.out [8] b3 H3.out (by simp) hal)
    clear r0 r1 r2 t2 d5 t0 CD CK u0
    have t0' := (HSm.out.f HW.out.bel).s0
    cases b1
    case true =>
      go_wp2_with (first
        | (go_at_call 137; (with_reducible refine (C8.out _ ?_ _ (gZ_one _ _ _)).mono ?_); exact hB4.alloc hB4.size _; rintro e w6 ⟨rfl, hb6⟩; have hB6 : Below w.heap.size w w6 := Below.trans (hB4.alloc hB4.size _) (hb6.mono (Nat.le_trans hB4.size (alloc_below _ _).size)))
        | (go_at_call 138; (with_reducible refine (C4.out _ ?_ _ (gZ_one _ _ _)).mono ?_); exact hB2.alloc hB2.size _; rintro e w4 ⟨rfl, hb4⟩; have hB4 : Below w.heap.size w w4 := Below.trans (hB2.alloc hB2.size _) (hb4.mono (Nat.le_trans hB2.size (alloc_below _ _).size)); have u4 := t0' w4 hB4)
        | (go_at_call 137; (with_reducible refine (C7.out _ ?_ _ (gZ_one _ _ _)).mono ?_); exact hB.alloc hB.size _; rintro e w2 ⟨rfl, hb2⟩; have hB2 : Below w.heap.size w w2 := Below.trans (hB.alloc hB.size _) (hb2.mono (Nat.le_trans hB.size (alloc_below _ _).size)); have u2 := t0' w2 hB2)
        | (go_at_call 136; refine (nesting_any _ _).mono ?_; rintro e w8 ⟨rfl, rfl⟩))
      go_ret
      exact ⟨by rw [HA.out]; rfl, hB2⟩
    case false =>
      cases b2
      case false =>
        go_wp2_with (first
          | (go_at_call 137; (with_reducible refine (C8.out _ ?_ _ (gZ_one _ _ _)).mono ?_); exact hB4.alloc hB4.size _; rintro e w6 ⟨rfl, hb6⟩; have hB6 : Below w.heap.size w w6 := Below.trans (hB4.alloc hB4.size _) (hb6.mono (Nat.le_trans hB4.size (alloc_below _ _).size)))
          | (go_at_call 138; (with_reducible refine (C4.out _ ?_ _ (gZ_one _ _ _)).mono ?_); exact hB2.alloc hB2.size _; rintro e w4 ⟨rfl, hb4⟩; have hB4 : Below w.heap.size w w4 := Below.trans (hB2.alloc hB2.size _) (hb4.mono (Nat.le_trans hB2.size (alloc_below _ _).size)); have u4 := t0' w4 hB4)
          | (go_at_call 137; (with_reducible refine (C7.out _ ?_ _ (gZ_one _ _ _)).mono ?_); exact hB.alloc hB.size _; rintro e w2 ⟨rfl, hb2⟩; have hB2 : Below w.heap.size w w2 := Below.trans (hB.alloc hB.size _) (hb2.mono (Nat.le_trans hB.size (alloc_below _ _).size)); have u2 := t0' w2 hB2)
          | (go_at_call 136; refine (nesting_any _ _).mono ?_; rintro e w8 ⟨rfl, rfl⟩))
        go_ret
        exact ⟨by rw [HA.out]; rfl, hB4⟩
      case true =>
        by_cases h9 : op = 9
        · subst h9
          cases b3
          all_goals
            go_wp2_with (first
              | (go_at_call 137; (with_reducible refine (C8.out _ ?_ _ (gZ_one _ _ _)).mono ?_); exact hB4.alloc hB4.size _; rintro e w6 ⟨rfl, hb6⟩; have hB6 : Below w.heap.size w w6 := Below.trans (hB4.alloc hB4.size _) (hb6.mono (Nat.le_trans hB4.size (alloc_below _ _).size)))
              | (go_at_call 138; (with_reducible refine (C4.out _ ?_ _ (gZ_one _ _ _)).mono ?_); exact hB2.alloc hB2.size _; rintro e w4 ⟨rfl, hb4⟩; have hB4 : Below w.heap.size w w4 := Below.trans (hB2.alloc hB2.size _) (hb4.mono (Nat.le_trans hB2.size (alloc_below _ _).size)); have u4 := t0' w4 hB4)
              | (go_at_call 137; (with_reducible refine (C7.out _ ?_ _ (gZ_one _ _ _)).mono ?_); exact hB.alloc hB.size _; rintro e w2 ⟨rfl, hb2⟩; have hB2 : Below w.heap.size w w2 := Below.trans (hB.alloc hB.size _) (hb2.mono (Nat.le_trans hB.size (alloc_below _ _).size)); have u2 := t0' w2 hB2)
              | (go_at_call 136; refine (nesting_any _ _).mono ?_; rintro e w8 ⟨rfl, rfl⟩))
            go_ret
            exact ⟨by rw [HA.out]; rfl, hB6⟩
        · have h9i : ((op : Int) == 9) = false := beq_eq_false_iff_ne.2 (by omega)
          have h9j : ¬ (op : Int) = 9 := by omega
          go_wp2_with (first
            | (go_at_call 137; (with_reducible refine (C8.out _ ?_ _ (gZ_one _ _ _)).mono ?_); exact hB4.alloc hB4.size _; rintro e w6 ⟨rfl, hb6⟩; have hB6 : Below w.heap.size w w6 := Below.trans (hB4.alloc hB4.size _) (hb6.mono (Nat.le_trans hB4.size (alloc_below _ _).size)))
            | (go_at_call 138; (with_reducible refine (C4.out _ ?_ _ (gZ_one _ _ _)).mono ?_); exact hB2.alloc hB2.size _; rintro e w4 ⟨rfl, hb4⟩; have hB4 : Below w.heap.size w w4 := Below.trans (hB2.alloc hB2.size _) (hb4.mono (Nat.le_trans hB2.size (alloc_below _ _).size)); have u4 := t0' w4 hB4)
            | (go_at_call 137; (with_reducible refine (C7.out _ ?_ _ (gZ_one _ _ _)).mono ?_); exact hB.alloc hB.size _; rintro e w2 ⟨rfl, hb2⟩; have hB2 : Below w.heap.size w w2 := Below.trans (hB.alloc hB.size _) (hb2.mono (Nat.le_trans hB.size (alloc_below _ _).size)); have u2 := t0' w2 hB2)
            | (go_at_call 136; refine (nesting_any _ _).mono ?_; rintro e w8 ⟨rfl, rfl⟩))
          go_ret
          exact ⟨by rw [HA.out, h9i]; rfl, hB4⟩
  · have HA := Lib.hid (show signalE s ar op name = ek by simp only [signalE]; rw [hek, if_neg h0])
    have h0i : ¬ ((ek : Nat) : Int) = 0 := by omega
    clear hek hW hs h0
    go_enter Tryz.func139, Tryz.ntmps139
    go_wp2_with fail
    refine Gd.wp_region_below 61 (by kernel_rfl) rfl (by kernel_rfl) ?_
    repeat (first
      | (apply Gd.step_eqv
         · intro a x hC hk
           try simp [go_sem] at hk
           simp [go_sem, hk, p0, p1, p2, s2, hC]
           first
             | exact ⟨rfl, Below.refl _ _⟩
             | (go_at_call 75; ((with_reducible refine Gd.calls_eqv (CK.out x hC _ ?_)); (first | exact hk | exact hk.1 | exact hk.2 | exact hk.2.1 | exact hk.2.2 | exact hk.2.2.1 | exact hk.2.2.2))))
      | (apply Gd.step_cond (gZ [6]) (gZ_stable _)
         · intro a x hC hk
           try simp [go_sem] at hk
           simp [go_sem]
           exact ⟨gZ_one _ _ _, alloc_below _ _⟩))
    intro x hC
    simp only [Gd.push, List.reverse_cons, List.reverse_nil, List.nil_append, List.cons_append, Gd.Fin, Gd.eqv, forall_eq]
    intro v15 _
    simp [Act.put]
    go_wp2_with fail
    go_ret
    exact ⟨by rw [HA.out]; rfl, hC⟩
end Ck
end Go.Proofs.YtncflfadgcaldaaGreatDoor

namespace Go.Proofs.YtncflfadgcaldaaGreatDoor
open Go.RowKit
open Par Tok

namespace Ck
/-- The worlds that extend one world but for the map in block b, in which a name has been marked or not. -/
def CM (w : World) (b n : Nat) (dn : List Bs) (nm : Bs) : Bool → World → Prop := fun s x => Kept b w x ∧ DoneAt x b (if s = true then n + 1 else n) (if s = true then nm :: dn else dn)
def EM (b : Nat) : World → World → Prop := fun x y => Kept b x y ∧ b < x.heap.size
section
variable {P : Program} {ops : Array Oper} {w : World} {b n : Nat} {dn : List Bs} {nm : Bs} {a0 : Act} {m : Option Nat} {Q : Exit → Act → World → Prop} {kn : List (Tmp × Gd.Cond)} {k : Nat} {o : Oper} {r : List Oper}
theorem CM.next {s : Bool} {x y : World} (h : CM w b n dn nm s x) (hb : Below x.heap.size x y) : CM w b n dn nm s y ∧ EM b x y := ⟨⟨h.1.trans (Kept.of_below hb), h.2.below hb⟩, Kept.of_below hb, h.2.lt⟩
theorem step_eqvM (hm : (m == some k) = false) (V : Value) (h1 : ∀ a x, Kept b w x → Gd.Knows a0 kn a x (o.looksAt ops) → Gd.Goes P ops o a x (fun v y => v = V ∧ Below x.heap.size x y))
    (h2 : Gd.Steps P ops (CM w b n dn nm) (EM b) a0 m Q (Gd.push o.dst (Gd.eqv V) kn) (k + 1) r) : Gd.Steps P ops (CM w b n dn nm) (EM b) a0 m Q kn k (o :: r) :=
  ⟨Gd.eqv V, fun _ _ _ _ h => h, fun s a x hC _ _ hk => Gd.goes_mono (h1 a x hC.1 hk) fun v y ⟨hv, hy⟩ => by
    rw [hm, Bool.or_false]
    exact ⟨(hC.next hy).1, (hC.next hy).2, hv⟩, h2⟩
theorem step_condM (hm : (m == some k) = false) (g : Gd.Cond) (hst : ∀ v x y, EM b x y → g v x → g v y) (h1 : ∀ a x, Kept b w x → b < x.heap.size → Gd.Knows a0 kn a x (o.looksAt ops) → Gd.Goes P ops o a x (fun v y => g v y ∧ Below x.heap.size x y))
    (h2 : Gd.Steps P ops (CM w b n dn nm) (EM b) a0 m Q (Gd.push o.dst g kn) (k + 1) r) : Gd.Steps P ops (CM w b n dn nm) (EM b) a0 m Q kn k (o :: r) :=
  ⟨g, hst, fun s a x hC _ _ hk => Gd.goes_mono (h1 a x hC.1 hC.2.lt hk) fun v y ⟨hv, hy⟩ => by
    rw [hm, Bool.or_false]
    exact ⟨(hC.next hy).1, (hC.next hy).2, hv⟩, h2⟩
theorem step_markM (hm : (m == some k) = true) (V : Value) (h1 : ∀ a x, Kept b w x → DoneAt x b n dn → Gd.Knows a0 kn a x (o.looksAt ops) → Gd.Goes P ops o a x (fun v y => v = V ∧ Kept b x y ∧ DoneAt y b (n + 1) (nm :: dn)))
    (h2 : Gd.Steps P ops (CM w b n dn nm) (EM b) a0 m Q (Gd.push o.dst (Gd.eqv V) kn) (k + 1) r) : Gd.Steps P ops (CM w b n dn nm) (EM b) a0 m Q kn k (o :: r) :=
  ⟨Gd.eqv V, fun _ _ _ _ h => h, fun s a x hC hs _ hk => by
    obtain rfl := hs (by simpa using hm)
    refine Gd.goes_mono (h1 a x hC.1 hC.2 hk) fun v y ⟨hv, hy, hd⟩ => ?_
    rw [hm, Bool.or_true]
    exact ⟨⟨hC.1.trans hy, hd⟩, ⟨hy, hC.2.lt⟩, hv⟩, h2⟩
theorem wp_region_mark {id : Nat} {l : List Oper} (k0 nn : Nat) (hd : DoneAt w b n dn)
    (hm : P.follows .mixedOrders = true) (hn : a0.tmps.size = nn) (hB : (Gd.regB .any l.toArray nn && decide (k0 < l.length)) = true)
    (h : Gd.Steps P l.toArray (CM w b n dn nm) (EM b) a0 (some k0) Q [] 0 l) : (Code.region id l.toArray true).wp P Q a0 w :=
  Gd.wp_region_steps (CM w b n dn nm) (EM b) (some k0) nn hm hn hB ⟨Kept.of_below (Below.refl _ _).drew, hd.below (Below.refl _ _).drew⟩ h
end
/-- The slices do not lie in block b. -/
def hZ (b : Nat) (zs : List Int) : Gd.Cond := fun v x => ∃ g cap, v = .slice (some ⟨g, 0, none⟩) zs.length cap ∧ g ≠ b ∧ g < x.heap.size ∧ ∀ k (h : k < zs.length), x.cell? ⟨g, k, none⟩ = some (.int .i64 zs[k])
theorem hZ_stable (b : Nat) (zs : List Int) : ∀ v x y, EM b x y → hZ b zs v x → hZ b zs v y := by
  rintro v x y ⟨hk, _⟩ ⟨g, cap, hv, hne, hg, hc⟩
  exact ⟨g, cap, hv, hne, Nat.lt_of_lt_of_le hg hk.size, fun k h => (hk.cell hg hne).trans (hc k h)⟩
theorem hZ_zs {b : Nat} {zs : List Int} {v : Value} {x : World} (h : hZ b zs v x) : gZ zs v x := by
  obtain ⟨g, cap, rfl, _, hg, hc⟩ := h
  exact ⟨_, cap, rfl, fun k hk => ⟨g, rfl, hg, hc k hk⟩⟩
theorem hZ_one (b : Nat) (x : World) (hb : b < x.heap.size) (p : Int) (t : TypeId) : hZ b [p] (.slice (some ⟨x.heap.size, 0, none⟩) 1 1) (x.alloc (.cells #[.int .i64 p] t)) := by
  refine ⟨_, 1, rfl, by omega, by simp, fun k h => ?_⟩
  match k, h with
  | 0, _ => simp
def hE (b : Nat) (zs : List Nat) : Gd.Cond := fun v x => ∃ g, v = .slice (some ⟨g, 0, none⟩) zs.length zs.length ∧ g ≠ b ∧ g < x.heap.size ∧ ∀ k (h : k < zs.length), x.cell? ⟨g, k, none⟩ = some (.int .i64 (zs[k] : Nat))
theorem hE_stable (b : Nat) (zs : List Nat) : ∀ v x y, EM b x y → hE b zs v x → hE b zs v y := by
  rintro v x y ⟨hk, _⟩ ⟨g, hv, hne, hg, hc⟩
  exact ⟨g, hv, hne, Nat.lt_of_lt_of_le hg hk.size, fun k h => (hk.cell hg hne).trans (hc k h)⟩
theorem hE_es {b : Nat} {zs : List Nat} {v : Value} {x : World} (h : hE b zs v x) : gE zs v x := by
  obtain ⟨g, rfl, _, _, hc⟩ := h
  exact ⟨g, rfl, hc⟩
theorem hE_two (b : Nat) (x : World) (hb : b < x.heap.size) (p q : Nat) (t : TypeId) : hE b [p, q] (.slice (some ⟨x.heap.size, 0, none⟩) 2 2) (x.alloc (.cells #[.int .i64 p, .int .i64 q] t)) := by
  refine ⟨_, rfl, by omega, by simp, fun k h => ?_⟩
  match k, h with
  | 0, _ => simp
  | 1, _ => simp
theorem errorIf_in (b : Bool) (e r : Nat) (hr : errIf b e = r) (x : World) : Calls Tryz.prog 43 #[.bool b, .int .i64 e] x fun z w' => z = .returned (.int .i64 (r : Nat)) ∧ Below x.heap.size x w' := by
  refine (errorIf_any x b e).mono ?_
  rintro _ _ ⟨rfl, rfl⟩
  exact ⟨by rw [hr], Below.refl _ _⟩
/-- What the walk reads in the worlds that keep all but the map. -/
theorem keptK {w : World} {b : Nat} {g o : Nat} {u : Value} (h : w.cell? ⟨g, o, none⟩ = some u) (hne : g ≠ b) : ∀ x, Kept b w x → x.cell? ⟨g, o, none⟩ = some u := fun _ hx => (hx.cell (block_lt_of_cell h) hne).trans h
theorem head0_get (s : Sc) (h : 0 < s.threads.length) : head0 s = s.threads[0].name := by
  obtain ⟨l, d, t⟩ := s
  cases t with
  | nil => exact absurd h (by simp)
  | cons a r => rfl
theorem ar_of_row {W0 y : World} {va : Value} {ar : Ar} (hb : Below W0.heap.size W0 y) (h : ∃ L : List (Nat × Nat × Int × Bs), ar = L.map (fun x => x.2.2) ∧ y.ownsRow W0.heap.size 146 1 va L.length (L.map fun x => .pointer (some ⟨x.1, x.2.1, none⟩)) ∧
    ∀ x ∈ L, W0.cell? ⟨x.1, x.2.1, none⟩ = some (.int .i64 x.2.2.1) ∧ W0.cell? ⟨x.1, x.2.1 + 2, none⟩ = some (.string ⟨x.2.2.2.toArray⟩)) : ArAt y va ar := by
  obtain ⟨L, rfl, h2, h3⟩ := h
  have hrow := h2
  rcases h2.2 with ⟨rfl, h0⟩ | ⟨g, cap, cur, rfl, hg, hgg, hc, rest⟩
  · have hL : L = [] := List.eq_nil_of_length_eq_zero h0
    subst hL
    exact ⟨none, 0, rfl, fun k hk => absurd hk (by simp)⟩
  · refine ⟨some ⟨g, 0, none⟩, cap, by rw [List.length_map], fun k hk => ?_⟩
    have hk2 : k < L.length := by rw [List.length_map] at hk; exact hk
    have hcell := hrow.cellAt k (by omega)
    obtain ⟨q1, q2⟩ := h3 _ (List.getElem_mem hk2)
    have hgl := (Array.getElem?_eq_some_iff.1 hgg).1
    refine ⟨g, L[k].1, L[k].2.1, rfl, hgl, ?_, ?_, ?_⟩
    · rw [hcell]
      simp [hk2]
    · rw [List.getElem_map]
      exact (hb.cell (p := ⟨L[k].1, L[k].2.1, none⟩) (block_lt_of_cell q1)).trans q1
    · rw [List.getElem_map]
      exact (hb.cell (p := ⟨L[k].1, L[k].2.1 + 2, none⟩) (block_lt_of_cell q2)).trans q2
theorem insideK {W0 x : World} {G b n : Nat} {s : Sc} {vl vd vt va : Value} {own : Bs} {ar : Ar} {dn : List Bs} (h : WkAt W0 G b s vl vd vt own ar dn n va x) (ks : List Int) (r : Bool) (hr : inside ar ks = r) (hl : ks.length ≤ 100) (hal : ar.length ≤ 100) (y : World) (hy : Kept b x y) (vk : Value) (hv : gZ ks vk y) :
    Calls Tryz.prog 137 #[.pointer (some ⟨G, 0, none⟩), vk] y fun z w' => z = .returned (.bool r) ∧ Below y.heap.size y w' := by
  obtain ⟨L, h1, h2, h3⟩ := h.row
  have := inside_any y G va vk ar ks (keptK h.c4 h.hne y hy) (ar_of_row (Kept.below h.bel hy h.hb h.bel.size) ⟨L, h1, ownsRow_of_blocks h2 (fun g he hg => hy.block g hg (fun e => h.gb (by rw [he, e]))), h3⟩) hv (by omega) (by omega)
  rwa [hr] at this
theorem SmAt.lt {W0 : World} {S : Nat → Prop} {gs os : Nat} {x : Sm} (h : SmAt W0 S gs os x) : gs < W0.heap.size := by
  obtain ⟨op, line, name, arg, ix, ex, body, els⟩ := x
  obtain ⟨cs, ⟨v4, e0, e1, e2, e3, a9, c9, a10, c10, rfl, _, _, _, _⟩, hcs⟩ := h
  exact block_lt_of_cell (hcs 0 _ rfl)
theorem calls_mark {f : FuncId} {args : Array Value} {x : World} {V : Value} {R : World → Prop} (h : Calls Tryz.prog f args x fun e w' => e = .returned V ∧ R w') : Calls Tryz.prog f args x fun e w' => ∃ v, e = .returned v ∧ v = V ∧ R w' :=
  h.mono fun _ _ ⟨he, hb⟩ => ⟨_, he, rfl, hb⟩
attribute [local go_sem] Gd.Goes Gd.goesUpon Oper.looksAt Op.operands Call.operands Gd.Knows Gd.look Gd.push Gd.eqv Gd.getD_bool

set_option maxHeartbeats 4000000 in
set_option maxRecDepth 100000 in
theorem setting_any (W0 w : World) (G b n : Nat) (s : Sc) (ok : ScOk s) (vl vd vt va : Value) (own : Bs) (ar : Ar) (hal : ar.length ≤ 100) (dn : List Bs) (S : Nat → Prop) (gs os : Nat) (op line : Nat) (name arg : Bs) (ix : List E) (ex : E) (body els : List Sm)
    (hS : ∀ k, S k → k < W0.heap.size) (hok : ex.ok) (hn : n ≤ 1000000) (hnm : name.length ≤ maxLen) (hW : WkAt W0 G b s vl vd vt own ar dn n va w) (hs : SmAt W0 S gs os (.mk op line name arg ix ex body els)) :
    Calls Tryz.prog 141 #[.pointer (some ⟨G, 0, none⟩), .pointer (some ⟨gs, os, none⟩)] w fun x w' => x = .returned (.int .i64 ((settingE s ar dn name ex).1 : Nat)) ∧ Kept b w w' ∧ DoneAt w' b (n + 1) (settingE s ar dn name ex).2 := by
  obtain ⟨p0, p1, p2, _, _, _⟩ := hW.f
  obtain ⟨_, _, s2, _⟩ := hs.f hW.bel
  obtain ⟨ek, hek⟩ : ∃ e, kindE s name [7] = e := ⟨_, rfl⟩
  obtain ⟨b1, hb1⟩ : ∃ r, inside ar [7, 3] = r := ⟨_, rfl⟩
  obtain ⟨en, hen⟩ : ∃ e, nest b1 = e := ⟨_, rfl⟩
  obtain ⟨e1, he1⟩ : ∃ e, firstE [ek, en] = e := ⟨_, rfl⟩
  have CK := Lib.hid (kind_in hW.scAt ok name [7] [7] rfl ek hek (by simp))
  have CI := Lib.hid (inside_in hW [7, 3] b1 hb1 (by simp) hal)
  have CN := Lib.hid (fun x (_ : Below w.heap.size w x) => nest_in b1 en hen x)
  have CF := Lib.hid (fun x (_ : Below w.heap.size w x) v hv => firstE_at x v [ek, en] e1 he1 (by simp) hv)
  have HW := Lib.hid hW
  have HSm := Lib.hid hs
  by_cases h0 : e1 = 0
  · subst h0
    obtain ⟨ee, hee⟩ : ∃ e, exprE s ex = e := ⟨_, rfl⟩
    obtain ⟨q, hq⟩ : ∃ q, dn.contains name = q := ⟨_, rfl⟩
    obtain ⟨eo, heo⟩ : ∃ e, errIf q 8 = e := ⟨_, rfl⟩
    obtain ⟨er, her⟩ : ∃ e, firstE [eo, ee] = e := ⟨_, rfl⟩
    have HA := Lib.hid (show settingE s ar dn name ex = (er, name :: dn) by simp only [settingE]; rw [hek, hb1, hen, if_pos he1, hq, heo, hee, her])
    have HEE := Lib.hid hee
    have HQ := Lib.hid hq
    have HEO := Lib.hid heo
    have HER := Lib.hid her
    have HSS := Lib.hid hS
    clear hek hb1 hen he1 hW hs hq heo her hee hS
    go_enter Tryz.func141, Tryz.ntmps141
    go_wp2_with fail
    refine Gd.wp_region_below 42 (by kernel_rfl) rfl (by kernel_rfl) ?_
    repeat (first
      | (apply Gd.step_eqv
         · intro a x hC hk
           try simp [go_sem] at hk
           simp [go_sem, hk, p0, p1, p2, s2, hC]
           first
             | exact ⟨rfl, Below.refl _ _⟩
             | (go_at_call 75; ((with_reducible refine Gd.calls_eqv (CK.out x hC _ ?_)); (first | exact hk | exact hk.1 | exact hk.2 | exact hk.2.1 | exact hk.2.2 | exact hk.2.2.1 | exact hk.2.2.2)))
             | (go_at_call 137; ((with_reducible refine Gd.calls_eqv (CI.out x hC _ ?_)); (first | exact hk | exact hk.1 | exact hk.2 | exact hk.2.1 | exact hk.2.2 | exact hk.2.2.1 | exact hk.2.2.2)))
             | (go_at_call 136; ((with_reducible exact Gd.calls_eqv (CN.out x hC))))
             | (go_at_call 105; ((with_reducible refine Gd.calls_eqv (CF.out x hC _ ?_)); (first | exact hk | exact hk.1 | exact hk.2 | exact hk.2.1 | exact hk.2.2 | exact hk.2.2.1 | exact hk.2.2.2))))
      | (apply Gd.step_cond (gZ [7]) (gZ_stable _)
         · intro a x hC hk
           try simp [go_sem] at hk
           simp [go_sem, hk]
           exact ⟨gZ_one _ _ _, alloc_below _ _⟩)
      | (apply Gd.step_cond (gZ [7, 3]) (gZ_stable _)
         · intro a x hC hk
           try simp [go_sem] at hk
           simp [go_sem, hk]
           exact ⟨gZ_two _ _ _ _, alloc_below _ _⟩)
      | (apply Gd.step_cond (gE [ek, en]) (gE_stable _)
         · intro a x hC hk
           try simp [go_sem] at hk
           simp [go_sem, hk]
           exact ⟨gE_two _ _ _ _, alloc_below _ _⟩))
    intro x hC
    simp only [Gd.push, List.reverse_cons, List.reverse_nil, List.nil_append, List.cons_append, Gd.Fin, Gd.eqv, forall_eq]
    intro v14 _ v17 _ v20 _
    simp [Act.put]
    have HB := Lib.hid hC
    have HW1 := Lib.hid (HW.out.below hC)
    have HD := Lib.hid HW1.out.done
    obtain ⟨r0, r1, r2, _, _, r5⟩ : _ ∧ _ ∧ _ ∧ _ ∧ _ ∧ _ := ⟨keptK HW1.out.c0 HW1.out.hne, keptK HW1.out.c1 HW1.out.hne, keptK HW1.out.c2 HW1.out.hne, keptK HW1.out.c3 HW1.out.hne, keptK HW1.out.c4 HW1.out.hne, keptK HW1.out.c5 HW1.out.hne⟩
    have hbw := HW1.out.hb
    have hbx := HW1.out.bel.size
    have t2 := ((HSm.out.f HW1.out.bel).s2 x (Below.refl _ _))
    have hgs := HSm.out.lt
    have T2 := keptK (b := b) t2 (by omega)
    have CX := Lib.hid (fun y (hy : Kept b x y) => expression_in (w := y) (Kept.below HW1.out.bel hy hbw hbx) ok HW.out.sc HSS.out hok HSm.out.ex ee HEE.out y (Below.refl _ _))
    have CR := Lib.hid (fun y (hy : Kept b x y) (hd : DoneAt y b n dn) => repeated_any y G b n dn ⟨name.toArray⟩ (r5 y hy) hd hn (by show name.toArray.size ≤ _; simpa using hnm))
    rw [show dn.contains (⟨name.toArray⟩ : ByteArray).data.toList = q from HQ.out] at CR
    have CE := Lib.hid (fun y (_ : Kept b x y) => errorIf_in q 8 eo HEO.out y)
    have CF2 := Lib.hid (fun y (_ : Kept b x y) v hv => firstE_at y v [eo, ee] er HER.out (by simp) hv)
    clear p0 p1 p2 s2 CK CI CN CF t2 r5
    go_wp2_with fail
    refine wp_region_mark (b := b) (n := n) (dn := dn) (nm := name) 5 42 HD.out (by kernel_rfl) rfl (by kernel_rfl) ?_
    repeat (first
      | (apply step_eqvM (by decide)
         · intro a y hC hk
           try simp [go_sem] at hk
           simp [go_sem, hk, r0, r1, r2, T2, hC]
           first
             | exact ⟨rfl, Below.refl _ _⟩
             | (go_at_call 135; ((with_reducible exact Gd.calls_eqv (CX.out y hC))))
             | (go_at_call 43; ((with_reducible exact Gd.calls_eqv (CE.out y hC))))
             | (go_at_call 105; ((with_reducible refine Gd.calls_eqv (CF2.out y hC _ (hE_es (b := b) ?_))); (first | exact hk | exact hk.1 | exact hk.2 | exact hk.2.1 | exact hk.2.2 | exact hk.2.2.1 | exact hk.2.2.2))))
      | (apply step_condM (by decide) (hE b [eo, ee]) (hE_stable b _)
         · intro a y hC hbx hk
           try simp [go_sem] at hk
           simp [go_sem, hk]
           exact ⟨hE_two b _ hbx _ _ _, alloc_below _ _⟩)
      | (apply step_markM (by decide)
         · intro a y hC hD hk
           try simp [go_sem] at hk
           simp [go_sem, hk]
           (go_at_call 162; (exact calls_mark (CR.out y hC hD)))))
    intro y hC
    simp only [Gd.push, List.reverse_cons, List.reverse_nil, List.nil_append, List.cons_append, Gd.Fin, Gd.eqv, forall_eq]
    intro v40 _
    simp [Act.put]
    go_wp2_with fail
    go_ret
    rw [HA.out]
    obtain ⟨h1, h2⟩ := hC
    exact ⟨rfl, (Kept.of_below HB.out).trans h1, h2⟩
  · have HA := Lib.hid (show settingE s ar dn name ex = (e1, dn) by simp only [settingE]; rw [hek, hb1, hen, he1, if_neg h0])
    have h0i : ¬ ((e1 : Nat) : Int) = 0 := by omega
    clear hek hb1 hen he1 hW hs h0 hS
    go_enter Tryz.func141, Tryz.ntmps141
    go_wp2_with fail
    refine Gd.wp_region_below 42 (by kernel_rfl) rfl (by kernel_rfl) ?_
    repeat (first
      | (apply Gd.step_eqv
         · intro a x hC hk
           try simp [go_sem] at hk
           simp [go_sem, hk, p0, p1, p2, s2, hC]
           first
             | exact ⟨rfl, Below.refl _ _⟩
             | (go_at_call 75; ((with_reducible refine Gd.calls_eqv (CK.out x hC _ ?_)); (first | exact hk | exact hk.1 | exact hk.2 | exact hk.2.1 | exact hk.2.2 | exact hk.2.2.1 | exact hk.2.2.2)))
             | (go_at_call 137; ((with_reducible refine Gd.calls_eqv (CI.out x hC _ ?_)); (first | exact hk | exact hk.1 | exact hk.2 | exact hk.2.1 | exact hk.2.2 | exact hk.2.2.1 | exact hk.2.2.2)))
             | (go_at_call 136; ((with_reducible exact Gd.calls_eqv (CN.out x hC))))
             | (go_at_call 105; ((with_reducible refine Gd.calls_eqv (CF.out x hC _ ?_)); (first | exact hk | exact hk.1 | exact hk.2 | exact hk.2.1 | exact hk.2.2 | exact hk.2.2.1 | exact hk.2.2.2))))
      | (apply Gd.step_cond (gZ [7]) (gZ_stable _)
         · intro a x hC hk
           try simp [go_sem] at hk
           simp [go_sem, hk]
           exact ⟨gZ_one _ _ _, alloc_below _ _⟩)
      | (apply Gd.step_cond (gZ [7, 3]) (gZ_stable _)
         · intro a x hC hk
           try simp [go_sem] at hk
           simp [go_sem, hk]
           exact ⟨gZ_two _ _ _ _, alloc_below _ _⟩)
      | (apply Gd.step_cond (gE [ek, en]) (gE_stable _)
         · intro a x hC hk
           try simp [go_sem] at hk
           simp [go_sem, hk]
           exact ⟨gE_two _ _ _ _, alloc_below _ _⟩))
    intro x hC
    simp only [Gd.push, List.reverse_cons, List.reverse_nil, List.nil_append, List.cons_append, Gd.Fin, Gd.eqv, forall_eq]
    intro v14 _ v17 _ v20 _
    simp [Act.put]
    go_wp2_with fail
    go_ret
    rw [HA.out]
    obtain ⟨D, hD1, hD2⟩ := HW.out.done.below hC
    exact ⟨rfl, Kept.of_below hC, D, hD1.mono (by omega), hD2⟩

set_option maxHeartbeats 4000000 in
set_option maxRecDepth 100000 in
theorem control_any (W0 w : World) (G b n : Nat) (s : Sc) (ok : ScOk s) (vl vd vt va : Value) (own : Bs) (ar : Ar) (hal : ar.length ≤ 100) (dn : List Bs) (S : Nat → Prop) (gs os : Nat) (op line : Nat) (name arg : Bs) (ix : List E) (ex : E) (body els : List Sm)
    (hn : n ≤ 1000000) (hnm : name.length ≤ maxLen) (hth : s.threads ≠ []) (hW : WkAt W0 G b s vl vd vt own ar dn n va w) (hs : SmAt W0 S gs os (.mk op line name arg ix ex body els)) :
    Calls Tryz.prog 140 #[.pointer (some ⟨G, 0, none⟩), .pointer (some ⟨gs, os, none⟩)] w fun x w' => x = .returned (.int .i64 ((controlE s own ar dn op name).1 : Nat)) ∧ Kept b w w' ∧ DoneAt w' b (n + 1) (controlE s own ar dn op name).2 := by
  obtain ⟨p0, p1, p2, p3, _, _⟩ := hW.f
  obtain ⟨s0, _, s2, _⟩ := hs.f hW.bel
  obtain ⟨ek, hek⟩ : ∃ e, kindE s name [8] = e := ⟨_, rfl⟩
  obtain ⟨b1, hb1⟩ : ∃ r, inside ar [7, 8] = r := ⟨_, rfl⟩
  obtain ⟨q0, hq0⟩ : ∃ r, (name == own) = r := ⟨_, rfl⟩
  obtain ⟨en, hen⟩ : ∃ e, nest (b1 || q0) = e := ⟨_, rfl⟩
  obtain ⟨e1, he1⟩ : ∃ e, firstE [ek, en] = e := ⟨_, rfl⟩
  have hqq : (name == own) = q0 := hq0
  have CK := Lib.hid (kind_in hW.scAt ok name [8] [8] rfl ek hek (by simp))
  have CI := Lib.hid (inside_in hW [7, 8] b1 hb1 (by simp) hal)
  have CN := Lib.hid (fun x (_ : Below w.heap.size w x) => nest_in (b1 || q0) en hen x)
  have CF := Lib.hid (fun x (_ : Below w.heap.size w x) v hv => firstE_at x v [ek, en] e1 he1 (by simp) hv)
  have HW := Lib.hid hW
  have HSm := Lib.hid hs
  by_cases h0 : e1 = 0
  · subst h0
    by_cases h13 : op = 13
    · subst h13
      have HA := Lib.hid (show controlE s own ar dn ((13 : Nat) : Int) name = (0, dn) by simp only [controlE]; rw [hek, hb1, hq0, hen, he1, if_neg (by simp)])
      have h13b : (((13 : Nat) : Int) == 13) = true := rfl
      clear hek hq0 hen he1 hW hs
      cases b1
      all_goals
        clear hb1
        simp only [Bool.false_or, Bool.true_or] at CN
        go_enter Tryz.func140, Tryz.ntmps140
        go_wp2_with fail
        refine Gd.wp_region_below 71 (by kernel_rfl) rfl (by kernel_rfl) ?_
        repeat (first
          | (apply Gd.step_eqv
             · intro a x hC hk
               try simp [go_sem] at hk
               simp [go_sem, hk, p0, p1, p2, p3, s2, hqq, hC]
               first
                 | exact ⟨rfl, Below.refl _ _⟩
                 | (go_at_call 75; ((with_reducible refine Gd.calls_eqv (CK.out x hC _ ?_)); (first | exact hk | exact hk.1 | exact hk.2 | exact hk.2.1 | exact hk.2.2 | exact hk.2.2.1 | exact hk.2.2.2)))
                 | (go_at_call 137; ((with_reducible refine Gd.calls_eqv (CI.out x hC _ ?_)); (first | exact hk | exact hk.1 | exact hk.2 | exact hk.2.1 | exact hk.2.2 | exact hk.2.2.1 | exact hk.2.2.2)))
                 | (go_at_call 136; ((with_reducible exact Gd.calls_eqv (CN.out x hC))))
                 | (go_at_call 105; ((with_reducible refine Gd.calls_eqv (CF.out x hC _ ?_)); (first | exact hk | exact hk.1 | exact hk.2 | exact hk.2.1 | exact hk.2.2 | exact hk.2.2.1 | exact hk.2.2.2))))
          | (apply Gd.step_cond (gZ [8]) (gZ_stable _)
             · intro a x hC hk
               try simp [go_sem] at hk
               simp [go_sem, hk]
               exact ⟨gZ_one _ _ _, alloc_below _ _⟩)
          | (apply Gd.step_cond (gZ [7, 8]) (gZ_stable _)
             · intro a x hC hk
               try simp [go_sem] at hk
               simp [go_sem, hk]
               exact ⟨gZ_two _ _ _ _, alloc_below _ _⟩)
          | (apply Gd.step_cond (gE [ek, en]) (gE_stable _)
             · intro a x hC hk
               try simp [go_sem] at hk
               simp [go_sem, hk]
               exact ⟨gE_two _ _ _ _, alloc_below _ _⟩))
        intro x hC
        simp only [Gd.push, List.reverse_cons, List.reverse_nil, List.nil_append, List.cons_append, Gd.Fin, Gd.eqv, forall_eq]
        intro v14 _ v17 _ v31 _
        simp [Act.put]
        have u0 := s0 x hC
        go_wp2_with fail
        go_ret
        rw [HA.out]
        obtain ⟨D, hD1, hD2⟩ := HW.out.done.below hC
        exact ⟨rfl, Kept.of_below hC, D, hD1.mono (by omega), hD2⟩
    · obtain ⟨b3, hb3⟩ : ∃ r, inside ar [3] = r := ⟨_, rfl⟩
      obtain ⟨q2, hq2⟩ : ∃ r, (name == head0 s) = r := ⟨_, rfl⟩
      obtain ⟨e3, he3⟩ : ∃ e, nest (b3 || q2) = e := ⟨_, rfl⟩
      obtain ⟨q, hq⟩ : ∃ q, dn.contains name = q := ⟨_, rfl⟩
      obtain ⟨eo, heo⟩ : ∃ e, errIf q 8 = e := ⟨_, rfl⟩
      obtain ⟨er, her⟩ : ∃ e, firstE [e3, eo] = e := ⟨_, rfl⟩
      have HA := Lib.hid (show controlE s own ar dn op name = (er, name :: dn) by simp only [controlE]; rw [hek, hb1, hq0, hen, if_pos ⟨he1, by omega⟩, hb3, hq2, he3, hq, heo, her])
      have h13i : ((op : Int) == 13) = false := beq_eq_false_iff_ne.2 (by omega)
      have h13j : ¬ (op : Int) = 13 := by omega
      obtain ⟨tn, htn⟩ : ∃ t, head0 s = t := ⟨_, rfl⟩
      rw [htn] at hq2
      obtain ⟨gt, nt, ct, hvt, hnt, hd0⟩ : ∃ gt nt ct, vt = .slice (some ⟨gt, 0, none⟩) nt ct ∧ 0 < nt ∧ W0.cell? ⟨gt, 0, none⟩ = some (.string ⟨tn.toArray⟩) := by
        obtain ⟨A, cap, hv, _, hc⟩ := hW.sc.t
        have hlt : 0 < s.threads.length := by
          cases hts : s.threads with
          | nil => exact absurd hts hth
          | cons a l => simp
        obtain ⟨g, a2, l2, c2, a3, l3, c3, hA, hg, h1, _⟩ := hc 0 hlt
        refine ⟨g, s.threads.length, cap, by rw [hv, hA], hlt, ?_⟩
        rw [Nat.zero_mul] at h1
        rw [h1, ← htn, head0_get s hlt]
      have hnti : (0 : Int) < (nt : Int) := by omega
      have HB3 := Lib.hid hb3
      have HQ := Lib.hid hq
      have HEO := Lib.hid heo
      have HER := Lib.hid her
      have HD0 := Lib.hid hd0
      have HVT := Lib.hid hvt
      have HQ2 := Lib.hid hq2
      have HE3 := Lib.hid he3
      clear hek hq0 hen he1 hW hs hq heo her hb3 he3 hq2 htn hd0 hvt h13
      cases b1
      all_goals
        clear hb1
        simp only [Bool.false_or, Bool.true_or] at CN
        go_enter Tryz.func140, Tryz.ntmps140
        go_wp2_with fail
        refine Gd.wp_region_below 71 (by kernel_rfl) rfl (by kernel_rfl) ?_
        repeat (first
          | (apply Gd.step_eqv
             · intro a x hC hk
               try simp [go_sem] at hk
               simp [go_sem, hk, p0, p1, p2, p3, s2, hqq, hC]
               first
                 | exact ⟨rfl, Below.refl _ _⟩
                 | (go_at_call 75; ((with_reducible refine Gd.calls_eqv (CK.out x hC _ ?_)); (first | exact hk | exact hk.1 | exact hk.2 | exact hk.2.1 | exact hk.2.2 | exact hk.2.2.1 | exact hk.2.2.2)))
                 | (go_at_call 137; ((with_reducible refine Gd.calls_eqv (CI.out x hC _ ?_)); (first | exact hk | exact hk.1 | exact hk.2 | exact hk.2.1 | exact hk.2.2 | exact hk.2.2.1 | exact hk.2.2.2)))
                 | (go_at_call 136; ((with_reducible exact Gd.calls_eqv (CN.out x hC))))
                 | (go_at_call 105; ((with_reducible refine Gd.calls_eqv (CF.out x hC _ ?_)); (first | exact hk | exact hk.1 | exact hk.2 | exact hk.2.1 | exact hk.2.2 | exact hk.2.2.1 | exact hk.2.2.2))))
          | (apply Gd.step_cond (gZ [8]) (gZ_stable _)
             · intro a x hC hk
               try simp [go_sem] at hk
               simp [go_sem, hk]
               exact ⟨gZ_one _ _ _, alloc_below _ _⟩)
          | (apply Gd.step_cond (gZ [7, 8]) (gZ_stable _)
             · intro a x hC hk
               try simp [go_sem] at hk
               simp [go_sem, hk]
               exact ⟨gZ_two _ _ _ _, alloc_below _ _⟩)
          | (apply Gd.step_cond (gE [ek, en]) (gE_stable _)
             · intro a x hC hk
               try simp [go_sem] at hk
               simp [go_sem, hk]
               exact ⟨gE_two _ _ _ _, alloc_below _ _⟩))
        intro x hC
        simp only [Gd.push, List.reverse_cons, List.reverse_nil, List.nil_append, List.cons_append, Gd.Fin, Gd.eqv, forall_eq]
        intro v14 _ v17 _ v31 _
        simp [Act.put]
        have u0 := s0 x hC
        have HB := Lib.hid hC
        have HW1 := Lib.hid (HW.out.below hC)
        have HD := Lib.hid HW1.out.done
        have r2 := keptK HW1.out.c2 HW1.out.hne
        have r5 := keptK HW1.out.c5 HW1.out.hne
        have hbw := HW1.out.hb
        have hbx := HW1.out.bel.size
        have t2 := ((HSm.out.f HW1.out.bel).s2 x (Below.refl _ _))
        have hgs := HSm.out.lt
        have T2 := keptK (b := b) t2 (by omega)
        have hgt : gt < W0.heap.size := block_lt_of_cell HD0.out
        have D0 := keptK (b := b) ((HW1.out.bel.cell (block_lt_of_cell HD0.out)).trans HD0.out) (by omega)
        rw [HVT.out] at r2
        have CI3 := Lib.hid (fun y (hy : Kept b x y) => insideK HW1.out [3] b3 HB3.out (by simp) hal y hy)
        have CN3 := Lib.hid (fun y (_ : Kept b x y) => nest_in (b3 || q2) e3 HE3.out y)
        have CR := Lib.hid (fun y (hy : Kept b x y) (hd : DoneAt y b n dn) => repeated_any y G b n dn ⟨name.toArray⟩ (r5 y hy) hd hn (by show name.toArray.size ≤ _; simpa using hnm))
        rw [show dn.contains (⟨name.toArray⟩ : ByteArray).data.toList = q from HQ.out] at CR
        have CE := Lib.hid (fun y (_ : Kept b x y) => errorIf_in q 8 eo HEO.out y)
        have CF2 := Lib.hid (fun y (_ : Kept b x y) v hv => firstE_at y v [e3, eo] er HER.out (by simp) hv)
        have hq2 := HQ2.out
        clear p0 p1 p2 p3 s2 s0 CK CI CN CF t2 r5
        go_wp2_with fail
        cases b3
        all_goals
          simp only [Bool.false_or, Bool.true_or] at CN3
          refine wp_region_mark (b := b) (n := n) (dn := dn) (nm := name) 24 71 HD.out (by kernel_rfl) rfl (by kernel_rfl) ?_
          repeat (first
            | (apply step_eqvM (by decide)
               · intro a y hC hk
                 try simp [go_sem] at hk
                 simp [go_sem, hk, r2, T2, D0, hq2, hnt, hC]
                 first
                   | exact ⟨rfl, Below.refl _ _⟩
                   | (go_at_call 137; ((with_reducible refine Gd.calls_eqv (CI3.out y hC _ (hZ_zs (b := b) ?_))); (first | exact hk | exact hk.1 | exact hk.2 | exact hk.2.1 | exact hk.2.2 | exact hk.2.2.1 | exact hk.2.2.2)))
                   | (go_at_call 136; ((with_reducible exact Gd.calls_eqv (CN3.out y hC))))
                   | (go_at_call 43; ((with_reducible exact Gd.calls_eqv (CE.out y hC))))
                   | (go_at_call 105; ((with_reducible refine Gd.calls_eqv (CF2.out y hC _ (hE_es (b := b) ?_))); (first | exact hk | exact hk.1 | exact hk.2 | exact hk.2.1 | exact hk.2.2 | exact hk.2.2.1 | exact hk.2.2.2))))
            | (apply step_condM (by decide) (hZ b [3]) (hZ_stable b _)
               · intro a y hC hbx hk
                 try simp [go_sem] at hk
                 simp [go_sem, hk]
                 exact ⟨hZ_one b _ hbx _ _, alloc_below _ _⟩)
            | (apply step_condM (by decide) (hE b [e3, eo]) (hE_stable b _)
               · intro a y hC hbx hk
                 try simp [go_sem] at hk
                 simp [go_sem, hk]
                 exact ⟨hE_two b _ hbx _ _ _, alloc_below _ _⟩)
            | (apply step_markM (by decide)
               · intro a y hC hD hk
                 try simp [go_sem] at hk
                 simp [go_sem, hk]
                 (go_at_call 162; (exact calls_mark (CR.out y hC hD)))))
          intro y hC
          simp only [Gd.push, List.reverse_cons, List.reverse_nil, List.nil_append, List.cons_append, Gd.Fin, Gd.eqv, forall_eq]
          intro v44 _ v69 _
          simp [Act.put]
          go_wp2_with fail
          go_ret
          rw [HA.out]
          obtain ⟨h1, h2⟩ := hC
          exact ⟨rfl, (Kept.of_below HB.out).trans h1, h2⟩
  · have HA := Lib.hid (show controlE s own ar dn op name = (e1, dn) by simp only [controlE]; rw [hek, hb1, hq0, hen, he1, if_neg (fun h => h0 h.1)])
    have h0i : ¬ ((e1 : Nat) : Int) = 0 := by omega
    clear hek hq0 hen he1 hW hs h0
    cases b1
    all_goals
      clear hb1
      simp only [Bool.false_or, Bool.true_or] at CN
      go_enter Tryz.func140, Tryz.ntmps140
      go_wp2_with fail
      refine Gd.wp_region_below 71 (by kernel_rfl) rfl (by kernel_rfl) ?_
      repeat (first
        | (apply Gd.step_eqv
           · intro a x hC hk
             try simp [go_sem] at hk
             simp [go_sem, hk, p0, p1, p2, p3, s2, hqq, hC]
             first
               | exact ⟨rfl, Below.refl _ _⟩
               | (go_at_call 75; ((with_reducible refine Gd.calls_eqv (CK.out x hC _ ?_)); (first | exact hk | exact hk.1 | exact hk.2 | exact hk.2.1 | exact hk.2.2 | exact hk.2.2.1 | exact hk.2.2.2)))
               | (go_at_call 137; ((with_reducible refine Gd.calls_eqv (CI.out x hC _ ?_)); (first | exact hk | exact hk.1 | exact hk.2 | exact hk.2.1 | exact hk.2.2 | exact hk.2.2.1 | exact hk.2.2.2)))
               | (go_at_call 136; ((with_reducible exact Gd.calls_eqv (CN.out x hC))))
               | (go_at_call 105; ((with_reducible refine Gd.calls_eqv (CF.out x hC _ ?_)); (first | exact hk | exact hk.1 | exact hk.2 | exact hk.2.1 | exact hk.2.2 | exact hk.2.2.1 | exact hk.2.2.2))))
        | (apply Gd.step_cond (gZ [8]) (gZ_stable _)
           · intro a x hC hk
             try simp [go_sem] at hk
             simp [go_sem, hk]
             exact ⟨gZ_one _ _ _, alloc_below _ _⟩)
        | (apply Gd.step_cond (gZ [7, 8]) (gZ_stable _)
           · intro a x hC hk
             try simp [go_sem] at hk
             simp [go_sem, hk]
             exact ⟨gZ_two _ _ _ _, alloc_below _ _⟩)
        | (apply Gd.step_cond (gE [ek, en]) (gE_stable _)
           · intro a x hC hk
             try simp [go_sem] at hk
             simp [go_sem, hk]
             exact ⟨gE_two _ _ _ _, alloc_below _ _⟩))
      intro x hC
      simp only [Gd.push, List.reverse_cons, List.reverse_nil, List.nil_append, List.cons_append, Gd.Fin, Gd.eqv, forall_eq]
      intro v14 _ v17 _ v31 _
      simp [Act.put]
      go_wp2_with fail
      go_ret
      rw [HA.out]
      obtain ⟨D, hD1, hD2⟩ := HW.out.done.below hC
      exact ⟨rfl, Kept.of_below hC, D, hD1.mono (by omega), hD2⟩
end Ck
end Go.Proofs.YtncflfadgcaldaaGreatDoor
