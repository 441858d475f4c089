/-
  A region that draws its order: what each operation yields is described by a condition on the value and the world that later operations keep. Each operation is walked once, over whatever frame its operands are known in; no order is looked at.
-/
import Derived.StillTail
import Derived.Deep.Quiet
import Derived.Below
namespace Go.Proofs.Ytdibfpjhmfkbkaa
open Go Go.RowKit

namespace Gd
section
variable {P : Program} {ops : Array Oper} {md : Region.Mode}
/-- The operation that writes slot t. -/
def dstOf (ops : Array Oper) (t : Tmp) : Option Nat := (List.range ops.size).find? fun j => (ops[j]?).bind (·.dst) == some t
theorem dstOf_some {t : Tmp} {j : Nat} (h : dstOf ops t = some j) : ∃ o, ops[j]? = some o ∧ o.dst = some t := by
  have h1 := List.find?_some h
  simp only [beq_iff_eq, Option.bind_eq_some_iff] at h1
  exact h1
theorem dstOf_none {t : Tmp} (h : dstOf ops t = none) : ∀ (j : Nat) (o : Oper), ops[j]? = some o → o.dst ≠ some t := by
  intro j o ho hd
  have h1 := List.find?_eq_none.1 h j (List.mem_range.2 (Array.getElem?_eq_some_iff.1 ho).1)
  simp [ho, hd] at h1
/-- Each operation waits for those before it alone, and for every one whose slot it looks at; no slot is written twice, all lie in the frame. -/
def regB (md : Region.Mode) (ops : Array Oper) (n : Nat) : Bool :=
  (List.range ops.size).all fun i => match ops[i]? with
    | none => true
    | some o => (o.after.all fun e => !Region.binds md e || decide (e.on < i)) &&
      ((o.looksAt ops).all fun t => (List.range ops.size).all fun j => ((ops[j]?).bind (·.dst) != some t) || Region.waitsFor md ops i j) &&
      (match o.dst with
        | none => true
        | some t => decide (t < n) && (List.range ops.size).all fun j => (j == i) || ((ops[j]?).bind (·.dst) != some t))
theorem regB_spec {n : Nat} (h : regB md ops n = true) {i : Nat} {o : Oper} (ho : ops[i]? = some o) :
    (∀ e ∈ o.after, Region.binds md e = true → e.on < i) ∧ (∀ t ∈ o.looksAt ops, ∀ j oj, ops[j]? = some oj → oj.dst = some t → Region.waitsFor md ops i j = true) ∧
    (∀ t, o.dst = some t → t < n ∧ ∀ j oj, ops[j]? = some oj → oj.dst = some t → j = i) := by
  have h1 := List.all_eq_true.1 h i (List.mem_range.2 (Array.getElem?_eq_some_iff.1 ho).1)
  simp only [ho, Bool.and_eq_true] at h1
  obtain ⟨⟨h1, h2⟩, h3⟩ := h1
  refine ⟨fun e he hb => ?_, fun t ht j oj hj hd => ?_, fun t ht => ?_⟩
  · have := Array.all_eq_true'.1 h1 e he
    simpa [hb] using this
  · have := List.all_eq_true.1 (List.all_eq_true.1 h2 t ht) j (List.mem_range.2 (Array.getElem?_eq_some_iff.1 hj).1)
    simpa [hj, hd] using this
  · rw [ht] at h3
    simp only [Bool.and_eq_true, decide_eq_true_eq] at h3
    refine ⟨h3.1, fun j oj hj hd => ?_⟩
    have := List.all_eq_true.1 h3.2 j (List.mem_range.2 (Array.getElem?_eq_some_iff.1 hj).1)
    simpa [hj, hd] using this
/-- What an operation looks at. -/
def Sees (ops : Array Oper) (G : Nat → Value → World → Prop) (a0 a : Act) (x : World) (o : Oper) : Prop :=
  a.tmps.size = a0.tmps.size ∧ ∀ t ∈ o.looksAt ops, match dstOf ops t with
    | some j => G j (a.tmps.getD t undef) x
    | none => a.tmps.getD t undef = a0.tmps.getD t undef
/-- An operation yields a value, or calls a function that does. -/
def goesUpon (P : Program) (K : Value → World → Prop) : Result Next → Prop
  | .ok (.value u) w' => K u w'
  | .ok .skip w' => K undef w'
  | .ok (.enter f args) w' => Calls P f args w' (fun e w'' => ∃ v, e = .returned v ∧ K v w'')
  | _ => False
def Goes (P : Program) (ops : Array Oper) (o : Oper) (a : Act) (x : World) (K : Value → World → Prop) : Prop :=
  if Region.wanted o (yielded ops a.tmps) then goesUpon P K ((execOp a.eval o).run P x) else K undef x
def putAll : Act → List Oper → Nat → (Nat → Value) → Act
  | a, [], _, _ => a
  | a, o :: r, k, vs => putAll (a.put o.dst (vs k)) r (k + 1) vs
theorem put_size (a : Act) (d : Option Tmp) (v : Value) : (a.put d v).tmps.size = a.tmps.size := by
  cases d <;> simp [Act.put]
theorem put_defers (a : Act) (d : Option Tmp) (v : Value) : (a.put d v).defers = a.defers := by
  cases d <;> rfl
theorem put_ne (a : Act) (d : Option Tmp) (v : Value) (t : Tmp) (h : d ≠ some t) : (a.put d v).tmps.getD t undef = a.tmps.getD t undef := by
  cases d with
  | none => rfl
  | some s =>
    have hs : s ≠ t := fun e => h (by rw [e])
    simp [Act.put, hs, Array.getD_eq_getD_getElem?]
theorem put_eq (a : Act) (v : Value) (t : Tmp) (h : t < a.tmps.size) : (a.put (some t) v).tmps.getD t undef = v := by
  simp [Act.put, h, Array.getD_eq_getD_getElem?]
theorem putAll_defers : ∀ (l : List Oper) (a : Act) (k : Nat) (vs : Nat → Value), (putAll a l k vs).defers = a.defers
  | [], _, _, _ => rfl
  | _ :: r, a, _, _ => (putAll_defers r _ _ _).trans (put_defers a _ _)
theorem putAll_size : ∀ (l : List Oper) (a : Act) (k : Nat) (vs : Nat → Value), (putAll a l k vs).tmps.size = a.tmps.size
  | [], _, _, _ => rfl
  | _ :: r, a, _, _ => (putAll_size r _ _ _).trans (put_size a _ _)
theorem putAll_at (F : Tmp → Value) (t : Tmp) : ∀ (l : List Oper) (a : Act) (k : Nat) (vs : Nat → Value), t < a.tmps.size → (∀ i o s, l[i]? = some o → o.dst = some s → vs (k + i) = F s) →
    (putAll a l k vs).tmps.getD t undef = if (l.any fun o => o.dst == some t) = true then F t else a.tmps.getD t undef
  | [], a, k, vs, _, _ => by simp [putAll]
  | o :: r, a, k, vs, ht, h => by
    have ih := putAll_at F t r (a.put o.dst (vs k)) (k + 1) vs (by rw [put_size]; exact ht) (fun i o' s hi hs => by
      have := h (i + 1) o' s (by simpa using hi) hs
      rw [← this]
      congr 1
      omega)
    show (putAll (a.put o.dst (vs k)) r (k + 1) vs).tmps.getD t undef = _
    rw [ih, List.any_cons]
    by_cases hr : (r.any fun o => o.dst == some t) = true
    · rw [if_pos hr, if_pos (by rw [hr]; simp)]
    · rw [if_neg hr]
      by_cases ho : o.dst = some t
      · rw [if_pos (by rw [ho]; simp), ho, put_eq _ _ _ ht]
        have := h 0 o t rfl ho
        simpa using this
      · rw [if_neg (by simp only [Bool.or_eq_true, beq_iff_eq, not_or]; exact ⟨ho, hr⟩), put_ne _ _ _ _ ho]
theorem act_ext {a b : Act} (h1 : a.tmps.size = b.tmps.size) (h2 : ∀ t, t < a.tmps.size → a.tmps.getD t undef = b.tmps.getD t undef) (h3 : a.defers = b.defers) : a = b := by
  obtain ⟨ta, da⟩ := a
  obtain ⟨tb, db⟩ := b
  simp only at h1 h2 h3
  subst h3
  congr 1
  refine Array.ext h1 fun i hi hj => ?_
  have := h2 i hi
  simpa [Array.getD_eq_getD_getElem?, hi, hj] using this
/-- How many operations have not come up. -/
def unl (ops : Array Oper) (listed : Array Bool) : Nat := (List.range ops.size).countP fun i => !listed.getD i true
theorem countP_lt {p q : Nat → Bool} {i : Nat} : ∀ {l : List Nat}, i ∈ l → p i = true → q i = false → (∀ x, q x = true → p x = true) → l.countP q < l.countP p
  | [], h, _, _, _ => nomatch h
  | y :: r, h, hp, hq, hle => by
    have hmono : r.countP q ≤ r.countP p := List.countP_mono_left fun x _ hx => hle x hx
    rw [List.countP_cons, List.countP_cons]
    by_cases hy : y = i
    · subst hy
      rw [if_pos hp, if_neg (by rw [hq]; decide)]
      omega
    · have hr : i ∈ r := (List.mem_cons.1 h).resolve_left (fun e => hy e.symm)
      have ih := countP_lt hr hp hq hle
      by_cases hqy : q y = true
      · rw [if_pos hqy, if_pos (hle y hqy)]
        omega
      · rw [if_neg hqy]
        omega
theorem unl_set {listed : Array Bool} {i : Nat} (hi : i ∈ Region.ready md ops listed) : unl ops (listed.setIfInBounds i true) < unl ops listed := by
  obtain ⟨hun, o, ho, _⟩ := mem_ready.1 hi
  have hlt : i < ops.size := (Array.getElem?_eq_some_iff.1 ho).1
  refine countP_lt (List.mem_range.2 hlt) (by rw [hun]; rfl) ?_ (fun x hx => ?_)
  · rcases Nat.lt_or_ge i listed.size with h | h
    · simp [Array.getD_eq_getD_getElem?, h]
    · simp [Array.getD_eq_getD_getElem?, Array.getElem?_eq_none h] at hun
  · by_cases hxi : i = x
    · subst hxi
      rw [hun]
      rfl
    · rw [getD_set_ne true hxi] at hx
      exact hx
/-- What holds while operations come up. -/
structure Inv (ops : Array Oper) (C : Array Bool → World → Prop) (G : Nat → Value → World → Prop) (a0 : Act) (listed : Array Bool) (a : Act) (x : World) : Prop where
  cls : C listed x
  defers : a.defers = a0.defers
  size : a.tmps.size = a0.tmps.size
  ls : listed.size = ops.size
  old : ∀ t, (∀ j o, ops[j]? = some o → o.dst = some t → listed.getD j true = false) → a.tmps.getD t undef = a0.tmps.getD t undef
  good : ∀ j o t, ops[j]? = some o → o.dst = some t → listed.getD j false = true → G j (a.tmps.getD t undef) x
theorem Inv.sees {C : Array Bool → World → Prop} {G : Nat → Value → World → Prop} {a0 a : Act} {listed : Array Bool} {x : World} {n i : Nat} {o : Oper} (h : Inv ops C G a0 listed a x) (hB : regB md ops n = true) (hi : i ∈ Region.ready md ops listed) (ho : ops[i]? = some o) : Sees ops G a0 a x o := by
  refine ⟨h.size, fun t ht => ?_⟩
  cases hd : dstOf ops t with
  | none => exact h.old t (fun j oj hj hdj => absurd hdj (dstOf_none hd j oj hj))
  | some j =>
    obtain ⟨oj, hj, hdj⟩ := dstOf_some hd
    obtain ⟨_, o', ho', hall⟩ := mem_ready.1 hi
    obtain rfl : o = o' := Option.some.inj (ho.symm.trans ho')
    obtain ⟨o'', ho'', e, he, hb, hon⟩ := Region.waitsFor_spec ((regB_spec hB ho).2.1 t ht j oj hj hdj)
    obtain rfl : o = o'' := Option.some.inj (ho.symm.trans ho'')
    have := hall e he hb
    rw [hon] at this
    exact h.good j oj t hj hdj this
theorem Inv.next {C : Array Bool → World → Prop} {G : Nat → Value → World → Prop} {Ext : World → World → Prop} {a0 a : Act} {listed : Array Bool} {x y : World} {n i : Nat} {o : Oper} {v : Value} (h : Inv ops C G a0 listed a x) (hB : regB md ops n = true) (hn : a0.tmps.size = n)
    (hi : i ∈ Region.ready md ops listed) (ho : ops[i]? = some o) (hstab : ∀ i v x y, Ext x y → G i v x → G i v y) (hC : C (listed.setIfInBounds i true) y) (hE : Ext x y) (hG : G i v y) : Inv ops C G a0 (listed.setIfInBounds i true) (a.put o.dst v) y := by
  have hun := (mem_ready.1 hi).1
  have hlt : i < listed.size := by rw [h.ls]; exact (Array.getElem?_eq_some_iff.1 ho).1
  have hset : (listed.setIfInBounds i true).getD i true = true := by simp [Array.getD_eq_getD_getElem?, hlt]
  refine ⟨hC, (put_defers _ _ _).trans h.defers, (put_size _ _ _).trans h.size, by simpa using h.ls, fun t ht => ?_, fun j oj t hj hdj hl => ?_⟩
  · have hne : o.dst ≠ some t := fun e => by
      have := ht i o ho e
      rw [hset] at this
      cases this
    rw [put_ne _ _ _ _ hne]
    refine h.old t (fun j oj hj hdj => ?_)
    have := ht j oj hj hdj
    by_cases hij : i = j
    · subst hij
      rw [hset] at this
      cases this
    · rwa [getD_set_ne true hij] at this
  · by_cases hij : i = j
    · subst hij
      obtain rfl : o = oj := Option.some.inj (ho.symm.trans hj)
      rw [hdj, put_eq _ _ _ (by rw [h.size, hn]; exact ((regB_spec hB ho).2.2 t hdj).1)]
      exact hG
    · have hne : o.dst ≠ some t := fun e => hij (((regB_spec hB hj).2.2 t hdj).2 i o ho e)
      rw [put_ne _ _ _ _ hne]
      rw [getD_set_ne false hij] at hl
      exact hstab _ _ _ _ hE (h.good j oj t hj hdj hl)
theorem all_listed {listed : Array Bool} {n : Nat} (hB : regB md ops n = true) (hls : listed.size = ops.size) (hr : Region.ready md ops listed = []) : ∀ i, i < ops.size → listed.getD i false = true := by
  intro i
  induction i using Nat.strongRecOn with
  | _ i ih =>
    intro hi
    cases hl : listed.getD i false with
    | true => rfl
    | false =>
      exfalso
      obtain ⟨o, ho⟩ : ∃ o, ops[i]? = some o := ⟨_, Array.getElem?_eq_getElem hi⟩
      have : i ∈ Region.ready md ops listed := mem_ready.2 ⟨getD_in (by omega) hl, o, ho, fun e he hb => by
        have h1 := (regB_spec hB ho).1 e he hb
        exact ih e.on h1 (by omega)⟩
      rw [hr] at this
      cases this
theorem goes_wp {o : Oper} {a : Act} {x : World} {Q : Exit → Act → World → Prop} {K : Value → World → Prop} {K' : Act → World → Prop} (h : goesUpon P K ((execOp a.eval o).run P x)) (hK : ∀ v y, K v y → K' (a.put o.dst v) y) : o.wp P a x K' Q := by
  unfold Oper.wp
  generalize (execOp a.eval o).run P x = r at *
  cases r with
  | ok nx w' =>
    cases nx <;> simp only [goesUpon] at h <;> simp only [Oper.upon]
    case value u => exact hK _ _ h
    case skip => exact hK _ _ h
    case enter f args =>
      exact h.mono fun e w'' ⟨v, he, hv⟩ => by subst he; exact hK _ _ hv
  | halt e w' => simp only [goesUpon] at h
theorem wp_region_good {id : Nat} {Q : Exit → Act → World → Prop} {a0 : Act} {w : World} {l : List Oper} (C : Array Bool → World → Prop) (Ext : World → World → Prop) (G : Nat → Value → World → Prop) (n : Nat)
    (hm : P.follows .mixedOrders = true) (hn : a0.tmps.size = n) (hB : regB .any l.toArray n = true) (hC : C (Array.replicate l.toArray.size false) w.drew)
    (hstab : ∀ i v x y, Ext x y → G i v x → G i v y)
    (hstep : ∀ i o, l[i]? = some o → ∀ listed a x, C listed x → listed.size = l.length → listed.getD i true = false → Sees l.toArray G a0 a x o → Goes P l.toArray o a x (fun v y => C (listed.setIfInBounds i true) y ∧ Ext x y ∧ G i v y))
    (hfin : ∀ (vs : Nat → Value) listed x, C listed x → (∀ i, i < l.length → listed.getD i false = true) → (∀ i o t, l[i]? = some o → o.dst = some t → G i (vs i) x) → Q .normal (putAll a0 l 0 vs) x) : (Code.region id l.toArray true).wp P Q a0 w := by
  have main : ∀ (f : Nat) (listed : Array Bool) (a : Act) (x : World), unl l.toArray listed ≤ f → Inv l.toArray C G a0 listed a x → wpAny P .any l.toArray Q f listed a x := by
    have last : ∀ (listed : Array Bool) (a : Act) (x : World), Inv l.toArray C G a0 listed a x → Region.ready .any l.toArray listed = [] → Q .normal a x := by
      intro listed a x h hr
      have hall := all_listed hB h.ls hr
      have hvs : ∀ i o s, l[i]? = some o → o.dst = some s → (fun i => match (l[i]?).bind (·.dst) with | some t => a.tmps.getD t undef | none => undef) (0 + i) = a.tmps.getD s undef := by
        intro i o s hi hs
        simp [hi, hs]
      have hp : a = putAll a0 l 0 (fun i => match (l[i]?).bind (·.dst) with | some t => a.tmps.getD t undef | none => undef) := by
        refine act_ext (h.size.trans (putAll_size _ _ _ _).symm) (fun t ht => ?_) (h.defers.trans (putAll_defers _ _ _ _).symm)
        rw [putAll_at (fun t => a.tmps.getD t undef) t l a0 0 _ (by rw [← h.size]; exact ht) hvs]
        by_cases hno : (l.any fun o => o.dst == some t) = true
        · rw [if_pos hno]
        · rw [if_neg hno]
          refine h.old t (fun j o hj hd => ?_)
          exact absurd (List.any_eq_true.2 ⟨o, List.mem_of_getElem? (by simpa using hj), by simpa using hd⟩) hno
      rw [hp]
      refine hfin _ listed x h.cls (fun i hi => hall i (by simpa using hi)) (fun i o t hi ht => ?_)
      have hlt : i < l.toArray.size := by simpa using (List.getElem?_eq_some_iff.1 hi).1
      have := h.good i o t (by simpa using hi) ht (hall i hlt)
      simp only [hi, Option.bind_some, ht]
      exact this
    intro f
    induction f with
    | zero =>
      intro listed a x hu h
      have hr : Region.ready .any l.toArray listed = [] := by
        cases hr : Region.ready .any l.toArray listed with
        | nil => rfl
        | cons i r =>
          have := unl_set (md := .any) (ops := l.toArray) (listed := listed) (i := i) (by rw [hr]; exact List.mem_cons_self ..)
          omega
      exact ⟨hr, last listed a x h hr⟩
    | succ f ih =>
      intro listed a x hu h
      refine ⟨fun hr => last listed a x h hr, fun i hi => ?_⟩
      obtain ⟨hun, o, ho, _⟩ := mem_ready.1 hi
      have hgo := hstep i o (by simpa using ho) listed a x h.cls (by simpa using h.ls) hun (h.sees hB hi ho)
      have hlt := unl_set hi
      have hnext : ∀ v y, (C (listed.setIfInBounds i true) y ∧ Ext x y ∧ G i v y) → wpAny P .any l.toArray Q f (listed.setIfInBounds i true) (a.put o.dst v) y := fun v y ⟨h1, h2, h3⟩ =>
        ih _ _ _ (by omega) (h.next hB hn hi ho hstab h1 h2 h3)
      unfold wpOp
      simp only [ho]
      unfold Goes at hgo
      split
      · rename_i hw
        rw [if_pos hw] at hgo
        exact .inl (goes_wp hgo hnext)
      · rename_i hw
        rw [if_neg hw] at hgo
        exact hnext _ _ hgo
  refine wp_region_any hm (main _ _ _ _ ?_ ?_)
  · exact Nat.le_trans (List.countP_le_length) (by simp)
  · refine ⟨hC, rfl, rfl, by simp, fun t _ => rfl, fun j o t _ _ hl => ?_⟩
    rw [getD_replicate_false] at hl
    cases hl
/-- A condition on a value and the world. -/
abbrev Cond := Value → World → Prop
def push (d : Option Tmp) (g : Cond) (kn : List (Tmp × Cond)) : List (Tmp × Cond) := match d with
  | some t => (t, g) :: kn
  | none => kn
def look : List (Tmp × Cond) → Tmp → Option Cond
  | [], _ => none
  | p :: r, t => if p.1 = t then some p.2 else look r t
/-- What is known of the slots that an operation looks at. -/
def Knows (a0 : Act) (kn : List (Tmp × Cond)) (a : Act) (x : World) : List Tmp → Prop
  | [] => True
  | t :: r => (match look kn t with
    | some g => g (a.tmps.getD t undef) x
    | none => a.tmps.getD t undef = a0.tmps.getD t undef) ∧ Knows a0 kn a x r
/-- What stands behind the region, whatever values that meet their conditions lie in the slots. -/
def Fin (Q : Exit → Act → World → Prop) (x : World) : Act → List (Tmp × Cond) → Prop
  | a, [] => Q .normal a x
  | a, (t, g) :: r => ∀ v, g v x → Fin Q x (a.put (some t) v) r
/-- One operation after the other, in the order of the text: each is given a condition. m: the number of the one operation that may turn the class. -/
def Steps (P : Program) (ops : Array Oper) (C : Bool → World → Prop) (Ext : World → World → Prop) (a0 : Act) (m : Option Nat) (Q : Exit → Act → World → Prop) : List (Tmp × Cond) → Nat → List Oper → Prop
  | kn, _, [] => ∀ x, C m.isSome x → Fin Q x a0 kn.reverse
  | kn, k, o :: r => ∃ g : Cond, (∀ v x y, Ext x y → g v x → g v y) ∧
      (∀ s a x, C s x → (m = some k → s = false) → a.tmps.size = a0.tmps.size → Knows a0 kn a x (o.looksAt ops) → Goes P ops o a x (fun v y => C (s || m == some k) y ∧ Ext x y ∧ g v y)) ∧
      Steps P ops C Ext a0 m Q (push o.dst g kn) (k + 1) r
/-- What the first i operations have pushed. -/
def knOf : List Oper → List Cond → Nat → List (Tmp × Cond)
  | _, _, 0 => []
  | l, gs, i + 1 => match l[i]?, gs[i]? with
    | some o, some g => push o.dst g (knOf l gs i)
    | _, _ => knOf l gs i
theorem knOf_succ (l : List Oper) (gs : List Cond) (i : Nat) : knOf l gs (i + 1) = match l[i]?, gs[i]? with
    | some o, some g => push o.dst g (knOf l gs i)
    | _, _ => knOf l gs i := rfl
/-- Whether the one operation has come up. -/
def bitOf (m : Option Nat) (listed : Array Bool) : Bool := match m with
  | some k => listed.getD k false
  | none => false
theorem look_knOf {l : List Oper} {gs : List Cond} {t : Tmp} : ∀ (i : Nat) (g : Cond), look (knOf l gs i) t = some g → ∃ j o, j < i ∧ l[j]? = some o ∧ o.dst = some t ∧ gs[j]? = some g
  | 0, _, h => by simp [knOf, look] at h
  | i + 1, g, h => by
    unfold knOf at h
    cases ho : l[i]? with
    | none =>
      rw [ho] at h
      obtain ⟨j, o, hj, h1⟩ := look_knOf i g h
      exact ⟨j, o, by omega, h1⟩
    | some o =>
      cases hg : gs[i]? with
      | none =>
        rw [ho, hg] at h
        obtain ⟨j, o, hj, h1⟩ := look_knOf i g h
        exact ⟨j, o, by omega, h1⟩
      | some g' =>
        rw [ho, hg] at h
        simp only [push] at h
        cases hd : o.dst with
        | none =>
          rw [hd] at h
          obtain ⟨j, o, hj, h1⟩ := look_knOf i g h
          exact ⟨j, o, by omega, h1⟩
        | some s =>
          rw [hd] at h
          simp only [look] at h
          by_cases hs : s = t
          · rw [if_pos hs] at h
            cases h
            exact ⟨i, o, by omega, ho, by rw [hd, hs], hg⟩
          · rw [if_neg hs] at h
            obtain ⟨j, o, hj, h1⟩ := look_knOf i g h
            exact ⟨j, o, by omega, h1⟩
theorem look_knOf_none {l : List Oper} {gs : List Cond} {t : Tmp} (hl : gs.length = l.length) : ∀ (i : Nat), look (knOf l gs i) t = none → ∀ j o, j < i → l[j]? = some o → o.dst ≠ some t
  | 0, _, j, _, hj, _ => absurd hj (by omega)
  | i + 1, h, j, o, hj, ho => by
    unfold knOf at h
    by_cases hij : j = i
    · subst hij
      obtain ⟨g, hg⟩ : ∃ g, gs[j]? = some g := ⟨_, List.getElem?_eq_getElem (by rw [hl]; exact (List.getElem?_eq_some_iff.1 ho).1)⟩
      rw [ho, hg] at h
      simp only [push] at h
      cases hd : o.dst with
      | none => simp
      | some s =>
        rw [hd] at h
        simp only [look] at h
        by_cases hs : s = t
        · rw [if_pos hs] at h
          cases h
        · intro e
          exact hs (Option.some.inj e)
    · have hji : j < i := by omega
      cases ho' : l[i]? with
      | none =>
        rw [ho'] at h
        exact look_knOf_none hl i h j o hji ho
      | some o' =>
        cases hg : gs[i]? with
        | none =>
          rw [ho', hg] at h
          exact look_knOf_none hl i h j o hji ho
        | some g' =>
          rw [ho', hg] at h
          simp only [push] at h
          cases hd : o'.dst with
          | none =>
            rw [hd] at h
            exact look_knOf_none hl i h j o hji ho
          | some s =>
            rw [hd] at h
            simp only [look] at h
            by_cases hs : s = t
            · rw [if_pos hs] at h
              cases h
            · rw [if_neg hs] at h
              exact look_knOf_none hl i h j o hji ho
/-- What one operation of the list owes. -/
def Owes (P : Program) (ops : Array Oper) (C : Bool → World → Prop) (Ext : World → World → Prop) (a0 : Act) (m : Option Nat) (kn : List (Tmp × Cond)) (k : Nat) (o : Oper) (g : Cond) : Prop :=
  (∀ v x y, Ext x y → g v x → g v y) ∧ ∀ s a x, C s x → (m = some k → s = false) → a.tmps.size = a0.tmps.size → Knows a0 kn a x (o.looksAt ops) → Goes P ops o a x (fun v y => C (s || m == some k) y ∧ Ext x y ∧ g v y)
theorem knOf_append {l1 : List Oper} {gs1 : List Cond} (hl : gs1.length = l1.length) (l2 : List Oper) (gs2 : List Cond) : ∀ i, i ≤ l1.length → knOf (l1 ++ l2) (gs1 ++ gs2) i = knOf l1 gs1 i
  | 0, _ => rfl
  | i + 1, hi => by
    unfold knOf
    rw [List.getElem?_append_left (by omega), List.getElem?_append_left (by omega), knOf_append hl l2 gs2 i (by omega)]
theorem steps_open {C : Bool → World → Prop} {Ext : World → World → Prop} {a0 : Act} {m : Option Nat} {Q : Exit → Act → World → Prop} : ∀ (l2 l1 : List Oper) (gs1 : List Cond), gs1.length = l1.length →
    Steps P ops C Ext a0 m Q (knOf l1 gs1 l1.length) l1.length l2 → ∃ gs2, gs2.length = l2.length ∧ (∀ i o g, l2[i]? = some o → gs2[i]? = some g → Owes P ops C Ext a0 m (knOf (l1 ++ l2) (gs1 ++ gs2) (l1.length + i)) (l1.length + i) o g) ∧
      ∀ x, C m.isSome x → Fin Q x a0 (knOf (l1 ++ l2) (gs1 ++ gs2) (l1.length + l2.length)).reverse
  | [], l1, gs1, hl, h => ⟨[], rfl, fun i o g ho => by simp at ho, fun x hx => by
    have := h x hx
    simpa using this⟩
  | o :: r, l1, gs1, hl, h => by
    obtain ⟨g, hst, hgo, hrest⟩ := h
    have e1 : knOf (l1 ++ [o]) (gs1 ++ [g]) (l1 ++ [o]).length = push o.dst g (knOf l1 gs1 l1.length) := by
      have : (l1 ++ [o]).length = l1.length + 1 := by simp
      rw [this, knOf_succ]
      rw [List.getElem?_append_right (Nat.le_refl _), Nat.sub_self, List.getElem?_append_right (by omega), hl, Nat.sub_self]
      simp only [List.getElem?_cons_zero]
      rw [knOf_append hl [o] [g] _ (Nat.le_refl _)]
    obtain ⟨gs2, h1, h2, h3⟩ := steps_open r (l1 ++ [o]) (gs1 ++ [g]) (by simp [hl]) (by
      rw [e1]
      have : (l1 ++ [o]).length = l1.length + 1 := by simp
      rw [this]
      exact hrest)
    have e2 : (l1 ++ [o]) ++ r = l1 ++ o :: r := by simp
    have e3 : (gs1 ++ [g]) ++ gs2 = gs1 ++ g :: gs2 := by simp
    rw [e2, e3] at h2 h3
    refine ⟨g :: gs2, by simp [h1], fun i o' g' ho hg => ?_, fun x hx => ?_⟩
    · cases i with
      | zero =>
        simp only [List.getElem?_cons_zero, Option.some.injEq] at ho hg
        subst ho hg
        rw [Nat.add_zero, knOf_append hl _ _ _ (Nat.le_refl _)]
        exact ⟨hst, hgo⟩
      | succ i =>
        have := h2 i o' g' (by simpa using ho) (by simpa using hg)
        have e : (l1 ++ [o]).length + i = l1.length + (i + 1) := by simp; omega
        rw [e] at this
        exact this
    · have := h3 x hx
      have e : (l1 ++ [o]).length + r.length = l1.length + (o :: r).length := by simp; omega
      rw [e] at this
      exact this
theorem knows_of {a0 a : Act} {kn : List (Tmp × Cond)} {x : World} : ∀ ts : List Tmp, (∀ t ∈ ts, match look kn t with
    | some g => g (a.tmps.getD t undef) x
    | none => a.tmps.getD t undef = a0.tmps.getD t undef) → Knows a0 kn a x ts
  | [], _ => trivial
  | t :: r, h => ⟨h t (List.mem_cons_self ..), knows_of r fun s hs => h s (List.mem_cons_of_mem _ hs)⟩
theorem fin_use {Q : Exit → Act → World → Prop} {x : World} : ∀ (l1 l2 : List (Tmp × Cond)) (a : Act), Fin Q x a (l1 ++ l2) → Fin (fun e a' x' => Fin Q x' a' l2 ∧ e = .normal) x a l1
  | [], _, _, h => ⟨h, rfl⟩
  | (_, _) :: r, l2, _, h => fun v hv => fin_use r l2 _ (h v hv)
theorem fin_put {Q : Exit → Act → World → Prop} {x : World} {l : List Oper} {gs : List Cond} (hl : gs.length = l.length) (vs : Nat → Value) (hv : ∀ (i : Nat) (o : Oper) (t : Tmp) (g : Cond), l[i]? = some o → o.dst = some t → gs[i]? = some g → g (vs i) x) :
    ∀ (i : Nat) (a : Act), i ≤ l.length → Fin Q x a (knOf l gs i).reverse → Q .normal (putAll a (l.take i) 0 vs) x := by
  have snoc : ∀ (r : List Oper) (o : Oper) (k : Nat) (a : Act), putAll a (r ++ [o]) k vs = (putAll a r k vs).put o.dst (vs (k + r.length)) := by
    intro r
    induction r with
    | nil => intro o k a; rfl
    | cons q r ih =>
      intro o k a
      show putAll (a.put q.dst (vs k)) (r ++ [o]) (k + 1) vs = _
      rw [ih]
      show _ = (putAll (a.put q.dst (vs k)) r (k + 1) vs).put o.dst _
      congr 2
      simp only [List.length_cons]
      omega
  have run : ∀ (i : Nat) (a : Act) (Q : Exit → Act → World → Prop), i ≤ l.length → Fin Q x a (knOf l gs i).reverse → Q .normal (putAll a (l.take i) 0 vs) x := by
    intro i
    induction i with
    | zero => intro a Q _ h; exact h
    | succ i ih =>
      intro a Q hi h
      obtain ⟨o, ho⟩ : ∃ o, l[i]? = some o := ⟨_, List.getElem?_eq_getElem (by omega)⟩
      obtain ⟨g, hg⟩ : ∃ g, gs[i]? = some g := ⟨_, List.getElem?_eq_getElem (by omega)⟩
      have et : l.take (i + 1) = l.take i ++ [o] := by
        rw [List.take_add_one, ho]
        rfl
      have elen : (l.take i).length = i := by rw [List.length_take]; omega
      rw [et, snoc, elen, Nat.zero_add]
      rw [knOf_succ, ho, hg] at h
      simp only [push] at h
      cases hd : o.dst with
      | none =>
        rw [hd] at h
        exact ih a Q (by omega) h
      | some t =>
        rw [hd] at h
        simp only [List.reverse_cons] at h
        have h2 := ih a _ (by omega) (fin_use _ _ _ h)
        exact h2.1 _ (hv i o t g ho hd hg)
  exact fun i a => run i a Q
/-- **A region that draws its order, by steps in the order of the text.** -/
theorem wp_region_steps {id : Nat} {Q : Exit → Act → World → Prop} {a0 : Act} {w : World} {l : List Oper} (C : Bool → World → Prop) (Ext : World → World → Prop) (m : Option Nat) (n : Nat)
    (hm : P.follows .mixedOrders = true) (hn : a0.tmps.size = n) (hB : (regB .any l.toArray n && (match m with | some k => decide (k < l.length) | none => true)) = true) (hC : C false w.drew)
    (h : Steps P l.toArray C Ext a0 m Q [] 0 l) : (Code.region id l.toArray true).wp P Q a0 w := by
  rw [Bool.and_eq_true] at hB
  obtain ⟨hB, hmk⟩ := hB
  obtain ⟨gs, hgl, howe, hfin⟩ := steps_open (ops := l.toArray) l [] [] rfl h
  simp only [List.nil_append, List.length_nil, Nat.zero_add] at howe hfin
  refine wp_region_good (fun listed x => C (bitOf m listed) x) Ext (fun i v x => match gs[i]? with | some g => g v x | none => True) n hm hn hB ?_ ?_ ?_ ?_
  · have : bitOf m (Array.replicate l.toArray.size false) = false := by
      cases m with
      | none => rfl
      | some k => exact getD_replicate_false _ _
    rw [this]
    exact hC
  · intro i v x y hE hg
    cases hgi : gs[i]? with
    | none => trivial
    | some g =>
      rw [hgi] at hg
      obtain ⟨o, ho⟩ : ∃ o, l[i]? = some o := ⟨_, List.getElem?_eq_getElem (by rw [← hgl]; exact (List.getElem?_eq_some_iff.1 hgi).1)⟩
      exact (howe i o g ho hgi).1 v x y hE hg
  · intro i o ho listed a x hCx hls hun hs
    obtain ⟨g, hg⟩ : ∃ g, gs[i]? = some g := ⟨_, List.getElem?_eq_getElem (by rw [hgl]; exact (List.getElem?_eq_some_iff.1 ho).1)⟩
    have hoA : l.toArray[i]? = some o := by simpa using ho
    have hil : i < listed.size := by rw [hls]; exact (List.getElem?_eq_some_iff.1 ho).1
    have hgo := (howe i o g ho hg).2 _ a x hCx (fun e => by
      subst e
      exact getD_both hun) hs.1 (knows_of _ fun t ht => by
        have h1 := hs.2 t ht
        cases hlk : look (knOf l gs i) t with
        | some g' =>
          obtain ⟨j, oj, hj, hoj, hdj, hgj⟩ := look_knOf i g' hlk
          have hojA : l.toArray[j]? = some oj := by simpa using hoj
          cases hd : dstOf l.toArray t with
          | none => exact absurd hdj (dstOf_none hd j oj hojA)
          | some j' =>
            obtain ⟨oj', hoj', hdj'⟩ := dstOf_some hd
            have := ((regB_spec hB hojA).2.2 t hdj).2 j' oj' hoj' hdj'
            subst this
            rw [hd] at h1
            simp only [hgj] at h1
            exact h1
        | none =>
          have hno := look_knOf_none hgl i hlk
          cases hd : dstOf l.toArray t with
          | none =>
            rw [hd] at h1
            exact h1
          | some j =>
            exfalso
            obtain ⟨oj, hoj, hdj⟩ := dstOf_some hd
            obtain ⟨o', ho', e, he, hb, hon⟩ := Region.waitsFor_spec ((regB_spec hB hoA).2.1 t ht j oj hoj hdj)
            obtain rfl : o = o' := Option.some.inj (hoA.symm.trans ho')
            have hlt := (regB_spec hB hoA).1 e he hb
            rw [hon] at hlt
            exact hno j oj hlt (by simpa using hoj) hdj)
    have hcong : ∀ v y, (C ((bitOf m listed) || m == some i) y ∧ Ext x y ∧ g v y) → (C (bitOf m (listed.setIfInBounds i true)) y ∧ Ext x y ∧ (match gs[i]? with | some g => g v y | none => True)) := by
      intro v y ⟨h1, h2, h3⟩
      refine ⟨?_, h2, by rw [hg]; exact h3⟩
      cases m with
      | none => simpa [bitOf] using h1
      | some k =>
        by_cases hki : k = i
        · subst hki
          have e : (listed.setIfInBounds k true).getD k false = true := by simp [Array.getD_eq_getD_getElem?, hil]
          simp only [beq_self_eq_true, Bool.or_true] at h1
          show C ((listed.setIfInBounds k true).getD k false) y
          rw [e]
          exact h1
        · have e : (listed.setIfInBounds i true).getD k false = listed.getD k false := getD_set_ne false (fun e => hki e.symm)
          show C ((listed.setIfInBounds i true).getD k false) y
          rw [e]
          have : (some k == some i) = false := by simpa using hki
          rw [this, Bool.or_false] at h1
          exact h1
    unfold Goes at hgo ⊢
    split
    · rename_i hw
      rw [if_pos hw] at hgo
      revert hgo
      generalize (execOp a.eval o).run P x = r
      intro hgo
      cases r with
      | ok nx w' =>
        cases nx <;> simp only [goesUpon] at hgo ⊢
        case value u => exact hcong _ _ hgo
        case skip => exact hcong _ _ hgo
        case enter f args => exact hgo.mono fun e w'' ⟨v, he, hv⟩ => ⟨v, he, hcong _ _ hv⟩
      | halt e w' => simp only [goesUpon] at hgo
    · rename_i hw
      rw [if_neg hw] at hgo
      exact hcong _ _ hgo
  · intro vs listed x hCx hall hgv
    have hb : bitOf m listed = m.isSome := by
      cases m with
      | none => rfl
      | some k =>
        simp only [decide_eq_true_eq] at hmk
        exact hall k hmk
    rw [hb] at hCx
    have h1 := hfin x hCx
    have h2 := fin_put hgl vs (fun i o t g ho ht hg => by
      have := hgv i o t ho ht
      simp only [hg] at this
      exact this) l.length a0 (Nat.le_refl _) h1
    rw [List.take_length] at h2
    exact h2
theorem yielded_of {ops : Array Oper} {a : Act} {j : Nat} {t : Tmp} {b : Bool} (hj : (ops[j]?).bind (·.dst) = some t) (h : a.tmps.getD t undef = .bool b) : yielded ops a.tmps j = some b := by
  unfold yielded
  rw [hj]
  simp only [Option.bind_some]
  have : a.tmps[t]? = some (.bool b) := by
    rcases Nat.lt_or_ge t a.tmps.size with hlt | hge
    · simp [Array.getD_eq_getD_getElem?, hlt] at h
      simp [hlt, h]
    · simp [Array.getD_eq_getD_getElem?, Array.getElem?_eq_none hge, undef] at h
  rw [this]
def eqv (V : Value) : Cond := fun v _ => v = V
/-- An operation that turns nothing and yields this value. -/
theorem step_pure {C : Bool → World → Prop} {Ext : World → World → Prop} {a0 : Act} {m : Option Nat} {Q : Exit → Act → World → Prop} {kn : List (Tmp × Cond)} {k : Nat} {o : Oper} {r : List Oper} (hE : ∀ x, Ext x x) (hm : (m == some k) = false) (V : Value)
    (h1 : ∀ s a x, C s x → Knows a0 kn a x (o.looksAt ops) → Goes P ops o a x (fun v y => v = V ∧ y = x)) (h2 : Steps P ops C Ext a0 m Q (push o.dst (eqv V) kn) (k + 1) r) : Steps P ops C Ext a0 m Q kn k (o :: r) := by
  refine ⟨eqv V, fun _ _ _ _ h => h, fun s a x hC _ _ hk => ?_, h2⟩
  have h := h1 s a x hC hk
  have key : ∀ v y, (v = V ∧ y = x) → (C (s || m == some k) y ∧ Ext x y ∧ eqv V v y) := fun v y ⟨hv, hy⟩ => by
    subst hy
    rw [hm, Bool.or_false]
    exact ⟨hC, hE _, hv⟩
  unfold Goes at h ⊢
  split
  · rename_i hw
    rw [if_pos hw] at h
    revert h
    generalize (execOp a.eval o).run P x = q
    intro h
    cases q with
    | ok nx w' =>
      cases nx <;> simp only [goesUpon] at h ⊢
      case value u => exact key _ _ h
      case skip => exact key _ _ h
      case enter f args => exact h.mono fun e w'' ⟨v, he, hv⟩ => ⟨v, he, key _ _ hv⟩
    | halt e w' => simp only [goesUpon] at h
  · rename_i hw
    rw [if_neg hw] at h
    exact key _ _ h
theorem goes_mono {o : Oper} {a : Act} {x : World} {K K' : Value → World → Prop} (h : Goes P ops o a x K) (key : ∀ v y, K v y → K' v y) : Goes P ops o a x K' := by
  unfold Goes at h ⊢
  split
  · rename_i hw
    rw [if_pos hw] at h
    revert h
    generalize (execOp a.eval o).run P x = q
    intro h
    cases q with
    | ok nx w' =>
      cases nx <;> simp only [goesUpon] at h ⊢
      case value u => exact key _ _ h
      case skip => exact key _ _ h
      case enter f args => exact h.mono fun e w'' ⟨v, he, hv⟩ => ⟨v, he, key _ _ hv⟩
    | halt e w' => simp only [goesUpon] at h
  · rename_i hw
    rw [if_neg hw] at h
    exact key _ _ h
/-- The worlds that extend one world, and that a world extends another. -/
def BC (w : World) : Bool → World → Prop := fun _ x => Below w.heap.size w x
def BE : World → World → Prop := fun x y => Below x.heap.size x y
theorem step_eqv {w : World} {a0 : Act} {Q : Exit → Act → World → Prop} {kn : List (Tmp × Cond)} {k : Nat} {o : Oper} {r : List Oper} (V : Value)
    (h1 : ∀ a x, Below w.heap.size w x → Knows a0 kn a x (o.looksAt ops) → Goes P ops o a x (fun v y => v = V ∧ Below x.heap.size x y)) (h2 : Steps P ops (BC w) BE a0 none Q (push o.dst (eqv V) kn) (k + 1) r) : Steps P ops (BC w) BE a0 none Q kn k (o :: r) :=
  ⟨eqv V, fun _ _ _ _ h => h, fun _ a x hC _ _ hk => goes_mono (h1 a x hC hk) fun _ _ ⟨hv, hy⟩ => ⟨Below.trans hC (hy.mono hC.size), hy, hv⟩, h2⟩
theorem step_cond {w : World} {a0 : Act} {Q : Exit → Act → World → Prop} {kn : List (Tmp × Cond)} {k : Nat} {o : Oper} {r : List Oper} (g : Cond) (hst : ∀ v x y, Below x.heap.size x y → g v x → g v y)
    (h1 : ∀ a x, Below w.heap.size w x → Knows a0 kn a x (o.looksAt ops) → Goes P ops o a x (fun v y => g v y ∧ Below x.heap.size x y)) (h2 : Steps P ops (BC w) BE a0 none Q (push o.dst g kn) (k + 1) r) : Steps P ops (BC w) BE a0 none Q kn k (o :: r) :=
  ⟨g, hst, fun _ a x hC _ _ hk => goes_mono (h1 a x hC hk) fun _ _ ⟨hv, hy⟩ => ⟨Below.trans hC (hy.mono hC.size), hy, hv⟩, h2⟩
theorem wp_region_below {id : Nat} {Q : Exit → Act → World → Prop} {a0 : Act} {w : World} {l : List Oper} (n : Nat)
    (hm : P.follows .mixedOrders = true) (hn : a0.tmps.size = n) (hB : regB .any l.toArray n = true)
    (h : Steps P l.toArray (BC w) BE a0 none Q [] 0 l) : (Code.region id l.toArray true).wp P Q a0 w :=
  wp_region_steps (BC w) BE none n hm hn (by rw [hB]; rfl) (Below.refl _ _).drew h
theorem calls_eqv {f : FuncId} {args : Array Value} {x : World} {V : Value} (h : Calls P f args x fun e w' => e = .returned V ∧ Below x.heap.size x w') : Calls P f args x fun e w' => ∃ v, e = .returned v ∧ v = V ∧ Below x.heap.size x w' :=
  h.mono fun _ _ ⟨he, hb⟩ => ⟨_, he, rfl, hb⟩
theorem getD_bool {l : Array Value} {t : Nat} {b : Bool} : l[t]?.getD undef = .bool b ↔ l[t]? = some (.bool b) := by
  cases h : l[t]? with
  | none => simp [undef]
  | some v => simp
end
end Gd
end Go.Proofs.Ytdibfpjhmfkbkaa
