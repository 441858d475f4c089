/-
  The values of operators and of expressions, as the document gives them; the walk that keeps its visits in a list. Nothing of the program stands here.
-/
import Derived.Test.YtiemibngfckgdaaParSpec
import Derived.RowKit
namespace Go.Proofs.Ytiemibngfckgdaa
open Par (E)
open Go.RowKit

namespace Vl
abbrev wr64 (z : Int) : Int := wrap64 z
/-- 1 for what holds, 0 for what doesn't. -/
def tr (b : Bool) : Int := if b = true then 1 else 0
def una (op a : Int) : Option Int := if op = 4 then some (wr64 (-a)) else if op = 5 then some (tr (a == 0)) else none
def quo (a b : Int) : Int := if b = 0 then 0 else wr64 (a.tdiv b)
def rmd (a b : Int) : Int := if b = 0 then 0 else a.tmod b
def bin (op a b : Int) : Option Int :=
  if op = 6 then some (wr64 (a + b)) else if op = 7 then some (wr64 (a - b)) else if op = 8 then some (wr64 (a * b)) else if op = 9 then some (quo a b) else if op = 10 then some (rmd a b)
  else if op = 11 then some (tr (a == b)) else if op = 12 then some (tr (a != b)) else if op = 13 then some (tr (decide (a < b))) else if op = 14 then some (tr (decide (a ≤ b)))
  else if op = 15 then some (tr (decide (b < a))) else if op = 16 then some (tr (decide (b ≤ a))) else if op = 17 then some (tr (a != 0 && b != 0)) else if op = 18 then some (tr (a != 0 || b != 0))
  else none
/-- A result and whether there is one. -/
def res (r : Option Int) : Value := .tuple #[.int .i64 (r.getD 0), .bool r.isSome]
/-- What an operator makes of its operands' values. -/
def app (env : ByteArray → Option Int) (op n : Int) (nm : ByteArray) : List Int → Option Int
  | [] => if op = 1 then some n else if op = 2 then env nm else none
  | [a] => una op a
  | [a, b] => bin op a b
  | _ => none
mutual
def ev (env : ByteArray → Option Int) : E → Option Int
  | .mk op n nm l => match evL env l with
    | none => none
    | some vs => app env op n nm vs
def evL (env : ByteArray → Option Int) : List E → Option (List Int)
  | [] => some []
  | e :: r => match ev env e, evL env r with
    | some v, some vs => some (v :: vs)
    | _, _ => none
end
theorem evL_len {env : ByteArray → Option Int} : ∀ {l : List E} {vs : List Int}, evL env l = some vs → vs.length = l.length
  | [], vs, h => by
    simp only [evL, Option.some.injEq] at h
    subst h
    rfl
  | e :: r, vs, h => by
    simp only [evL] at h
    split at h
    · rename_i v us h1 h2
      simp only [Option.some.injEq] at h
      subst h
      simp [evL_len h2]
    · cases h
/-- A visit: an expression and the values of its first operands. -/
abbrev Fr := E × List Int
def frv (env : ByteArray → Option Int) : Fr → Option Int
  | (.mk op n nm l, vs) => match evL env (l.drop vs.length) with
    | none => none
    | some us => app env op n nm (vs ++ us)
/-- What the visits below make of a value: the top first. -/
def up (env : ByteArray → Option Int) : Option Int → List Fr → Option Int
  | r, [] => r
  | none, _ => none
  | some v, (t, vs) :: rest => up env (frv env (t, vs ++ [v])) rest
def run (env : ByteArray → Option Int) : List Fr → Option Int
  | [] => none
  | f :: rest => up env (frv env f) rest
theorem up_none (env : ByteArray → Option Int) : ∀ rest, up env none rest = none
  | [] => rfl
  | _ :: _ => rfl
theorem drop_cons {l : List E} {k : Nat} (h : k < l.length) : l.drop k = l[k] :: l.drop (k + 1) := List.drop_eq_getElem_cons h
/-- The next operand has a value. -/
theorem frv_next {env : ByteArray → Option Int} {op n : Int} {nm : ByteArray} {l : List E} {vs : List Int} (h : vs.length < l.length) :
    frv env (.mk op n nm l, vs) = match ev env l[vs.length] with
      | none => none
      | some v => frv env (.mk op n nm l, vs ++ [v]) := by
  simp only [frv, List.length_append, List.length_cons, List.length_nil]
  rw [drop_cons h]
  simp only [evL]
  cases h1 : ev env l[vs.length] with
  | none => rfl
  | some v =>
    show _ = match evL env (l.drop (vs.length + (0 + 1))) with | none => none | some us => app env op n nm (vs ++ [v] ++ us)
    rw [Nat.zero_add]
    cases h2 : evL env (l.drop (vs.length + 1)) with
    | none => rfl
    | some us => simp
theorem frv_all {env : ByteArray → Option Int} {op n : Int} {nm : ByteArray} {l : List E} {vs : List Int} (h : vs.length = l.length) : frv env (.mk op n nm l, vs) = app env op n nm vs := by
  simp only [frv]
  rw [h, List.drop_length]
  simp [evL]
theorem frv_new {env : ByteArray → Option Int} (e : E) : frv env (e, []) = ev env e := by
  obtain ⟨op, n, nm, l⟩ := e
  simp only [frv, List.length_nil, List.drop_zero, List.nil_append, ev]
theorem run_push {env : ByteArray → Option Int} {op n : Int} {nm : ByteArray} {l : List E} {vs : List Int} {rest : List Fr} (h : vs.length < l.length) :
    run env ((l[vs.length], []) :: (.mk op n nm l, vs) :: rest) = run env ((.mk op n nm l, vs) :: rest) := by
  simp only [run, frv_new]
  rw [frv_next h]
  cases ev env l[vs.length] with
  | none => simp only [up_none]
  | some v => rfl
theorem run_memo {env : ByteArray → Option Int} {op n : Int} {nm : ByteArray} {l : List E} {vs : List Int} {rest : List Fr} {v : Int} (h : vs.length < l.length) (hv : ev env l[vs.length] = some v) :
    run env ((.mk op n nm l, vs ++ [v]) :: rest) = run env ((.mk op n nm l, vs) :: rest) := by
  simp only [run]
  rw [frv_next h, hv]
theorem run_pop {env : ByteArray → Option Int} {op n : Int} {nm : ByteArray} {l : List E} {vs us : List Int} {rest : List Fr} {t : E} {v : Int} (h : vs.length = l.length) (hv : app env op n nm vs = some v) :
    run env ((t, us ++ [v]) :: rest) = run env ((.mk op n nm l, vs) :: (t, us) :: rest) := by
  simp only [run]
  rw [frv_all h, hv]
  rfl
theorem run_fail {env : ByteArray → Option Int} {op n : Int} {nm : ByteArray} {l : List E} {vs : List Int} {rest : List Fr} (h : vs.length = l.length) (hv : app env op n nm vs = none) :
    run env ((.mk op n nm l, vs) :: rest) = none := by
  simp only [run]
  rw [frv_all h, hv, up_none]
theorem run_one {env : ByteArray → Option Int} {op n : Int} {nm : ByteArray} {l : List E} {vs : List Int} (h : vs.length = l.length) : run env [(.mk op n nm l, vs)] = app env op n nm vs := by
  simp only [run]
  rw [frv_all h]
  rfl
theorem run_full {env : ByteArray → Option Int} {op n : Int} {nm : ByteArray} {l : List E} {vs : List Int} {rest : List Fr} (h : vs.length = 2) (hl : 2 < l.length) : run env ((.mk op n nm l, vs) :: rest) = none := by
  have : frv env (.mk op n nm l, vs) = none := by
    simp only [frv]
    cases h1 : evL env (l.drop vs.length) with
    | none => rfl
    | some us =>
      have h2 := evL_len h1
      rw [List.length_drop] at h2
      match vs, h, us, h2 with
      | [a, b], _, c :: us, _ => rfl
      | [a, b], _, [], h2 => simp at h2; omega
  simp only [run]
  rw [this, up_none]
mutual
/-- What an expression costs. -/
def K : E → Nat
  | .mk _ _ _ l => 2 + KL l
def KL : List E → Nat
  | [] => 0
  | e :: r => K e + KL r
end
theorem KL_drop {l : List E} {k : Nat} (h : k < l.length) : KL (l.drop k) = K l[k] + KL (l.drop (k + 1)) := by
  rw [drop_cons h]
  rfl
def kids : E → List E
  | .mk _ _ _ l => l
theorem K_kids (e : E) : K e = 2 + KL (kids e) := by
  obtain ⟨op, n, nm, l⟩ := e
  rfl
/-- What the top visit still costs; what one below it costs. -/
def W1 (f : Fr) : Nat := 1 + KL ((kids f.1).drop f.2.length)
def W2 (f : Fr) : Nat := 1 + KL ((kids f.1).drop (f.2.length + 1))
def meas : List Fr → Nat
  | [] => 0
  | f :: rest => W1 f + (rest.map W2).sum
theorem W1_mk (op n : Int) (nm : ByteArray) (l : List E) (vs : List Int) : W1 (.mk op n nm l, vs) = 1 + KL (l.drop vs.length) := rfl
theorem W2_mk (op n : Int) (nm : ByteArray) (l : List E) (vs : List Int) : W2 (.mk op n nm l, vs) = 1 + KL (l.drop (vs.length + 1)) := rfl
theorem W1_new (e : E) : W1 (e, []) = 1 + KL (kids e) := rfl
theorem meas_push {op n : Int} {nm : ByteArray} {l : List E} {vs : List Int} {rest : List Fr} (h : vs.length < l.length) :
    meas ((l[vs.length], []) :: (.mk op n nm l, vs) :: rest) < meas ((.mk op n nm l, vs) :: rest) := by
  simp only [meas, List.map_cons, List.sum_cons, W1_mk, W2_mk, W1_new]
  have h1 := KL_drop h
  have h2 := K_kids l[vs.length]
  omega
theorem meas_memo {op n v : Int} {nm : ByteArray} {l : List E} {vs : List Int} {rest : List Fr} (h : vs.length < l.length) :
    meas ((.mk op n nm l, vs ++ [v]) :: rest) < meas ((.mk op n nm l, vs) :: rest) := by
  simp only [meas, W1_mk, List.length_append, List.length_cons, List.length_nil, Nat.zero_add]
  have h1 := KL_drop h
  have h2 := K_kids l[vs.length]
  omega
theorem meas_pop {f : Fr} {t : E} {us : List Int} {v : Int} {rest : List Fr} : meas ((t, us ++ [v]) :: rest) < meas (f :: (t, us) :: rest) := by
  simp only [meas, W1, W2, List.length_append, List.length_cons, List.length_nil, Nat.zero_add, List.map_cons, List.sum_cons]
  omega
theorem meas_len : ∀ fs : List Fr, fs.length ≤ meas fs
  | [] => Nat.le_refl _
  | f :: rest => by
    have : rest.length ≤ (rest.map W2).sum := by
      induction rest with
      | nil => exact Nat.le_refl _
      | cons a r ih =>
        simp only [List.length_cons, List.map_cons, List.sum_cons, W2]
        omega
    simp only [List.length_cons, meas, W1]
    omega
/-- Variables replaced by their values. -/
def leafP (env : ByteArray → Option Int) (nm : ByteArray) (e : E) : E := match env nm with
  | some v => .mk 1 v ⟨#[]⟩ []
  | none => e
mutual
def putE (env : ByteArray → Option Int) : E → E
  | .mk op n nm l => if op = 2 ∧ l = [] then leafP env nm (.mk op n nm l) else .mk op n nm (putL env l)
def putL (env : ByteArray → Option Int) : List E → List E
  | [] => []
  | e :: r => putE env e :: putL env r
end
theorem putL_len (env : ByteArray → Option Int) : ∀ l : List E, (putL env l).length = l.length
  | [] => rfl
  | e :: r => by simp only [putL, List.length_cons, putL_len env r]
mutual
theorem ev_put (env : ByteArray → Option Int) : ∀ e : E, ev (fun _ => none) (putE env e) = ev env e
  | .mk op n nm l => by
    simp only [putE]
    by_cases h : op = 2 ∧ l = []
    · rw [if_pos h]
      obtain ⟨rfl, rfl⟩ := h
      unfold leafP
      cases h1 : env nm with
      | none => simp [ev, evL, app, h1]
      | some v => simp [ev, evL, app, h1]
    · rw [if_neg h]
      simp only [ev]
      rw [evL_put env l]
      cases h1 : evL env l with
      | none => rfl
      | some vs =>
        have h2 := evL_len h1
        match vs, h2 with
        | [], h2 =>
          have h3 : l = [] := by cases l with
            | nil => rfl
            | cons a r => simp at h2
          have h4 : ¬ op = 2 := fun e => h ⟨e, h3⟩
          simp only [app]
          rw [if_neg h4, if_neg h4]
        | [a], _ => rfl
        | [a, b], _ => rfl
        | a :: b :: c :: r, _ => rfl
theorem evL_put (env : ByteArray → Option Int) : ∀ l : List E, evL (fun _ => none) (putL env l) = evL env l
  | [] => rfl
  | e :: r => by
    simp only [putL, evL]
    rw [ev_put env e, evL_put env r]
end
mutual
theorem K_put (env : ByteArray → Option Int) : ∀ e : E, K (putE env e) = K e
  | .mk op n nm l => by
    simp only [putE]
    by_cases h : op = 2 ∧ l = []
    · rw [if_pos h]
      obtain ⟨rfl, rfl⟩ := h
      unfold leafP
      cases env nm <;> rfl
    · rw [if_neg h]
      simp only [K]
      rw [KL_put env l]
theorem KL_put (env : ByteArray → Option Int) : ∀ l : List E, KL (putL env l) = KL l
  | [] => rfl
  | e :: r => by
    simp only [putL, KL]
    rw [K_put env e, KL_put env r]
end
end Vl
end Go.Proofs.Ytiemibngfckgdaa
