/-
  The static rules of programs over the plain program: what package check returns. Nothing of the program stands here.
  Package check: looking for a name among declarations, threads and strings; errors.
  Package check: the library's searches, and what package check asks of them.
  Package check: the library's searches for a string and for a number; the first of some errors.
  Package check: what a name stands for, and whether that is what it must be.
  Package check: the limits of what is declared.
  Package check: the rules of declarations and of names.
-/
import Derived.Test.YtncflfadgcaldaaGreatDoorPstSpec
import Derived.Test.YtncflfadgcaldaaGreatDoorRows
import Derived.WalkKit
import Derived.Below
import Derived.Lib.Hide
import Derived.WalkSmall
import Derived.Deep.QuietTactic
import Derived.BigQuiet
import Derived.Test.YtncflfadgcaldaaGreatDoorParMem
import Derived.StillTailTactics
namespace Go.Proofs.YtncflfadgcaldaaGreatDoor
open Par Tok

namespace Ck
/-- What a name can stand for. -/
structure Sc where
  locals : List Bs
  decls : List Dc
  threads : List Th
/-- 2 scalar, 3 array, 4 mutex, 5 lock, 6 condition, 7 future, 9 none of them. -/
def meanD (d : Dc) : Nat := if d.kind = 1 then (if d.size = 0 then 2 else 3) else if d.kind = 2 then 2 else if d.kind = 3 then 4 else if d.kind = 4 then 5 else if d.kind = 5 then 6 else if d.kind = 6 then 7 else 9
/-- The index of the first element, from k on; -1 if there is none. -/
def idx {α : Type} (p : α → Bool) : List α → Nat → Int
  | [], _ => -1
  | x :: r, k => if p x = true then (k : Int) else idx p r (k + 1)
def idxD (ds : List Dc) (nm : Bs) : Int := idx (fun d => d.name == nm) ds 0
def idxT (ts : List Th) (nm : Bs) : Int := idx (fun t => t.name == nm) ts 0
theorem idx_none {α : Type} {p : α → Bool} : ∀ (l : List α) (k : Nat), (∀ x ∈ l, p x = false) → idx p l k = -1
  | [], _, _ => rfl
  | x :: r, k, h => by
    simp only [idx]
    rw [if_neg (by rw [h x (List.mem_cons_self ..)]; decide), idx_none r (k + 1) (fun y hy => h y (List.mem_cons_of_mem _ hy))]
theorem idx_hit {α : Type} {p : α → Bool} : ∀ (l : List α) (k j : Nat) (h : j < l.length), (∀ i (hi : i < j), p l[i] = false) → p l[j] = true → idx p l k = ((k + j : Nat) : Int)
  | [], _, j, h, _, _ => absurd h (by simp)
  | x :: r, k, 0, _, _, hj => by
    have hj : p x = true := hj
    simp only [idx, if_pos hj, Nat.add_zero]
  | x :: r, k, j + 1, h, hi, hj => by
    have h0 : p x = false := hi 0 (by omega)
    simp only [idx]
    rw [if_neg (by rw [h0]; decide), idx_hit r (k + 1) j (by simpa using h) (fun i hij => hi (i + 1) (by omega)) hj]
    congr 1
    omega
theorem idx_cases {α : Type} (p : α → Bool) : ∀ (l : List α) (k : Nat), (idx p l k = -1 ∧ ∀ x ∈ l, p x = false) ∨ ∃ j, ∃ h : j < l.length, idx p l k = ((k + j : Nat) : Int) ∧ p l[j] = true ∧ ∀ i (hi : i < j), p l[i] = false
  | [], _ => .inl ⟨rfl, fun _ h => nomatch h⟩
  | x :: r, k => by
    by_cases hx : p x = true
    · exact .inr ⟨0, by simp, by simp only [idx, if_pos hx, Nat.add_zero], hx, fun i hi => absurd hi (by omega)⟩
    · have hf : p x = false := by simpa using hx
      rcases idx_cases p r (k + 1) with ⟨h1, h2⟩ | ⟨j, hj, h1, h2, h3⟩
      · refine .inl ⟨by simp only [idx, if_neg hx]; exact h1, fun y hy => ?_⟩
        rcases List.mem_cons.1 hy with rfl | hy
        · exact hf
        · exact h2 y hy
      · refine .inr ⟨j + 1, by simpa using hj, ?_, h2, fun i hi => ?_⟩
        · simp only [idx, if_neg hx]
          rw [h1]
          congr 1
          omega
        · match i, hi with
          | 0, _ => exact hf
          | i + 1, hi => exact h3 i (by omega)
/-- What a name stands for: 0 nothing, 1 a local, 8 a thread. -/
def mean (s : Sc) (nm : Bs) : Nat := if s.locals.contains nm = true then 1 else match s.decls.find? (fun d => d.name == nm) with
  | some d => meanD d
  | none => if s.threads.any (fun t => t.name == nm) = true then 8 else 0
def errIf (b : Bool) (e : Nat) : Nat := if b = true then e else 0
def firstE : List Nat → Nat
  | [] => 0
  | e :: r => if e = 0 then firstE r else e
/-- The error of a name that must have one of some meanings. -/
def kindE (s : Sc) (nm : Bs) (asked : List Nat) : Nat := firstE [errIf (mean s nm == 0) 5, errIf (!asked.contains (mean s nm)) 6]
mutual
/-- Whether an expression keeps the limits, and how many nodes were counted. -/
def smallE : E → Nat → Nat → Bool × Nat
  | .mk _ _ _ l, d, n => if 24 < n + 1 ∨ 6 < d then (false, n + 1) else smallL l (d + 1) (n + 1)
def smallL : List E → Nat → Nat → Bool × Nat
  | [], _, n => (true, n)
  | e :: r, d, n => if (smallE e d n).1 = true then smallL r d (smallE e d n).2 else smallE e d n
end
mutual
def namesE (s : Sc) : E → Nat
  | .mk op _ nm l => if (if op = 2 then kindE s nm.data.toList [1, 2] else if op = 3 then kindE s nm.data.toList [3] else 0) = 0 then namesL s l else (if op = 2 then kindE s nm.data.toList [1, 2] else if op = 3 then kindE s nm.data.toList [3] else 0)
def namesL (s : Sc) : List E → Nat
  | [] => 0
  | e :: r => if namesE s e = 0 then namesL s r else namesE s e
end
def exprE (s : Sc) (e : E) : Nat := if (smallE e 1 0).1 = true then namesE s e else 2
abbrev Ar := List (Int × Bs)
def inside (ar : Ar) (ks : List Int) : Bool := ar.any fun p => ks.contains p.1
def insideOf (ar : Ar) (nm : Bs) (ks : List Int) : Bool := ar.any fun p => p.2 == nm && ks.contains p.1
def nest (b : Bool) : Nat := errIf b 7
def assignE (s : Sc) (name : Bs) (ix : List E) (ex : E) : Nat := match ix with
  | [] => firstE [kindE s name [1, 2], exprE s ex]
  | i :: _ => firstE [kindE s name [3], exprE s i, exprE s ex]
def onOf (s : Sc) (name : Bs) : Bs := match s.decls.find? (fun d => d.name == name) with
  | some d => d.on
  | none => []
def signalE (s : Sc) (ar : Ar) (op : Int) (name : Bs) : Nat :=
  if kindE s name [6] = 0 then nest (inside ar [7] || !insideOf ar (onOf s name) [4] || (op == 9 && inside ar [8])) else kindE s name [6]
def head0 (s : Sc) : Bs := match s.threads with
  | [] => []
  | t :: _ => t.name
def controlE (s : Sc) (own : Bs) (ar : Ar) (dn : List Bs) (op : Int) (name : Bs) : Nat × List Bs :=
  if firstE [kindE s name [8], nest (inside ar [7, 8] || name == own)] = 0 ∧ op ≠ 13 then (firstE [nest (inside ar [3] || name == head0 s), errIf (dn.contains name) 8], name :: dn)
  else (firstE [kindE s name [8], nest (inside ar [7, 8] || name == own)], dn)
def settingE (s : Sc) (ar : Ar) (dn : List Bs) (name : Bs) (ex : E) : Nat × List Bs :=
  if firstE [kindE s name [7], nest (inside ar [7, 3])] = 0 then (firstE [errIf (dn.contains name) 8, exprE s ex], name :: dn)
  else (firstE [kindE s name [7], nest (inside ar [7, 3])], dn)
/-- The error of a statement apart from those inside it, and what has been done. -/
def stmtE (s : Sc) (own : Bs) (ar : Ar) (dn : List Bs) : Sm → Nat × List Bs
  | .mk op _ name arg ix ex _ _ =>
    if 6 ≤ ar.length then (2, dn) else
    if op = 1 then (assignE s name ix ex, dn) else if op = 2 ∨ op = 3 then (exprE s ex, dn)
    else if op = 4 then (firstE [kindE s name [4], nest (inside ar [7] || insideOf ar name [4])], dn)
    else if op = 5 ∨ op = 6 then (firstE [kindE s name [5], nest (inside ar [7] || insideOf ar name [5, 6])], dn)
    else if op = 7 then (nest (inside ar [7]), dn) else if op = 8 then (nest (inside ar [7, 8]), dn)
    else if op = 9 ∨ op = 10 ∨ op = 11 then (signalE s ar op name, dn)
    else if op = 12 ∨ op = 13 then controlE s own ar dn op name
    else if op = 14 then settingE s ar dn name ex
    else if op = 15 then (firstE [kindE s name [1], kindE s arg [7], nest (inside ar [7])], dn)
    else (0, dn)
mutual
def visitS (s : Sc) (own : Bs) : Ar → List Bs → Sm → (Nat × Nat) × List Bs
  | ar, dn, .mk op line name arg ix ex body els =>
    if (stmtE s own ar dn (.mk op line name arg ix ex body els)).1 = 0 then
      if (visitL s own (ar ++ [((op : Int), name)]) (stmtE s own ar dn (.mk op line name arg ix ex body els)).2 body).1.1 = 0 then
        visitL s own (ar ++ [((op : Int), name)]) (visitL s own (ar ++ [((op : Int), name)]) (stmtE s own ar dn (.mk op line name arg ix ex body els)).2 body).2 els
      else visitL s own (ar ++ [((op : Int), name)]) (stmtE s own ar dn (.mk op line name arg ix ex body els)).2 body
    else (((stmtE s own ar dn (.mk op line name arg ix ex body els)).1, line), (stmtE s own ar dn (.mk op line name arg ix ex body els)).2)
def visitL (s : Sc) (own : Bs) : Ar → List Bs → List Sm → (Nat × Nat) × List Bs
  | _, dn, [] => ((0, 0), dn)
  | ar, dn, x :: r => if (visitS s own ar dn x).1.1 = 0 then visitL s own ar (visitS s own ar dn x).2 r else visitS s own ar dn x
end
mutual
/-- The statements and those inside them, counted up to the limit. -/
def countS : Sm → Nat → Nat
  | .mk _ _ _ _ _ _ body els, c => countL els (countL body (c + 1))
def countL : List Sm → Nat → Nat
  | [], c => c
  | x :: r, c => if c ≤ 60 then countL r (countS x c) else c
end
/-- Cells, locks, conditions, futures. -/
abbrev Tot := Nat × Nat × Nat × Nat
def addT (t : Tot) (d : Dc) : Tot := if meanD d = 2 then (t.1 + 1, t.2) else if meanD d = 3 then (t.1 + d.size, t.2) else if meanD d = 4 ∨ meanD d = 5 then (t.1, t.2.1 + 1, t.2.2) else if meanD d = 6 then (t.1, t.2.1, t.2.2.1 + 1, t.2.2.2) else if meanD d = 7 then (t.1, t.2.1, t.2.2.1, t.2.2.2 + 1) else t
def tooT (t : Tot) : Bool := decide (12 < t.1) || decide (4 < t.2.1) || decide (2 < t.2.2.1) || decide (2 < t.2.2.2)
def declE (d : Dc) (earlier : List Dc) (t : Tot) : Nat × Tot :=
  if 0 ≤ idxD earlier d.name then (4, t) else if 4 < d.size then (2, t) else if tooT (addT t d) = true then (2, addT t d)
  else if d.kind = 5 then (kindE ⟨[], earlier, []⟩ d.on [4], addT t d) else (0, addT t d)
def declsE : List Dc → List Dc → Tot → Nat × Nat
  | _, [], _ => (0, 0)
  | earlier, d :: r, t => if (declE d earlier t).1 = 0 then declsE (earlier ++ [d]) r (declE d earlier t).2 else ((declE d earlier t).1, d.line)
def namesT (ds : List Dc) : List Th → List Th → Nat × Nat
  | _, [] => (0, 0)
  | earlier, t :: r => if 0 ≤ idxD ds t.name ∨ 0 ≤ idxT earlier t.name then (4, t.line) else namesT ds (earlier ++ [t]) r
def localsL (ds : List Dc) (ts : List Th) : List Bs → List Bs → Bool
  | _, [] => false
  | earlier, n :: r => if 0 ≤ idxD ds n ∨ 0 ≤ idxT ts n ∨ earlier.contains n = true then true else localsL ds ts (earlier ++ [n]) r
def localsE (ds : List Dc) (ts : List Th) : List Th → Nat × Nat
  | [] => (0, 0)
  | t :: r => if 4 < t.locals.length then (2, t.line) else if localsL ds ts [] t.locals = true then (4, t.line) else localsE ds ts r
def countP : List Th → Nat → Nat
  | [], c => c
  | t :: r, c => countP r (countL t.body c)
def stmtsE (ds : List Dc) (ts : List Th) : List Th → List Bs → Nat × Nat
  | [], _ => (0, 0)
  | t :: r, dn => if (visitL ⟨t.locals, ds, ts⟩ t.name [] dn t.body).1.1 = 0 then stmtsE ds ts r (visitL ⟨t.locals, ds, ts⟩ t.name [] dn t.body).2 else (visitL ⟨t.locals, ds, ts⟩ t.name [] dn t.body).1
def orE (a b : Nat × Nat) : Nat × Nat := if a.1 = 0 then b else a
/-- The first error of a shaped program, and its line. -/
def progE (p : Pg) : Nat × Nat :=
  orE (declsE [] p.decls (0, 0, 0, 0)) <| orE (errIf (decide (4 < p.threads.length)) 2, 0) <| orE (namesT p.decls [] p.threads) <| orE (localsE p.decls p.threads p.threads) <|
  orE (errIf (decide (60 < countP p.threads 0)) 2, 0) <| orE (stmtsE p.decls p.threads p.threads []) (0, 0)
end Ck
end Go.Proofs.YtncflfadgcaldaaGreatDoor

namespace Go.Proofs.YtncflfadgcaldaaGreatDoor
open Go.RowKit
open Par Tok

namespace Ck

theorem str_yes {x y : ByteArray} {a b : Bs} (hx : x.data.toList = a) (hy : y.data.toList = b) (h : (a == b) = true) : (x.toList == y.toList) = true := by
  rw [ByteArray.toList_eq, ByteArray.toList_eq, hx, hy]
  exact h
theorem str_no {x y : ByteArray} {a b : Bs} (hx : x.data.toList = a) (hy : y.data.toList = b) (h : (a == b) = false) : (x.toList == y.toList) = false := by
  rw [ByteArray.toList_eq, ByteArray.toList_eq, hx, hy]
  exact h

set_option maxHeartbeats 1000000 in
set_option maxRecDepth 100000 in
theorem declClo_any (w : World) (k l z i : Int) (n o s : ByteArray) (B : Nat) (hB : w.cell? ⟨B, 0, none⟩ = some (.string s)) (r : Bool) (hr : (n.toList == s.toList) = r) :
    Calls Tryz.prog 77 #[.agg #[.int .i64 k, .int .i64 l, .string n, .int .i64 z, .int .i64 i, .string o], .pointer (some ⟨B, 0, none⟩)] w fun e w' => e = .returned (.bool r) ∧ Below w.heap.size w w' := by
  have hB2 : ∀ ob : Obj, (w.alloc ob).cell? ⟨B, 0, none⟩ = some (.string s) := fun ob => (((Below.refl w.heap.size w).alloc (Nat.le_refl _) ob).cell (p := ⟨B, 0, none⟩) (block_lt_of_cell hB)).trans hB
  cases r
  all_goals
    go_enter Tryz.func77, Tryz.ntmps77
    go_wp2_with fail
    go_ret
    exact ⟨rfl, (Below.refl _ _).alloc (Nat.le_refl _) _⟩
set_option maxHeartbeats 1000000 in
set_option maxRecDepth 100000 in
theorem threadClo_any (w : World) (l : Int) (v2 v3 : Value) (n s : ByteArray) (B : Nat) (hB : w.cell? ⟨B, 0, none⟩ = some (.string s)) (r : Bool) (hr : (n.toList == s.toList) = r) :
    Calls Tryz.prog 79 #[.agg #[.string n, .int .i64 l, v2, v3], .pointer (some ⟨B, 0, none⟩)] w fun e w' => e = .returned (.bool r) ∧ Below w.heap.size w w' := by
  have hB2 : ∀ ob : Obj, (w.alloc ob).cell? ⟨B, 0, none⟩ = some (.string s) := fun ob => (((Below.refl w.heap.size w).alloc (Nat.le_refl _) ob).cell (p := ⟨B, 0, none⟩) (block_lt_of_cell hB)).trans hB
  cases r
  all_goals
    go_enter Tryz.func79, Tryz.ntmps79
    go_wp2_with fail
    go_ret
    exact ⟨rfl, (Below.refl _ _).alloc (Nat.le_refl _) _⟩
set_option maxHeartbeats 1000000 in
set_option maxRecDepth 100000 in
theorem errorIf_any (w : World) (b : Bool) (e : Nat) : Calls Tryz.prog 43 #[.bool b, .int .i64 e] w fun x w' => x = .returned (.int .i64 (Ck.errIf b e : Nat)) ∧ w' = w := by
  cases b
  all_goals
    go_enter Tryz.func43, Tryz.ntmps43
    go_wp2_with fail
    go_ret
    exact ⟨rfl, rfl⟩
theorem nesting_any (w : World) (b : Bool) : Calls Tryz.prog 136 #[.bool b] w fun x w' => x = .returned (.int .i64 (Ck.nest b : Nat)) ∧ w' = w := by
  go_enter Tryz.func136, Tryz.ntmps136
  go_wp2_with (go_at_call 43; refine (errorIf_any _ _ 7).mono ?_; rintro e w' ⟨rfl, rfl⟩)
  go_ret
  exact ⟨rfl, rfl⟩
set_option maxHeartbeats 2000000 in
set_option maxRecDepth 100000 in
theorem meaningOf_any (w : World) (d : Dc) : Calls Tryz.prog 103 #[.agg #[.int .i64 d.kind, .int .i64 d.line, .string ⟨d.name.toArray⟩, .int .i64 d.size, .int .i64 d.init, .string ⟨d.on.toArray⟩]] w fun x w' => x = .returned (.int .i64 (Ck.meanD d : Nat)) ∧ Below w.heap.size w w' := by
  obtain ⟨k, l, n, z, i, o⟩ := d
  simp only
  by_cases h1 : k = 1
  · subst h1
    by_cases hz : z = 0
    · subst hz
      go_enter Tryz.func103, Tryz.ntmps103
      go_wp2_with fail
      go_ret
      exact ⟨rfl, (Below.refl _ _).alloc (Nat.le_refl _) _⟩
    · have hm : Ck.meanD ⟨1, l, n, z, i, o⟩ = 3 := by simp [Ck.meanD, hz]
      have hz2 : ¬ (z : Int) = 0 := by omega
      rw [hm]
      go_enter Tryz.func103, Tryz.ntmps103
      go_wp2_with fail
      go_ret
      exact ⟨rfl, (Below.refl _ _).alloc (Nat.le_refl _) _⟩
  · rcases (show k = 2 ∨ k = 3 ∨ k = 4 ∨ k = 5 ∨ k = 6 ∨ (¬ k = 2 ∧ ¬ k = 3 ∧ ¬ k = 4 ∧ ¬ k = 5 ∧ ¬ k = 6) by omega) with rfl | rfl | rfl | rfl | rfl | ⟨h2, h3, h4, h5, h6⟩
    case inr.inr.inr.inr.inr =>
      have hm : Ck.meanD ⟨k, l, n, z, i, o⟩ = 9 := by simp [Ck.meanD, h1, h2, h3, h4, h5, h6]
      have g1 : ¬ (k : Int) = 1 := by omega
      have g2 : ¬ (k : Int) = 2 := by omega
      have g3 : ¬ (k : Int) = 3 := by omega
      have g4 : ¬ (k : Int) = 4 := by omega
      have g5 : ¬ (k : Int) = 5 := by omega
      have g6 : ¬ (k : Int) = 6 := by omega
      rw [hm]
      go_enter Tryz.func103, Tryz.ntmps103
      go_wp2_with fail
      go_ret
      exact ⟨rfl, (Below.refl _ _).alloc (Nat.le_refl _) _⟩
    all_goals
      go_enter Tryz.func103, Tryz.ntmps103
      go_wp2_with fail
      go_ret
      exact ⟨rfl, (Below.refl _ _).alloc (Nat.le_refl _) _⟩
end Ck
end Go.Proofs.YtncflfadgcaldaaGreatDoor

namespace Go.Proofs.YtncflfadgcaldaaGreatDoor
open Go.RowKit
open Par Tok

namespace Ck

/-- The value is a slice of these declarations. -/
def DsAt (w : World) (v : Value) (ds : List Dc) : Prop := ∃ A cap, v = .slice A ds.length cap ∧ ds.length ≤ cap ∧ ∀ k (h : k < ds.length), ∃ g, A = some ⟨g, 0, none⟩ ∧ g < w.heap.size ∧ w.cell? ⟨g, k * 6, none⟩ = some (.int .i64 ds[k].kind) ∧ w.cell? ⟨g, k * 6 + 1, none⟩ = some (.int .i64 ds[k].line) ∧
  w.cell? ⟨g, k * 6 + 2, none⟩ = some (.string ⟨ds[k].name.toArray⟩) ∧ w.cell? ⟨g, k * 6 + 3, none⟩ = some (.int .i64 ds[k].size) ∧ w.cell? ⟨g, k * 6 + 4, none⟩ = some (.int .i64 ds[k].init) ∧ w.cell? ⟨g, k * 6 + 5, none⟩ = some (.string ⟨ds[k].on.toArray⟩)
theorem DsAt.below {w w' : World} {v : Value} {ds : List Dc} (h : DsAt w v ds) (b : Below w.heap.size w w') : DsAt w' v ds := by
  obtain ⟨A, cap, hv, hcp, hc⟩ := h
  refine ⟨A, cap, hv, hcp, fun k hk => ?_⟩
  obtain ⟨g, ha, hg, h0, h1, h2, h3, h4, h5⟩ := hc k hk
  exact ⟨g, ha, Nat.lt_of_lt_of_le hg b.size, (b.cell (p := ⟨g, k * 6, none⟩) hg).trans h0, (b.cell (p := ⟨g, k * 6 + 1, none⟩) hg).trans h1, (b.cell (p := ⟨g, k * 6 + 2, none⟩) hg).trans h2, (b.cell (p := ⟨g, k * 6 + 3, none⟩) hg).trans h3, (b.cell (p := ⟨g, k * 6 + 4, none⟩) hg).trans h4, (b.cell (p := ⟨g, k * 6 + 5, none⟩) hg).trans h5⟩
/-- The value is a slice of threads with these names. -/
def TsAt (w : World) (v : Value) (ts : List Th) : Prop := ∃ A cap, v = .slice A ts.length cap ∧ ts.length ≤ cap ∧ ∀ k (h : k < ts.length), ∃ g a2 l2 c2 a3 l3 c3, A = some ⟨g, 0, none⟩ ∧ g < w.heap.size ∧ w.cell? ⟨g, k * 4, none⟩ = some (.string ⟨ts[k].name.toArray⟩) ∧ w.cell? ⟨g, k * 4 + 1, none⟩ = some (.int .i64 ts[k].line) ∧
  w.cell? ⟨g, k * 4 + 2, none⟩ = some (.slice a2 l2 c2) ∧ w.cell? ⟨g, k * 4 + 3, none⟩ = some (.slice a3 l3 c3)
theorem TsAt.below {w w' : World} {v : Value} {ts : List Th} (h : TsAt w v ts) (b : Below w.heap.size w w') : TsAt w' v ts := by
  obtain ⟨A, cap, hv, hcp, hc⟩ := h
  refine ⟨A, cap, hv, hcp, fun k hk => ?_⟩
  obtain ⟨g, a2, l2, c2, a3, l3, c3, ha, hg, h0, h1, h2, h3⟩ := hc k hk
  exact ⟨g, a2, l2, c2, a3, l3, c3, ha, Nat.lt_of_lt_of_le hg b.size, (b.cell (p := ⟨g, k * 4, none⟩) hg).trans h0, (b.cell (p := ⟨g, k * 4 + 1, none⟩) hg).trans h1, (b.cell (p := ⟨g, k * 4 + 2, none⟩) hg).trans h2, (b.cell (p := ⟨g, k * 4 + 3, none⟩) hg).trans h3⟩
/-- The value is a slice of these names. -/
def NsAt (w : World) (v : Value) (ns : List Bs) : Prop := ∃ A cap, v = .slice A ns.length cap ∧ ns.length ≤ cap ∧ ∀ k (h : k < ns.length), ∃ g, A = some ⟨g, 0, none⟩ ∧ g < w.heap.size ∧ w.cell? ⟨g, k, none⟩ = some (.string ⟨ns[k].toArray⟩)
theorem NsAt.below {w w' : World} {v : Value} {ns : List Bs} (h : NsAt w v ns) (b : Below w.heap.size w w') : NsAt w' v ns := by
  obtain ⟨A, cap, hv, hcp, hc⟩ := h
  refine ⟨A, cap, hv, hcp, fun k hk => ?_⟩
  obtain ⟨g, ha, hg, h0⟩ := hc k hk
  exact ⟨g, ha, Nat.lt_of_lt_of_le hg b.size, (b.cell (p := ⟨g, k, none⟩) hg).trans h0⟩
/-- The value is a slice of these numbers. -/
def ZsAt (w : World) (v : Value) (zs : List Int) : Prop := ∃ A cap, v = .slice A zs.length cap ∧ ∀ k (h : k < zs.length), ∃ g, A = some ⟨g, 0, none⟩ ∧ g < w.heap.size ∧ w.cell? ⟨g, k, none⟩ = some (.int .i64 zs[k])
theorem ZsAt.below {w w' : World} {v : Value} {zs : List Int} (h : ZsAt w v zs) (b : Below w.heap.size w w') : ZsAt w' v zs := by
  obtain ⟨A, cap, hv, hc⟩ := h
  refine ⟨A, cap, hv, fun k hk => ?_⟩
  obtain ⟨g, ha, hg, h0⟩ := hc k hk
  exact ⟨g, ha, Nat.lt_of_lt_of_le hg b.size, (b.cell (p := ⟨g, k, none⟩) hg).trans h0⟩
theorem contains_idx {α : Type} [BEq α] [LawfulBEq α] (l : List α) (x : α) : decide (0 ≤ idx (fun y => x == y) l 0) = l.contains x := by
  rcases idx_cases (fun y => x == y) l 0 with ⟨h1, h2⟩ | ⟨j, hj, h1, h2, _⟩
  · rw [h1]
    have : l.contains x = false := by
      rw [List.contains_eq_any_beq, List.any_eq_false]
      intro y hy
      simpa using h2 y hy
    rw [this]
    rfl
  · rw [h1]
    have : l.contains x = true := by
      rw [List.contains_eq_any_beq, List.any_eq_true]
      exact ⟨_, List.getElem_mem hj, h2⟩
    rw [this]
    simp

set_option maxHeartbeats 2000000 in
set_option maxRecDepth 100000 in
theorem idxFuncD_any (w : World) (v : Value) (ds : List Dc) (B : Nat) (s : ByteArray) (hv : DsAt w v ds) (hB : w.cell? ⟨B, 0, none⟩ = some (.string s)) (hl : ds.length ≤ 100000) :
    Calls Tryz.prog 76 #[v, .func (.func 77) #[] #[.pointer (some ⟨B, 0, none⟩)]] w fun x w' => x = .returned (.int .i64 (idxD ds s.data.toList)) ∧ Below w.heap.size w w' := by
  obtain ⟨A, cap, rfl, hcp, hc⟩ := hv
  have HC := Lib.hid hc
  have HBB := Lib.hid hB
  have hBl : B < w.heap.size := block_lt_of_cell hB
  obtain ⟨n, hn⟩ : ∃ n, n = ds.length := ⟨_, rfl⟩
  have HN := Lib.hid hn
  rw [← hn] at hl ⊢
  clear hc hn hB
  go_enter Tryz.func76, Tryz.ntmps76
  go_wp2_with fail
  go_loopw [8] (fun i wr => ∃ k : Nat, k ≤ n ∧ i = .int .i64 k ∧ Below w.heap.size w wr ∧ ∀ j (h : j < ds.length), j < k → (ds[j].name == s.data.toList) = false) (fun i _ => n - (intOf i).toNat)
  case atStart => exact ⟨0, by omega, by first | rfl | trivial, Below.refl _ _, fun j _ h => absurd h (by omega)⟩
  case round =>
    obtain ⟨k, hk, rfl, hbel, hne⟩ := hrel
    have HB := Lib.hid hbel
    have HNE := Lib.hid hne
    by_cases hkn : k < n
    · have hkd : k < ds.length := by rw [← HN.out]; exact hkn
      have hkni : (k : Int) < (n : Int) := by omega
      obtain ⟨g, rfl, hg, q0, q1, q2, q3, q4, q5⟩ := HC.out k hkd
      have e0 := (hbel.cell (p := ⟨g, k * 6, none⟩) hg).trans q0
      have e1 := (hbel.cell (p := ⟨g, k * 6 + 1, none⟩) hg).trans q1
      have e2 := (hbel.cell (p := ⟨g, k * 6 + 2, none⟩) hg).trans q2
      have e3 := (hbel.cell (p := ⟨g, k * 6 + 3, none⟩) hg).trans q3
      have e4 := (hbel.cell (p := ⟨g, k * 6 + 4, none⟩) hg).trans q4
      have e5 := (hbel.cell (p := ⟨g, k * 6 + 5, none⟩) hg).trans q5
      clear q0 q1 q2 q3 q4 q5
      obtain ⟨r, hr⟩ : ∃ r, r = (ds[k].name == s.data.toList) := ⟨_, rfl⟩
      obtain ⟨x, hx⟩ : ∃ x : ByteArray, x = ⟨ds[k].name.toArray⟩ := ⟨_, rfl⟩
      have hcmp : (x.toList == s.toList) = r := by
        cases hh : r with
        | true => exact str_yes (by rw [hx]) rfl (hr.symm.trans hh)
        | false => exact str_no (by rw [hx]) rfl (hr.symm.trans hh)
      have HR := Lib.hid hr
      rw [← hx] at e2
      have CC := Lib.hid (declClo_any wr ds[k].kind ds[k].line ds[k].size ds[k].init x ⟨ds[k].on.toArray⟩ s B ((hbel.cell (p := ⟨B, 0, none⟩) hBl).trans HBB.out) r hcmp)
      clear hx
      cases r
      · have HNE2 : Hid (∀ j (h : j < ds.length), j < k + 1 → (ds[j].name == s.data.toList) = false) := Lib.hid (fun j h hj => by
          by_cases e : j = k
          · subst e
            exact hr.symm
          · exact hne j h (by omega))
        clear hbel hne hr hcmp
        go_wp2_with (go_at_call 77; refine CC.out.mono ?_; rintro e w2 ⟨rfl, hb2⟩)
        go_roundw
        case rel => exact ⟨k + 1, by omega, by go_num, HB.out.trans (hb2.mono HB.out.size), HNE2.out⟩
        case measure => simp [intOf]; omega
      · have HI := Lib.hid (show idxD ds s.data.toList = (k : Int) by
          unfold idxD
          rw [idx_hit ds 0 k hkd (fun i hi => hne i (by omega) hi) hr.symm]
          omega)
        clear hbel hne hr hcmp
        go_wp2_with (go_at_call 77; refine CC.out.mono ?_; rintro e w2 ⟨rfl, hb2⟩)
        go_ret
        exact ⟨by rw [HI.out]; rfl, HB.out.trans (hb2.mono HB.out.size)⟩
    · have hke : k = n := by omega
      subst hke
      have HI := Lib.hid (show idxD ds s.data.toList = -1 by
        unfold idxD
        refine idx_none ds 0 (fun d hd => ?_)
        obtain ⟨j, hj, rfl⟩ := List.getElem_of_mem hd
        exact hne j hj (by rw [HN.out]; exact hj))
      clear hbel hne
      go_wp2_with fail
      go_ret
      exact ⟨by rw [HI.out]; rfl, HB.out⟩

set_option maxHeartbeats 2000000 in
set_option maxRecDepth 100000 in
theorem idxFuncT_any (w : World) (v : Value) (ds : List Th) (B : Nat) (s : ByteArray) (hv : TsAt w v ds) (hB : w.cell? ⟨B, 0, none⟩ = some (.string s)) (hl : ds.length ≤ 100000) :
    Calls Tryz.prog 78 #[v, .func (.func 79) #[] #[.pointer (some ⟨B, 0, none⟩)]] w fun x w' => x = .returned (.int .i64 (idxT ds s.data.toList)) ∧ Below w.heap.size w w' := by
  obtain ⟨A, cap, rfl, hcp, hc⟩ := hv
  have HC := Lib.hid hc
  have HBB := Lib.hid hB
  have hBl : B < w.heap.size := block_lt_of_cell hB
  obtain ⟨n, hn⟩ : ∃ n, n = ds.length := ⟨_, rfl⟩
  have HN := Lib.hid hn
  rw [← hn] at hl ⊢
  clear hc hn hB
  go_enter Tryz.func78, Tryz.ntmps78
  go_wp2_with fail
  go_loopw [8] (fun i wr => ∃ k : Nat, k ≤ n ∧ i = .int .i64 k ∧ Below w.heap.size w wr ∧ ∀ j (h : j < ds.length), j < k → (ds[j].name == s.data.toList) = false) (fun i _ => n - (intOf i).toNat)
  case atStart => exact ⟨0, by omega, by first | rfl | trivial, Below.refl _ _, fun j _ h => absurd h (by omega)⟩
  case round =>
    obtain ⟨k, hk, rfl, hbel, hne⟩ := hrel
    have HB := Lib.hid hbel
    have HNE := Lib.hid hne
    by_cases hkn : k < n
    · have hkd : k < ds.length := by rw [← HN.out]; exact hkn
      have hkni : (k : Int) < (n : Int) := by omega
      obtain ⟨g, a2, l2, c2, a3, l3, c3, rfl, hg, q0, q1, q2, q3⟩ := HC.out k hkd
      have e0 := (hbel.cell (p := ⟨g, k * 4, none⟩) hg).trans q0
      have e1 := (hbel.cell (p := ⟨g, k * 4 + 1, none⟩) hg).trans q1
      have e2 := (hbel.cell (p := ⟨g, k * 4 + 2, none⟩) hg).trans q2
      have e3 := (hbel.cell (p := ⟨g, k * 4 + 3, none⟩) hg).trans q3
      clear q0 q1 q2 q3
      obtain ⟨r, hr⟩ : ∃ r, r = (ds[k].name == s.data.toList) := ⟨_, rfl⟩
      obtain ⟨x, hx⟩ : ∃ x : ByteArray, x = ⟨ds[k].name.toArray⟩ := ⟨_, rfl⟩
      have hcmp : (x.toList == s.toList) = r := by
        cases hh : r with
        | true => exact str_yes (by rw [hx]) rfl (hr.symm.trans hh)
        | false => exact str_no (by rw [hx]) rfl (hr.symm.trans hh)
      have HR := Lib.hid hr
      rw [← hx] at e0
      have CC := Lib.hid (threadClo_any wr ds[k].line (.slice a2 l2 c2) (.slice a3 l3 c3) x s B ((hbel.cell (p := ⟨B, 0, none⟩) hBl).trans HBB.out) r hcmp)
      clear hx
      cases r
      · have HNE2 : Hid (∀ j (h : j < ds.length), j < k + 1 → (ds[j].name == s.data.toList) = false) := Lib.hid (fun j h hj => by
          by_cases e : j = k
          · subst e
            exact hr.symm
          · exact hne j h (by omega))
        clear hbel hne hr hcmp
        go_wp2_with (go_at_call 79; refine CC.out.mono ?_; rintro e w2 ⟨rfl, hb2⟩)
        go_roundw
        case rel => exact ⟨k + 1, by omega, by go_num, HB.out.trans (hb2.mono HB.out.size), HNE2.out⟩
        case measure => simp [intOf]; omega
      · have HI := Lib.hid (show idxT ds s.data.toList = (k : Int) by
          unfold idxT
          rw [idx_hit ds 0 k hkd (fun i hi => hne i (by omega) hi) hr.symm]
          omega)
        clear hbel hne hr hcmp
        go_wp2_with (go_at_call 79; refine CC.out.mono ?_; rintro e w2 ⟨rfl, hb2⟩)
        go_ret
        exact ⟨by rw [HI.out]; rfl, HB.out.trans (hb2.mono HB.out.size)⟩
    · have hke : k = n := by omega
      subst hke
      have HI := Lib.hid (show idxT ds s.data.toList = -1 by
        unfold idxT
        refine idx_none ds 0 (fun d hd => ?_)
        obtain ⟨j, hj, rfl⟩ := List.getElem_of_mem hd
        exact hne j hj (by rw [HN.out]; exact hj))
      clear hbel hne
      go_wp2_with fail
      go_ret
      exact ⟨by rw [HI.out]; rfl, HB.out⟩

set_option maxHeartbeats 1000000 in
set_option maxRecDepth 100000 in
theorem declarationOf_any (w : World) (v : Value) (ds : List Dc) (s : ByteArray) (hv : DsAt w v ds) (hl : ds.length ≤ 100000) :
    Calls Tryz.prog 44 #[v, .string s] w fun x w' => x = .returned (.int .i64 (idxD ds s.data.toList)) ∧ Below w.heap.size w w' := by
  have hmf : ∀ (fn : Fn) (first cap : Array Value) (w : World), (Instr.makeFunc fn first cap).run Tryz.prog w = .ok (.func fn first cap) w := fun _ _ _ _ => rfl
  have hal := (Below.refl w.heap.size w).alloc (Nat.le_refl _) (.cells #[.string s] 9)
  have C := Lib.hid (idxFuncD_any _ v ds w.heap.size s (hv.below hal) (show (w.alloc (.cells #[.string s] 9)).cell? ⟨w.heap.size, 0, none⟩ = some (.string s) by simp) hl)
  have HA := Lib.hid hal
  clear hv hal
  go_enter Tryz.func44, Tryz.ntmps44
  go_wp2_with (go_at_call 76; refine C.out.mono ?_; rintro e w2 ⟨rfl, hb2⟩)
  go_ret
  exact ⟨rfl, HA.out.trans (hb2.mono (by simp))⟩

set_option maxHeartbeats 1000000 in
set_option maxRecDepth 100000 in
theorem threadOf_any (w : World) (v : Value) (ds : List Th) (s : ByteArray) (hv : TsAt w v ds) (hl : ds.length ≤ 100000) :
    Calls Tryz.prog 45 #[v, .string s] w fun x w' => x = .returned (.int .i64 (idxT ds s.data.toList)) ∧ Below w.heap.size w w' := by
  have hmf : ∀ (fn : Fn) (first cap : Array Value) (w : World), (Instr.makeFunc fn first cap).run Tryz.prog w = .ok (.func fn first cap) w := fun _ _ _ _ => rfl
  have hal := (Below.refl w.heap.size w).alloc (Nat.le_refl _) (.cells #[.string s] 9)
  have C := Lib.hid (idxFuncT_any _ v ds w.heap.size s (hv.below hal) (show (w.alloc (.cells #[.string s] 9)).cell? ⟨w.heap.size, 0, none⟩ = some (.string s) by simp) hl)
  have HA := Lib.hid hal
  clear hv hal
  go_enter Tryz.func45, Tryz.ntmps45
  go_wp2_with (go_at_call 78; refine C.out.mono ?_; rintro e w2 ⟨rfl, hb2⟩)
  go_ret
  exact ⟨rfl, HA.out.trans (hb2.mono (by simp))⟩
end Ck
end Go.Proofs.YtncflfadgcaldaaGreatDoor

namespace Go.Proofs.YtncflfadgcaldaaGreatDoor
open Go.RowKit
open Par Tok

namespace Ck

set_option maxHeartbeats 2000000 in
set_option maxRecDepth 100000 in
theorem indexS_any (w : World) (v : Value) (ds : List Bs) (s : ByteArray) (hv : NsAt w v ds) (hl : ds.length ≤ 100000) :
    Calls Tryz.prog 80 #[v, .string s] w fun x w' => x = .returned (.int .i64 (idx (fun y => s.data.toList == y) ds 0)) ∧ Below w.heap.size w w' := by
  obtain ⟨A, cap, rfl, hcp, hc⟩ := hv
  have HC := Lib.hid hc
  obtain ⟨n, hn⟩ : ∃ n, n = ds.length := ⟨_, rfl⟩
  have HN := Lib.hid hn
  rw [← hn] at hl ⊢
  clear hc hn
  go_enter Tryz.func80, Tryz.ntmps80
  go_wp2_with fail
  go_loopw [8] (fun i wr => ∃ k : Nat, k ≤ n ∧ i = .int .i64 k ∧ Below w.heap.size w wr ∧ ∀ j (h : j < ds.length), j < k → (s.data.toList == ds[j]) = false) (fun i _ => n - (intOf i).toNat)
  case atStart => exact ⟨0, by omega, by first | rfl | trivial, Below.refl _ _, fun j _ h => absurd h (by omega)⟩
  case round =>
    obtain ⟨k, hk, rfl, hbel, hne⟩ := hrel
    have HB := Lib.hid hbel
    have HNE := Lib.hid hne
    by_cases hkn : k < n
    · have hkd : k < ds.length := by rw [← HN.out]; exact hkn
      have hkni : (k : Int) < (n : Int) := by omega
      obtain ⟨g, rfl, hg, q0⟩ := HC.out k hkd
      have e0 := (hbel.cell (p := ⟨g, k, none⟩) hg).trans q0
      clear q0
      obtain ⟨r, hr⟩ : ∃ r, r = (s.data.toList == ds[k]) := ⟨_, rfl⟩
      obtain ⟨x, hx⟩ : ∃ x : ByteArray, x = ⟨ds[k].toArray⟩ := ⟨_, rfl⟩
      have hcmp : (s.toList == x.toList) = r := by
        cases hh : r with
        | true => exact str_yes rfl (by rw [hx]) (hr.symm.trans hh)
        | false => exact str_no rfl (by rw [hx]) (hr.symm.trans hh)
      rw [← hx] at e0
      clear hx
      have HR := Lib.hid hr
      cases r
      · have HNE2 : Hid (∀ j (h : j < ds.length), j < k + 1 → (s.data.toList == ds[j]) = false) := Lib.hid (fun j h hj => by
          by_cases e : j = k
          · subst e
            exact hr.symm
          · exact hne j h (by omega))
        clear hbel hne hr
        go_wp2_with fail
        go_roundw
        case rel => exact ⟨k + 1, by omega, by go_num, HB.out, HNE2.out⟩
        case measure => simp [intOf]; omega
      · have HI := Lib.hid (show idx (fun y => s.data.toList == y) ds 0 = (k : Int) by
          rw [idx_hit ds 0 k hkd (fun i hi => hne i (by omega) hi) hr.symm]
          omega)
        clear hbel hne hr
        go_wp2_with fail
        go_ret
        exact ⟨by rw [HI.out]; rfl, HB.out⟩
    · have hke : k = n := by omega
      subst hke
      have HI := Lib.hid (show idx (fun y => s.data.toList == y) ds 0 = -1 by
        refine idx_none ds 0 (fun d hd => ?_)
        obtain ⟨j, hj, rfl⟩ := List.getElem_of_mem hd
        exact hne j hj (by rw [HN.out]; exact hj))
      clear hbel hne
      go_wp2_with fail
      go_ret
      exact ⟨by rw [HI.out]; rfl, HB.out⟩

theorem containsS_any (w : World) (v : Value) (ds : List Bs) (s : ByteArray) (hv : NsAt w v ds) (hl : ds.length ≤ 100000) :
    Calls Tryz.prog 46 #[v, .string s] w fun x w' => x = .returned (.bool (ds.contains s.data.toList)) ∧ Below w.heap.size w w' := by
  obtain ⟨i, hi⟩ : ∃ i, i = idx (fun y => s.data.toList == y) ds 0 := ⟨_, rfl⟩
  have C := Lib.hid (indexS_any w v ds s hv hl)
  have H := Lib.hid (contains_idx ds s.data.toList)
  rw [← hi] at C H
  clear hi
  by_cases h0 : 0 ≤ i
  all_goals
    go_enter Tryz.func46, Tryz.ntmps46
    go_wp2_with (go_at_call 80; refine C.out.mono ?_; rintro e w2 ⟨rfl, hb2⟩)
    go_ret
    exact ⟨by rw [← H.out]; simp [h0], hb2⟩

set_option maxHeartbeats 2000000 in
set_option maxRecDepth 100000 in
theorem indexM_any (w : World) (v : Value) (ds : List Int) (s : Int) (hv : ZsAt w v ds) (hl : ds.length ≤ 100000) :
    Calls Tryz.prog 133 #[v, .int .i64 s] w fun x w' => x = .returned (.int .i64 (idx (fun y => s == y) ds 0)) ∧ Below w.heap.size w w' := by
  obtain ⟨A, cap, rfl, hc⟩ := hv
  have HC := Lib.hid hc
  obtain ⟨n, hn⟩ : ∃ n, n = ds.length := ⟨_, rfl⟩
  have HN := Lib.hid hn
  rw [← hn] at hl ⊢
  clear hc hn
  go_enter Tryz.func133, Tryz.ntmps133
  go_wp2_with fail
  go_loopw [8] (fun i wr => ∃ k : Nat, k ≤ n ∧ i = .int .i64 k ∧ Below w.heap.size w wr ∧ ∀ j (h : j < ds.length), j < k → (s == ds[j]) = false) (fun i _ => n - (intOf i).toNat)
  case atStart => exact ⟨0, by omega, by first | rfl | trivial, Below.refl _ _, fun j _ h => absurd h (by omega)⟩
  case round =>
    obtain ⟨k, hk, rfl, hbel, hne⟩ := hrel
    have HB := Lib.hid hbel
    have HNE := Lib.hid hne
    by_cases hkn : k < n
    · have hkd : k < ds.length := by rw [← HN.out]; exact hkn
      have hkni : (k : Int) < (n : Int) := by omega
      obtain ⟨g, rfl, hg, q0⟩ := HC.out k hkd
      have e0 := (hbel.cell (p := ⟨g, k, none⟩) hg).trans q0
      clear q0
      obtain ⟨r, hr⟩ : ∃ r, r = (s == ds[k]) := ⟨_, rfl⟩
      obtain ⟨x, hx⟩ : ∃ x : Int, x = ds[k] := ⟨_, rfl⟩
      rw [← hx] at e0 hr
      have HR := Lib.hid hr
      cases r
      · have HNE2 : Hid (∀ j (h : j < ds.length), j < k + 1 → (s == ds[j]) = false) := Lib.hid (fun j h hj => by
          by_cases e : j = k
          · subst e
            rw [← hx]
            exact hr.symm
          · exact hne j h (by omega))
        have hsx : ¬ s = x := by simpa using hr.symm
        clear hbel hne hr hx
        go_wp2_with fail
        go_roundw
        case rel => exact ⟨k + 1, by omega, by go_num, HB.out, HNE2.out⟩
        case measure => simp [intOf]; omega
      · have HI := Lib.hid (show idx (fun y => s == y) ds 0 = (k : Int) by
          rw [idx_hit ds 0 k hkd (fun i hi => hne i (by omega) hi) (by rw [← hx]; exact hr.symm)]
          omega)
        have hsx : s = x := by simpa using hr.symm
        clear hbel hne hr hx
        go_wp2_with fail
        go_ret
        exact ⟨by rw [HI.out]; rfl, HB.out⟩
    · have hke : k = n := by omega
      subst hke
      have HI := Lib.hid (show idx (fun y => s == y) ds 0 = -1 by
        refine idx_none ds 0 (fun d hd => ?_)
        obtain ⟨j, hj, rfl⟩ := List.getElem_of_mem hd
        exact hne j hj (by rw [HN.out]; exact hj))
      clear hbel hne
      go_wp2_with fail
      go_ret
      exact ⟨by rw [HI.out]; rfl, HB.out⟩

theorem containsM_any (w : World) (v : Value) (ds : List Int) (s : Int) (hv : ZsAt w v ds) (hl : ds.length ≤ 100000) :
    Calls Tryz.prog 106 #[v, .int .i64 s] w fun x w' => x = .returned (.bool (ds.contains s)) ∧ Below w.heap.size w w' := by
  obtain ⟨i, hi⟩ : ∃ i, i = idx (fun y => s == y) ds 0 := ⟨_, rfl⟩
  have C := Lib.hid (indexM_any w v ds s hv hl)
  have H := Lib.hid (contains_idx ds s)
  rw [← hi] at C H
  clear hi
  by_cases h0 : 0 ≤ i
  all_goals
    go_enter Tryz.func106, Tryz.ntmps106
    go_wp2_with (go_at_call 133; refine C.out.mono ?_; rintro e w2 ⟨rfl, hb2⟩)
    go_ret
    exact ⟨by rw [← H.out]; simp [h0], hb2⟩

set_option maxHeartbeats 2000000 in
set_option maxRecDepth 100000 in
theorem indexI_any (w : World) (v : Value) (ds : List Int) (s : Int) (hv : ZsAt w v ds) (hl : ds.length ≤ 100000) :
    Calls Tryz.prog 170 #[v, .int .i64 s] w fun x w' => x = .returned (.int .i64 (idx (fun y => s == y) ds 0)) ∧ Below w.heap.size w w' := by
  obtain ⟨A, cap, rfl, hc⟩ := hv
  have HC := Lib.hid hc
  obtain ⟨n, hn⟩ : ∃ n, n = ds.length := ⟨_, rfl⟩
  have HN := Lib.hid hn
  rw [← hn] at hl ⊢
  clear hc hn
  go_enter Tryz.func170, Tryz.ntmps170
  go_wp2_with fail
  go_loopw [8] (fun i wr => ∃ k : Nat, k ≤ n ∧ i = .int .i64 k ∧ Below w.heap.size w wr ∧ ∀ j (h : j < ds.length), j < k → (s == ds[j]) = false) (fun i _ => n - (intOf i).toNat)
  case atStart => exact ⟨0, by omega, by first | rfl | trivial, Below.refl _ _, fun j _ h => absurd h (by omega)⟩
  case round =>
    obtain ⟨k, hk, rfl, hbel, hne⟩ := hrel
    have HB := Lib.hid hbel
    have HNE := Lib.hid hne
    by_cases hkn : k < n
    · have hkd : k < ds.length := by rw [← HN.out]; exact hkn
      have hkni : (k : Int) < (n : Int) := by omega
      obtain ⟨g, rfl, hg, q0⟩ := HC.out k hkd
      have e0 := (hbel.cell (p := ⟨g, k, none⟩) hg).trans q0
      clear q0
      obtain ⟨r, hr⟩ : ∃ r, r = (s == ds[k]) := ⟨_, rfl⟩
      obtain ⟨x, hx⟩ : ∃ x : Int, x = ds[k] := ⟨_, rfl⟩
      rw [← hx] at e0 hr
      have HR := Lib.hid hr
      cases r
      · have HNE2 : Hid (∀ j (h : j < ds.length), j < k + 1 → (s == ds[j]) = false) := Lib.hid (fun j h hj => by
          by_cases e : j = k
          · subst e
            rw [← hx]
            exact hr.symm
          · exact hne j h (by omega))
        have hsx : ¬ s = x := by simpa using hr.symm
        clear hbel hne hr hx
        go_wp2_with fail
        go_roundw
        case rel => exact ⟨k + 1, by omega, by go_num, HB.out, HNE2.out⟩
        case measure => simp [intOf]; omega
      · have HI := Lib.hid (show idx (fun y => s == y) ds 0 = (k : Int) by
          rw [idx_hit ds 0 k hkd (fun i hi => hne i (by omega) hi) (by rw [← hx]; exact hr.symm)]
          omega)
        have hsx : s = x := by simpa using hr.symm
        clear hbel hne hr hx
        go_wp2_with fail
        go_ret
        exact ⟨by rw [HI.out]; rfl, HB.out⟩
    · have hke : k = n := by omega
      subst hke
      have HI := Lib.hid (show idx (fun y => s == y) ds 0 = -1 by
        refine idx_none ds 0 (fun d hd => ?_)
        obtain ⟨j, hj, rfl⟩ := List.getElem_of_mem hd
        exact hne j hj (by rw [HN.out]; exact hj))
      clear hbel hne
      go_wp2_with fail
      go_ret
      exact ⟨by rw [HI.out]; rfl, HB.out⟩

theorem containsI_any (w : World) (v : Value) (ds : List Int) (s : Int) (hv : ZsAt w v ds) (hl : ds.length ≤ 100000) :
    Calls Tryz.prog 160 #[v, .int .i64 s] w fun x w' => x = .returned (.bool (ds.contains s)) ∧ Below w.heap.size w w' := by
  obtain ⟨i, hi⟩ : ∃ i, i = idx (fun y => s == y) ds 0 := ⟨_, rfl⟩
  have C := Lib.hid (indexI_any w v ds s hv hl)
  have H := Lib.hid (contains_idx ds s)
  rw [← hi] at C H
  clear hi
  by_cases h0 : 0 ≤ i
  all_goals
    go_enter Tryz.func160, Tryz.ntmps160
    go_wp2_with (go_at_call 170; refine C.out.mono ?_; rintro e w2 ⟨rfl, hb2⟩)
    go_ret
    exact ⟨by rw [← H.out]; simp [h0], hb2⟩

theorem firstE_none : ∀ (l : List Nat), (∀ x ∈ l, x = 0) → firstE l = 0
  | [], _ => rfl
  | x :: r, h => by
    simp only [firstE]
    rw [if_pos (h x (List.mem_cons_self ..)), firstE_none r (fun y hy => h y (List.mem_cons_of_mem _ hy))]
theorem firstE_hit : ∀ (l : List Nat) (j : Nat) (h : j < l.length), (∀ i (hi : i < j), l[i] = 0) → l[j] ≠ 0 → firstE l = l[j]
  | [], j, h, _, _ => absurd h (by simp)
  | x :: r, 0, _, _, hj => by
    have hj : x ≠ 0 := hj
    simp only [firstE, if_neg hj, List.getElem_cons_zero]
  | x :: r, j + 1, h, hi, hj => by
    have h0 : x = 0 := hi 0 (by omega)
    simp only [firstE]
    rw [if_pos h0, firstE_hit r j (by simpa using h) (fun i hij => hi (i + 1) (by omega)) hj]
    rfl

set_option maxHeartbeats 1000000 in
set_option maxRecDepth 100000 in
theorem first_any (w : World) (g : Nat) (es : List Nat) (hc : ∀ k (h : k < es.length), w.cell? ⟨g, k, none⟩ = some (.int .i64 (es[k] : Nat))) (hl : es.length ≤ 100) :
    Calls Tryz.prog 105 #[.slice (some ⟨g, 0, none⟩) es.length es.length] w fun x w' => x = .returned (.int .i64 (firstE es : Nat)) ∧ w' = w := by
  have HC := Lib.hid hc
  obtain ⟨n, hn⟩ : ∃ n, n = es.length := ⟨_, rfl⟩
  have HN := Lib.hid hn
  rw [← hn] at hl ⊢
  clear hc hn
  go_enter Tryz.func105, Tryz.ntmps105
  go_wp2_with fail
  go_loopw [7] (fun i wr => ∃ k : Nat, k ≤ n ∧ i = .int .i64 k ∧ wr = w ∧ ∀ j (h : j < es.length), j < k → es[j] = 0) (fun i _ => n - (intOf i).toNat)
  case atStart => exact ⟨0, by omega, by first | rfl | trivial, rfl, fun j _ h => absurd h (by omega)⟩
  case round =>
    obtain ⟨k, hk, rfl, rfl, hne⟩ := hrel
    have HNE := Lib.hid hne
    by_cases hkn : k < n
    · have hkd : k < es.length := by rw [← HN.out]; exact hkn
      have hkni : (k : Int) < (n : Int) := by omega
      have e0 := HC.out k hkd
      by_cases hx : es[k] = 0
      · rw [hx] at e0
        have HNE2 : Hid (∀ j (h : j < es.length), j < k + 1 → es[j] = 0) := Lib.hid (fun j h hj => by
          by_cases e : j = k
          · subst e
            exact hx
          · exact hne j h (by omega))
        clear hne hx
        go_wp2_with fail
        go_roundw
        case rel => exact ⟨k + 1, by omega, by go_num, by first | rfl | trivial, HNE2.out⟩
        case measure => simp [intOf]; omega
      · have HI := Lib.hid (firstE_hit es k hkd (fun i hi => hne i (by omega) hi) hx)
        obtain ⟨x, hxx⟩ : ∃ x, x = es[k] := ⟨_, rfl⟩
        rw [← hxx] at e0 hx HI
        have hx0 : ¬ ((x : Nat) : Int) = 0 := by omega
        clear hne hxx
        go_wp2_with fail
        go_ret
        exact ⟨by rw [HI.out]; rfl, rfl⟩
    · have hke : k = n := by omega
      subst hke
      have HI := Lib.hid (firstE_none es (fun d hd => by
        obtain ⟨j, hj, rfl⟩ := List.getElem_of_mem hd
        exact hne j hj (by rw [HN.out]; exact hj)))
      clear hne
      go_wp2_with fail
      go_ret
      exact ⟨by rw [HI.out]; rfl, rfl⟩
end Ck
end Go.Proofs.YtncflfadgcaldaaGreatDoor

namespace Go.Proofs.YtncflfadgcaldaaGreatDoor
open Go.RowKit
open Par Tok

namespace Ck

theorem any_idx {α : Type} (p : α → Bool) (l : List α) : decide (0 ≤ idx p l 0) = l.any p := by
  rcases idx_cases p l 0 with ⟨h1, h2⟩ | ⟨j, hj, h1, h2, _⟩
  · rw [h1]
    have : l.any p = false := by
      rw [List.any_eq_false]
      intro y hy
      simpa using h2 y hy
    rw [this]
    rfl
  · rw [h1]
    have : l.any p = true := by
      rw [List.any_eq_true]
      exact ⟨_, List.getElem_mem hj, h2⟩
    rw [this]
    simp
theorem find_idx {α : Type} (p : α → Bool) : ∀ (l : List α) (k : Nat), (idx p l k = -1 ∧ l.find? p = none) ∨ ∃ j, ∃ h : j < l.length, idx p l k = ((k + j : Nat) : Int) ∧ l.find? p = some l[j]
  | [], _ => .inl ⟨rfl, rfl⟩
  | x :: r, k => by
    by_cases hx : p x = true
    · exact .inr ⟨0, by simp, by simp only [idx, if_pos hx, Nat.add_zero], by rw [List.find?_cons_of_pos hx]; rfl⟩
    · rcases find_idx p r (k + 1) with ⟨h1, h2⟩ | ⟨j, hj, h1, h2⟩
      · exact .inl ⟨by simp only [idx, if_neg hx]; exact h1, by rw [List.find?_cons_of_neg hx, h2]⟩
      · refine .inr ⟨j + 1, by simpa using hj, ?_, by rw [List.find?_cons_of_neg hx, h2]; rfl⟩
        simp only [idx, if_neg hx]
        rw [h1]
        congr 1
        omega
/-- These three values are the scope's locals, declarations and threads. -/
structure ScAt (w : World) (vl vd vt : Value) (s : Sc) : Prop where
  l : NsAt w vl s.locals
  d : DsAt w vd s.decls
  t : TsAt w vt s.threads
theorem ScAt.below {w w' : World} {vl vd vt : Value} {s : Sc} (h : ScAt w vl vd vt s) (b : Below w.heap.size w w') : ScAt w' vl vd vt s := ⟨h.l.below b, h.d.below b, h.t.below b⟩
structure ScOk (s : Sc) : Prop where
  l : s.locals.length ≤ 100000
  d : s.decls.length ≤ 100000
  t : s.threads.length ≤ 100000

theorem declarationOf_at (w : World) (v : Value) (ds : List Dc) (s : ByteArray) (r : Int) (hr : idxD ds s.data.toList = r) (hv : DsAt w v ds) (hl : ds.length ≤ 100000) :
    Calls Tryz.prog 44 #[v, .string s] w fun x w' => x = .returned (.int .i64 r) ∧ Below w.heap.size w w' := hr ▸ declarationOf_any w v ds s hv hl
theorem threadOf_at (w : World) (v : Value) (ts : List Th) (s : ByteArray) (r : Int) (hr : idxT ts s.data.toList = r) (hv : TsAt w v ts) (hl : ts.length ≤ 100000) :
    Calls Tryz.prog 45 #[v, .string s] w fun x w' => x = .returned (.int .i64 r) ∧ Below w.heap.size w w' := hr ▸ threadOf_any w v ts s hv hl
theorem containsS_at (w : World) (v : Value) (ds : List Bs) (s : ByteArray) (r : Bool) (hr : ds.contains s.data.toList = r) (hv : NsAt w v ds) (hl : ds.length ≤ 100000) :
    Calls Tryz.prog 46 #[v, .string s] w fun x w' => x = .returned (.bool r) ∧ Below w.heap.size w w' := hr ▸ containsS_any w v ds s hv hl

set_option maxHeartbeats 2000000 in
set_option maxRecDepth 100000 in
theorem meaning_any (w : World) (vl vd vt : Value) (s : Sc) (nm : ByteArray) (h : ScAt w vl vd vt s) (ok : ScOk s) :
    Calls Tryz.prog 104 #[.agg #[vl, vd, vt], .string nm] w fun x w' => x = .returned (.int .i64 (mean s nm.data.toList : Nat)) ∧ Below w.heap.size w w' := by
  obtain ⟨ls, ds, ts⟩ := s
  have hal := (Below.refl w.heap.size w).alloc (Nat.le_refl _) (.cells #[vl, vd, vt] 113)
  have HA := Lib.hid hal
  have H := Lib.hid (h.below hal)
  have OK := Lib.hid ok
  have hz : w.heap.size < (w.alloc (.cells #[vl, vd, vt] 113)).heap.size := by simp
  have k0 := Lib.hid (show (w.alloc (.cells #[vl, vd, vt] 113)).cell? ⟨w.heap.size, 0, none⟩ = some vl by simp)
  have k1 := Lib.hid (show (w.alloc (.cells #[vl, vd, vt] 113)).cell? ⟨w.heap.size, 1, none⟩ = some vd by simp)
  have k2 := Lib.hid (show (w.alloc (.cells #[vl, vd, vt] 113)).cell? ⟨w.heap.size, 2, none⟩ = some vt by simp)
  obtain ⟨n0, hn0⟩ : ∃ n0 : World, n0 = w.alloc (.cells #[vl, vd, vt] 113) := ⟨_, rfl⟩
  clear hal h ok
  obtain ⟨b, hb⟩ : ∃ b, ls.contains nm.data.toList = b := ⟨_, rfl⟩
  cases b
  case true =>
    have HM := Lib.hid (show mean ⟨ls, ds, ts⟩ nm.data.toList = 1 by simp only [mean, hb, if_true])
    have HB := Lib.hid hb
    clear hb
    go_enter Tryz.func104, Tryz.ntmps104
    go_wp2_with (go_at_call 46; refine (containsS_at _ _ _ _ _ HB.out H.out.l OK.out.l).mono ?_; rintro e w1 ⟨rfl, hb1⟩)
    go_ret
    exact ⟨by rw [HM.out]; rfl, HA.out.trans (hb1.mono HA.out.size)⟩
  have HB := Lib.hid hb
  rcases find_idx (fun d => d.name == nm.data.toList) ds 0 with ⟨hi, hf⟩ | ⟨j, hj, hi, hf⟩
  · have HD := Lib.hid (show idxD ds nm.data.toList = -1 from hi)
    obtain ⟨c, hc⟩ : ∃ c, ts.any (fun t => t.name == nm.data.toList) = c := ⟨_, rfl⟩
    obtain ⟨r, hr⟩ : ∃ r, idxT ts nm.data.toList = r := ⟨_, rfl⟩
    have HR := Lib.hid hr
    have hcr : decide (0 ≤ r) = c := by rw [← hr, ← hc]; exact any_idx _ ts
    have HM := Lib.hid (show mean ⟨ls, ds, ts⟩ nm.data.toList = if c = true then 8 else 0 by
      simp only [mean, hb, hf, hc]
      simp)
    clear hb hf hi hc hr
    cases c
    case true =>
      have h0 : 0 ≤ r := by simpa using hcr
      clear hcr
      go_enter Tryz.func104, Tryz.ntmps104
      go_wp2_with (first
        | (go_at_call 46; refine (containsS_at _ _ _ _ _ HB.out H.out.l OK.out.l).mono ?_; rintro e w1 ⟨rfl, hb1⟩; have c1 := (hb1.cell (p := ⟨w.heap.size, 1, none⟩) hz).trans k1.out)
        | (go_at_call 44; refine (declarationOf_at _ _ _ _ _ HD.out (H.out.d.below hb1) OK.out.d).mono ?_; rintro e w2 ⟨rfl, hb2⟩; have c2 := (hb2.cell (p := ⟨w.heap.size, 2, none⟩) (Nat.lt_of_lt_of_le hz hb1.size)).trans ((hb1.cell (p := ⟨w.heap.size, 2, none⟩) hz).trans k2.out))
        | (go_at_call 45; refine (threadOf_at _ _ _ _ _ HR.out ((H.out.t.below hb1).below hb2) OK.out.t).mono ?_; rintro e w3 ⟨rfl, hb3⟩))
      go_ret
      exact ⟨by rw [HM.out]; rfl, HA.out.trans ((hb1.trans ((hb2.mono hb1.size).trans (hb3.mono (Nat.le_trans hb1.size hb2.size)))).mono HA.out.size)⟩
    case false =>
      have h0 : ¬ 0 ≤ r := by simpa using hcr
      clear hcr
      go_enter Tryz.func104, Tryz.ntmps104
      go_wp2_with (first
        | (go_at_call 46; refine (containsS_at _ _ _ _ _ HB.out H.out.l OK.out.l).mono ?_; rintro e w1 ⟨rfl, hb1⟩; have c1 := (hb1.cell (p := ⟨w.heap.size, 1, none⟩) hz).trans k1.out)
        | (go_at_call 44; refine (declarationOf_at _ _ _ _ _ HD.out (H.out.d.below hb1) OK.out.d).mono ?_; rintro e w2 ⟨rfl, hb2⟩; have c2 := (hb2.cell (p := ⟨w.heap.size, 2, none⟩) (Nat.lt_of_lt_of_le hz hb1.size)).trans ((hb1.cell (p := ⟨w.heap.size, 2, none⟩) hz).trans k2.out))
        | (go_at_call 45; refine (threadOf_at _ _ _ _ _ HR.out ((H.out.t.below hb1).below hb2) OK.out.t).mono ?_; rintro e w3 ⟨rfl, hb3⟩))
      go_ret
      exact ⟨by rw [HM.out]; rfl, HA.out.trans ((hb1.trans ((hb2.mono hb1.size).trans (hb3.mono (Nat.le_trans hb1.size hb2.size)))).mono HA.out.size)⟩
  · rw [Nat.zero_add] at hi
    have HD := Lib.hid (show idxD ds nm.data.toList = (j : Int) from hi)
    have HM := Lib.hid (show mean ⟨ls, ds, ts⟩ nm.data.toList = meanD ds[j] by
      simp only [mean, hb, hf]
      simp)
    obtain ⟨A, cap, rfl, hcp, hcs⟩ := H.out.d
    obtain ⟨g, rfl, hg, q0, q1, q2, q3, q4, q5⟩ := hcs j hj
    have hjl := OK.out.d
    obtain ⟨n, hn⟩ : ∃ n, n = ds.length := ⟨_, rfl⟩
    have DD := Lib.hid (show DsAt (w.alloc (.cells #[vl, .slice (some ⟨g, 0, none⟩) n cap, vt] 113)) (.slice (some ⟨g, 0, none⟩) n cap) ds by rw [hn]; exact H.out.d)
    have hjn : j < n := by rw [hn]; exact hj
    have hjni : (j : Int) < (n : Int) := by omega
    simp only [] at hjl
    have hnl : n ≤ 100000 := by rw [hn]; exact hjl
    have HL := Lib.hid hjl
    obtain ⟨d, hd⟩ : ∃ d, d = ds[j] := ⟨_, rfl⟩
    rw [← hd] at q0 q1 q2 q3 q4 q5 HM
    rw [← hn] at hz q0 q1 q2 q3 q4 q5 k0 k1 k2 hg H HA ⊢
    clear hcs hb hi hf hjl hn hd
    go_enter Tryz.func104, Tryz.ntmps104
    go_wp2_with (first
      | (go_at_call 46; refine (containsS_at _ _ _ _ _ HB.out H.out.l OK.out.l).mono ?_; rintro e w1 ⟨rfl, hb1⟩; have c1 := (hb1.cell (p := ⟨w.heap.size, 1, none⟩) hz).trans k1.out)
      | (go_at_call 44; refine (declarationOf_at _ _ _ _ _ HD.out (DD.out.below hb1) HL.out).mono ?_; rintro e w2 ⟨rfl, hb2⟩; have hb12 := hb1.trans (hb2.mono hb1.size); have c2 := (hb12.cell (p := ⟨w.heap.size, 1, none⟩) hz).trans k1.out; have e0 := (hb12.cell (p := ⟨g, j * 6, none⟩) hg).trans q0; have e1 := (hb12.cell (p := ⟨g, j * 6 + 1, none⟩) hg).trans q1; have e2 := (hb12.cell (p := ⟨g, j * 6 + 2, none⟩) hg).trans q2; have e3 := (hb12.cell (p := ⟨g, j * 6 + 3, none⟩) hg).trans q3; have e4 := (hb12.cell (p := ⟨g, j * 6 + 4, none⟩) hg).trans q4; have e5 := (hb12.cell (p := ⟨g, j * 6 + 5, none⟩) hg).trans q5)
      | (go_at_call 103; refine (meaningOf_any _ d).mono ?_; rintro e w3 ⟨rfl, hb3⟩))
    go_ret
    exact ⟨by rw [HM.out]; rfl, HA.out.trans ((hb12.trans (hb3.mono hb12.size)).mono HA.out.size)⟩

theorem meaning_at (w : World) (vl vd vt : Value) (s : Sc) (nm : ByteArray) (m : Nat) (hm : mean s nm.data.toList = m) (h : ScAt w vl vd vt s) (ok : ScOk s) :
    Calls Tryz.prog 104 #[.agg #[vl, vd, vt], .string nm] w fun x w' => x = .returned (.int .i64 (m : Nat)) ∧ Below w.heap.size w w' := hm ▸ meaning_any w vl vd vt s nm h ok
theorem containsM_at (w : World) (v : Value) (ds : List Int) (s : Int) (r : Bool) (hr : ds.contains s = r) (hv : ZsAt w v ds) (hl : ds.length ≤ 100000) :
    Calls Tryz.prog 106 #[v, .int .i64 s] w fun x w' => x = .returned (.bool r) ∧ Below w.heap.size w w' := hr ▸ containsM_any w v ds s hv hl
/-- The first of two errors that lie behind each other. -/
theorem first2_at (w : World) (g : Nat) (a b e : Nat) (he : firstE [a, b] = e) (h0 : w.cell? ⟨g, 0, none⟩ = some (.int .i64 (a : Nat))) (h1 : w.cell? ⟨g, 1, none⟩ = some (.int .i64 (b : Nat))) :
    Calls Tryz.prog 105 #[.slice (some ⟨g, 0, none⟩) 2 2] w fun x w' => x = .returned (.int .i64 (e : Nat)) ∧ w' = w := by
  subst he
  refine first_any w g [a, b] (fun k h => ?_) (by simp)
  match k, h with
  | 0, _ => exact h0
  | 1, _ => exact h1
/-- The first of three errors that lie behind each other. -/
theorem first3_at (w : World) (g : Nat) (a b c e : Nat) (he : firstE [a, b, c] = e) (h0 : w.cell? ⟨g, 0, none⟩ = some (.int .i64 (a : Nat))) (h1 : w.cell? ⟨g, 1, none⟩ = some (.int .i64 (b : Nat))) (h2 : w.cell? ⟨g, 2, none⟩ = some (.int .i64 (c : Nat))) :
    Calls Tryz.prog 105 #[.slice (some ⟨g, 0, none⟩) 3 3] w fun x w' => x = .returned (.int .i64 (e : Nat)) ∧ w' = w := by
  subst he
  refine first_any w g [a, b, c] (fun k h => ?_) (by simp)
  match k, h with
  | 0, _ => exact h0
  | 1, _ => exact h1
  | 2, _ => exact h2
theorem contains_cast (l : List Nat) (m : Nat) : (l.map fun n => ((n : Nat) : Int)).contains (m : Int) = l.contains m := by
  induction l with
  | nil => rfl
  | cons a l ih =>
    simp only [List.map_cons, List.contains_cons, ih]
    congr 1
    rw [Bool.eq_iff_iff]
    simp only [beq_iff_eq]
    omega

set_option maxHeartbeats 2000000 in
set_option maxRecDepth 100000 in
theorem kind_any (w : World) (vl vd vt va : Value) (s : Sc) (nm : ByteArray) (asked : List Nat) (h : ScAt w vl vd vt s) (ok : ScOk s) (ha : ZsAt w va (asked.map fun n => ((n : Nat) : Int))) (hl : asked.length ≤ 100) :
    Calls Tryz.prog 75 #[.agg #[vl, vd, vt], .string nm, va] w fun x w' => x = .returned (.int .i64 (kindE s nm.data.toList asked : Nat)) ∧ Below w.heap.size w w' := by
  have hal := (Below.refl w.heap.size w).alloc (Nat.le_refl _) (.cells #[vl, vd, vt] 113)
  have HA := Lib.hid hal
  have H := Lib.hid (h.below hal)
  have ZA := Lib.hid (ha.below hal)
  have OK := Lib.hid ok
  have LL : Hid ((asked.map fun n => ((n : Nat) : Int)).length ≤ 100000) := Lib.hid (by simp; omega)
  have HS : Hid (w.heap.size ≤ (w.alloc (.cells #[vl, vd, vt] 113)).heap.size) := Lib.hid (by simp)
  clear hal h ok
  obtain ⟨m, hm⟩ : ∃ m, mean s nm.data.toList = m := ⟨_, rfl⟩
  obtain ⟨b, hb⟩ : ∃ b, (asked.map fun n => ((n : Nat) : Int)).contains (m : Int) = b := ⟨_, rfl⟩
  have HM := Lib.hid hm
  have HB := Lib.hid hb
  have HE := Lib.hid (show firstE [errIf (((m : Nat) : Int) == 0) 5, errIf (!b) 6] = kindE s nm.data.toList asked by
    unfold kindE
    rw [hm, ← hb, contains_cast]
    congr 2
    · congr 1
      rw [Bool.eq_iff_iff]
      simp only [beq_iff_eq]
      omega)
  clear hm hb ha
  go_enter Tryz.func75, Tryz.ntmps75
  go_wp2_with (first
    | (go_at_call 104; refine (meaning_at _ _ _ _ s _ m HM.out H.out OK.out).mono ?_; rintro e w1 ⟨rfl, hb1⟩)
    | (go_at_call 43; refine (errorIf_any _ _ _).mono ?_; rintro e w2 ⟨rfl, rfl⟩)
    | (go_at_call 106; refine (containsM_at _ _ _ _ _ HB.out (ZA.out.below hb1) LL.out).mono ?_; rintro e w2 ⟨rfl, hb2⟩)
    | (go_at_call 105; refine (first2_at _ _ _ _ _ HE.out (by simp) (by simp)).mono ?_; rintro e w3 ⟨rfl, rfl⟩))
  go_ret
  exact ⟨rfl, HA.out.trans ((((hb1.trans (hb2.mono hb1.size))).mono HS.out).alloc (Nat.le_trans HS.out (Nat.le_trans hb1.size hb2.size)) _)⟩
end Ck
end Go.Proofs.YtncflfadgcaldaaGreatDoor

namespace Go.Proofs.YtncflfadgcaldaaGreatDoor
open Go.RowKit
open Par Tok

namespace Ck

abbrev TotAt (w : World) (G : Nat) (t : Tot) : Prop := Box4 w G (.int .i64 (t.1 : Nat)) (.int .i64 (t.2.1 : Nat)) (.int .i64 (t.2.2.1 : Nat)) (.int .i64 (t.2.2.2 : Nat))
theorem tooT_no {t : Tot} (h : tooT t = false) : t.1 ≤ 12 ∧ t.2.1 ≤ 4 ∧ t.2.2.1 ≤ 2 ∧ t.2.2.2 ≤ 2 := by
  simp [tooT] at h
  omega
theorem meanD_cases (d : Dc) : meanD d = 2 ∨ meanD d = 3 ∨ meanD d = 4 ∨ meanD d = 5 ∨ meanD d = 6 ∨ meanD d = 7 ∨ meanD d = 9 := by
  unfold meanD
  repeat' split
  all_goals simp
theorem meaningOf_at (w : World) (d : Dc) (m : Nat) (hm : meanD d = m) : Calls Tryz.prog 103 #[.agg #[.int .i64 d.kind, .int .i64 d.line, .string ⟨d.name.toArray⟩, .int .i64 d.size, .int .i64 d.init, .string ⟨d.on.toArray⟩]] w fun x w' => x = .returned (.int .i64 (m : Nat)) ∧ Below w.heap.size w w' := hm ▸ meaningOf_any w d

set_option maxHeartbeats 2000000 in
set_option maxRecDepth 100000 in
theorem totalAdd_any (w : World) (G : Nat) (t : Tot) (d : Dc) (h : TotAt w G t) (hb : tooT t = false) (hz : d.size ≤ 4) :
    Calls Tryz.prog 73 #[.pointer (some ⟨G, 0, none⟩), .agg #[.int .i64 d.kind, .int .i64 d.line, .string ⟨d.name.toArray⟩, .int .i64 d.size, .int .i64 d.init, .string ⟨d.on.toArray⟩]] w fun x w' => x = .returned (.tuple #[]) ∧ Kept G w w' ∧ TotAt w' G (addT t d) := by
  obtain ⟨t0, t1, t2, t3⟩ := t
  obtain ⟨b0, b1, b2, b3⟩ := tooT_no hb
  simp only at b0 b1 b2 b3
  have hal := (Below.refl w.heap.size w).alloc (Nat.le_refl _) (.cells #[.int .i64 d.kind, .int .i64 d.line, .string ⟨d.name.toArray⟩, .int .i64 d.size, .int .i64 d.init, .string ⟨d.on.toArray⟩] 71)
  have hG := h.lt
  have H := Lib.hid (h.below hal)
  have HA := Lib.hid (Kept.of_below (P := G) hal)
  clear h hal hb
  have D3 := Lib.hid (show (w.alloc (.cells #[.int .i64 d.kind, .int .i64 d.line, .string ⟨d.name.toArray⟩, .int .i64 d.size, .int .i64 d.init, .string ⟨d.on.toArray⟩] 71)).cell? ⟨w.heap.size, 3, none⟩ = some (.int .i64 d.size) by simp)
  rcases meanD_cases d with hm | hm | hm | hm | hm | hm | hm
  · have HM := Lib.hid hm
    have HT := Lib.hid (show addT (t0, t1, t2, t3) d = (t0 + 1, t1, t2, t3) by simp [addT, hm])
    clear hm
    rw [HT.out]
    go_enter Tryz.func73, Tryz.ntmps73
    go_wp2_with (go_at_call 103; refine (meaningOf_at _ d _ HM.out).mono ?_; rintro e w1 ⟨rfl, hb1⟩; have B := H.out.below hb1; obtain ⟨c0, c1, c2, c3, f0, f1, f2, f3⟩ := B; have d3 := (hb1.cell (p := ⟨w.heap.size, 3, none⟩) (by simp)).trans D3.out)
    go_end0
    refine ⟨rfl, (HA.out.trans (Kept.of_below hb1)).setOwn 0 _, ?_⟩
    constructor <;> simp [go_sem, *]
  · have HM := Lib.hid hm
    have HT := Lib.hid (show addT (t0, t1, t2, t3) d = (t0 + d.size, t1, t2, t3) by simp [addT, hm])
    clear hm
    rw [HT.out]
    go_enter Tryz.func73, Tryz.ntmps73
    go_wp2_with (go_at_call 103; refine (meaningOf_at _ d _ HM.out).mono ?_; rintro e w1 ⟨rfl, hb1⟩; have B := H.out.below hb1; obtain ⟨c0, c1, c2, c3, f0, f1, f2, f3⟩ := B; have d3 := (hb1.cell (p := ⟨w.heap.size, 3, none⟩) (by simp)).trans D3.out)
    have HK := Lib.hid (show Kept G w w1.drew from (HA.out.trans (Kept.of_below hb1)).drewN 1)
    have k0 : w1.drew.cell? ⟨G, 0, none⟩ = some (.int .i64 (t0 : Nat)) := c0
    have k1 : w1.drew.cell? ⟨G, 1, none⟩ = some (.int .i64 (t1 : Nat)) := c1
    have k2 : w1.drew.cell? ⟨G, 2, none⟩ = some (.int .i64 (t2 : Nat)) := c2
    have k3 : w1.drew.cell? ⟨G, 3, none⟩ = some (.int .i64 (t3 : Nat)) := c3
    have m0 : w1.drew.frozen? ⟨G, 0, none⟩ = false := f0
    have m1 : w1.drew.frozen? ⟨G, 1, none⟩ = false := f1
    have m2 : w1.drew.frozen? ⟨G, 2, none⟩ = false := f2
    have m3 : w1.drew.frozen? ⟨G, 3, none⟩ = false := f3
    go_still_tail 9, (by kernel_rfl)
    change wpList _ _ _ _ _ w1.drew
    clear c0 c1 c2 c3 f0 f1 f2 f3 d3 hb1
    generalize w1.drew = w2 at HK k0 k1 k2 k3 m0 m1 m2 m3 ⊢
    go_wp2_with fail
    go_end0
    refine ⟨rfl, HK.out.setOwn 0 _, ?_⟩
    constructor <;> simp [go_sem, *]
  · have HM := Lib.hid hm
    have HT := Lib.hid (show addT (t0, t1, t2, t3) d = (t0, t1 + 1, t2, t3) by simp [addT, hm])
    clear hm
    rw [HT.out]
    go_enter Tryz.func73, Tryz.ntmps73
    go_wp2_with (go_at_call 103; refine (meaningOf_at _ d _ HM.out).mono ?_; rintro e w1 ⟨rfl, hb1⟩; have B := H.out.below hb1; obtain ⟨c0, c1, c2, c3, f0, f1, f2, f3⟩ := B; have d3 := (hb1.cell (p := ⟨w.heap.size, 3, none⟩) (by simp)).trans D3.out)
    go_end0
    refine ⟨rfl, (HA.out.trans (Kept.of_below hb1)).setOwn 1 _, ?_⟩
    constructor <;> simp [go_sem, *]
  · have HM := Lib.hid hm
    have HT := Lib.hid (show addT (t0, t1, t2, t3) d = (t0, t1 + 1, t2, t3) by simp [addT, hm])
    clear hm
    rw [HT.out]
    go_enter Tryz.func73, Tryz.ntmps73
    go_wp2_with (go_at_call 103; refine (meaningOf_at _ d _ HM.out).mono ?_; rintro e w1 ⟨rfl, hb1⟩; have B := H.out.below hb1; obtain ⟨c0, c1, c2, c3, f0, f1, f2, f3⟩ := B; have d3 := (hb1.cell (p := ⟨w.heap.size, 3, none⟩) (by simp)).trans D3.out)
    go_end0
    refine ⟨rfl, (HA.out.trans (Kept.of_below hb1)).setOwn 1 _, ?_⟩
    constructor <;> simp [go_sem, *]
  · have HM := Lib.hid hm
    have HT := Lib.hid (show addT (t0, t1, t2, t3) d = (t0, t1, t2 + 1, t3) by simp [addT, hm])
    clear hm
    rw [HT.out]
    go_enter Tryz.func73, Tryz.ntmps73
    go_wp2_with (go_at_call 103; refine (meaningOf_at _ d _ HM.out).mono ?_; rintro e w1 ⟨rfl, hb1⟩; have B := H.out.below hb1; obtain ⟨c0, c1, c2, c3, f0, f1, f2, f3⟩ := B; have d3 := (hb1.cell (p := ⟨w.heap.size, 3, none⟩) (by simp)).trans D3.out)
    go_end0
    refine ⟨rfl, (HA.out.trans (Kept.of_below hb1)).setOwn 2 _, ?_⟩
    constructor <;> simp [go_sem, *]
  · have HM := Lib.hid hm
    have HT := Lib.hid (show addT (t0, t1, t2, t3) d = (t0, t1, t2, t3 + 1) by simp [addT, hm])
    clear hm
    rw [HT.out]
    go_enter Tryz.func73, Tryz.ntmps73
    go_wp2_with (go_at_call 103; refine (meaningOf_at _ d _ HM.out).mono ?_; rintro e w1 ⟨rfl, hb1⟩; have B := H.out.below hb1; obtain ⟨c0, c1, c2, c3, f0, f1, f2, f3⟩ := B; have d3 := (hb1.cell (p := ⟨w.heap.size, 3, none⟩) (by simp)).trans D3.out)
    go_end0
    refine ⟨rfl, (HA.out.trans (Kept.of_below hb1)).setOwn 3 _, ?_⟩
    constructor <;> simp [go_sem, *]
  · have HM := Lib.hid hm
    have HT := Lib.hid (show addT (t0, t1, t2, t3) d = (t0, t1, t2, t3) by simp [addT, hm])
    clear hm
    rw [HT.out]
    go_enter Tryz.func73, Tryz.ntmps73
    go_wp2_with (go_at_call 103; refine (meaningOf_at _ d _ HM.out).mono ?_; rintro e w1 ⟨rfl, hb1⟩; have B := H.out.below hb1; obtain ⟨c0, c1, c2, c3, f0, f1, f2, f3⟩ := B; have d3 := (hb1.cell (p := ⟨w.heap.size, 3, none⟩) (by simp)).trans D3.out)
    go_end0
    exact ⟨rfl, HA.out.trans (Kept.of_below hb1), H.out.below hb1⟩
end Ck
end Go.Proofs.YtncflfadgcaldaaGreatDoor

namespace Go.Proofs.YtncflfadgcaldaaGreatDoor
open Go.RowKit
open Par Tok

namespace Ck

theorem DsAt.kept {G : Nat} {w w' : World} {v : Value} {ds : List Dc} (h : DsAt w v ds) (k : Kept G w w') (hne : v.ownBlock ≠ some G) : DsAt w' v ds := by
  obtain ⟨A, cap, rfl, hcp, hc⟩ := h
  refine ⟨A, cap, rfl, hcp, fun i hi => ?_⟩
  obtain ⟨g, rfl, hg, h0, h1, h2, h3, h4, h5⟩ := hc i hi
  have hgG : g ≠ G := fun e => hne (by rw [← e]; rfl)
  exact ⟨g, rfl, Nat.lt_of_lt_of_le hg k.size, (k.cell hg hgG).trans h0, (k.cell hg hgG).trans h1, (k.cell hg hgG).trans h2, (k.cell hg hgG).trans h3, (k.cell hg hgG).trans h4, (k.cell hg hgG).trans h5⟩
theorem DsAt.take {w : World} {A : Option Addr} {n cap : Nat} {ds : List Dc} (h : DsAt w (.slice A n cap) ds) (k : Nat) (hk : k ≤ ds.length) : DsAt w (.slice A k cap) (ds.take k) := by
  obtain ⟨A', cap', he, hcp, hc⟩ := h
  injection he with h1 h2 h3
  subst h1 h3
  refine ⟨A, cap, by rw [List.length_take, Nat.min_eq_left hk], by rw [List.length_take]; omega, fun i hi => ?_⟩
  have hi2 : i < ds.length := by rw [List.length_take] at hi; omega
  have := hc i hi2
  rw [List.getElem_take]
  exact this
theorem TsAt.take {w : World} {A : Option Addr} {n cap : Nat} {ds : List Th} (h : TsAt w (.slice A n cap) ds) (k : Nat) (hk : k ≤ ds.length) : TsAt w (.slice A k cap) (ds.take k) := by
  obtain ⟨A', cap', he, hcp, hc⟩ := h
  injection he with h1 h2 h3
  subst h1 h3
  refine ⟨A, cap, by rw [List.length_take, Nat.min_eq_left hk], by rw [List.length_take]; omega, fun i hi => ?_⟩
  have hi2 : i < ds.length := by rw [List.length_take] at hi; omega
  have := hc i hi2
  rw [List.getElem_take]
  exact this
theorem NsAt.take {w : World} {A : Option Addr} {n cap : Nat} {ds : List Bs} (h : NsAt w (.slice A n cap) ds) (k : Nat) (hk : k ≤ ds.length) : NsAt w (.slice A k cap) (ds.take k) := by
  obtain ⟨A', cap', he, hcp, hc⟩ := h
  injection he with h1 h2 h3
  subst h1 h3
  refine ⟨A, cap, by rw [List.length_take, Nat.min_eq_left hk], by rw [List.length_take]; omega, fun i hi => ?_⟩
  have hi2 : i < ds.length := by rw [List.length_take] at hi; omega
  have := hc i hi2
  rw [List.getElem_take]
  exact this
theorem NsAt.nil (w : World) : NsAt w (.slice none 0 0) [] := ⟨none, 0, rfl, Nat.le_refl _, fun k h => absurd h (by simp)⟩
theorem TsAt.nil (w : World) : TsAt w (.slice none 0 0) [] := ⟨none, 0, rfl, Nat.le_refl _, fun k h => absurd h (by simp)⟩
theorem ZsAt.one (w : World) (n : Nat) (t : TypeId) (z : Int) (hz : z = (n : Int)) : ZsAt (w.alloc (.cells #[.int .i64 z] t)) (.slice (some ⟨w.heap.size, 0, none⟩) 1 1) ([n].map fun n => ((n : Nat) : Int)) := by
  subst hz
  refine ⟨_, 1, rfl, fun k h => ?_⟩
  match k, h with
  | 0, _ => exact ⟨w.heap.size, rfl, by simp, by simp⟩

set_option maxHeartbeats 2000000 in
set_option maxRecDepth 100000 in
theorem tooLarge_any (w : World) (G : Nat) (t : Tot) (h : TotAt w G t) :
    Calls Tryz.prog 74 #[.pointer (some ⟨G, 0, none⟩)] w fun x w' => x = .returned (.bool (tooT t)) ∧ w' = w := by
  obtain ⟨t0, t1, t2, t3⟩ := t
  obtain ⟨c0, c1, c2, c3, _, _, _, _⟩ := h
  simp only at c0 c1 c2 c3
  have HT := Lib.hid (show tooT (t0, t1, t2, t3) = (decide (12 < t0) || decide (4 < t1) || decide (2 < t2) || decide (2 < t3)) from rfl)
  by_cases h0 : 12 < t0
  · have i0 : (12 : Int) < (t0 : Int) := by omega
    have HR := Lib.hid (show tooT (t0, t1, t2, t3) = true by rw [HT.out]; simp [h0])
    clear h0
    go_enter Tryz.func74, Tryz.ntmps74
    go_wp2_with fail
    go_ret
    exact ⟨by rw [HR.out]; rfl, rfl⟩
  have i0 : ¬ (12 : Int) < (t0 : Int) := by omega
  by_cases h1 : 4 < t1
  · have i1 : (4 : Int) < (t1 : Int) := by omega
    have HR := Lib.hid (show tooT (t0, t1, t2, t3) = true by rw [HT.out]; simp [h1])
    clear h0 h1
    go_enter Tryz.func74, Tryz.ntmps74
    go_wp2_with fail
    go_ret
    exact ⟨by rw [HR.out]; rfl, rfl⟩
  have i1 : ¬ (4 : Int) < (t1 : Int) := by omega
  by_cases h2 : 2 < t2
  · have i2 : (2 : Int) < (t2 : Int) := by omega
    have HR := Lib.hid (show tooT (t0, t1, t2, t3) = true by rw [HT.out]; simp [h2])
    clear h0 h1 h2
    go_enter Tryz.func74, Tryz.ntmps74
    go_wp2_with fail
    go_ret
    exact ⟨by rw [HR.out]; rfl, rfl⟩
  have i2 : ¬ (2 : Int) < (t2 : Int) := by omega
  by_cases h3 : 2 < t3
  · have i3 : (2 : Int) < (t3 : Int) := by omega
    have HR := Lib.hid (show tooT (t0, t1, t2, t3) = true by rw [HT.out]; simp [h3])
    clear h0 h1 h2 h3
    go_enter Tryz.func74, Tryz.ntmps74
    go_wp2_with fail
    go_ret
    exact ⟨by rw [HR.out]; rfl, rfl⟩
  · have i3 : ¬ (2 : Int) < (t3 : Int) := by omega
    have HR := Lib.hid (show tooT (t0, t1, t2, t3) = false by rw [HT.out]; simp [h0, h1, h2, h3])
    clear h0 h1 h2 h3
    go_enter Tryz.func74, Tryz.ntmps74
    go_wp2_with fail
    go_ret
    exact ⟨by rw [HR.out]; rfl, rfl⟩
theorem tooLarge_at (w : World) (G : Nat) (t : Tot) (r : Bool) (hr : tooT t = r) (h : TotAt w G t) :
    Calls Tryz.prog 74 #[.pointer (some ⟨G, 0, none⟩)] w fun x w' => x = .returned (.bool r) ∧ w' = w := hr ▸ tooLarge_any w G t h
theorem kind_at (w : World) (vl vd vt va : Value) (s : Sc) (nm : ByteArray) (asked : List Nat) (r : Nat) (hr : kindE s nm.data.toList asked = r) (h : ScAt w vl vd vt s) (ok : ScOk s) (ha : ZsAt w va (asked.map fun n => ((n : Nat) : Int))) (hl : asked.length ≤ 100) :
    Calls Tryz.prog 75 #[.agg #[vl, vd, vt], .string nm, va] w fun x w' => x = .returned (.int .i64 (r : Nat)) ∧ Below w.heap.size w w' := hr ▸ kind_any w vl vd vt va s nm asked h ok ha hl

set_option maxHeartbeats 2000000 in
set_option maxRecDepth 100000 in
theorem declaration_any (w : World) (vd : Value) (ds : List Dc) (d : Dc) (G : Nat) (t : Tot) (hv : DsAt w vd ds) (hl : ds.length ≤ 100000) (hG : TotAt w G t) (ht : tooT t = false) (hne : vd.ownBlock ≠ some G) :
    Calls Tryz.prog 42 #[.agg #[.int .i64 d.kind, .int .i64 d.line, .string ⟨d.name.toArray⟩, .int .i64 d.size, .int .i64 d.init, .string ⟨d.on.toArray⟩], vd, .pointer (some ⟨G, 0, none⟩)] w fun x w' => x = .returned (.int .i64 ((declE d ds t).1 : Nat)) ∧ Kept G w w' ∧ TotAt w' G (declE d ds t).2 := by
  obtain ⟨A, cap, hvd⟩ : ∃ A cap, vd = .slice A ds.length cap := ⟨_, _, hv.choose_spec.choose_spec.1⟩
  subst hvd
  have hal := (Below.refl w.heap.size w).alloc (Nat.le_refl _) (.cells #[.int .i64 d.kind, .int .i64 d.line, .string ⟨d.name.toArray⟩, .int .i64 d.size, .int .i64 d.init, .string ⟨d.on.toArray⟩] 71)
  have HG := Lib.hid (hG.below hal)
  have hGl := hG.lt
  have HV := Lib.hid (hv.below hal)
  have HA := Lib.hid (Kept.of_below (P := G) hal)
  have hS : w.heap.size < (w.alloc (.cells #[.int .i64 d.kind, .int .i64 d.line, .string ⟨d.name.toArray⟩, .int .i64 d.size, .int .i64 d.init, .string ⟨d.on.toArray⟩] 71)).heap.size := by simp
  have hSG : w.heap.size ≠ G := by omega
  have K0 := Lib.hid (show (w.alloc (.cells #[.int .i64 d.kind, .int .i64 d.line, .string ⟨d.name.toArray⟩, .int .i64 d.size, .int .i64 d.init, .string ⟨d.on.toArray⟩] 71)).cell? ⟨w.heap.size, 0, none⟩ = some (.int .i64 d.kind) by simp)
  have K1 := Lib.hid (show (w.alloc (.cells #[.int .i64 d.kind, .int .i64 d.line, .string ⟨d.name.toArray⟩, .int .i64 d.size, .int .i64 d.init, .string ⟨d.on.toArray⟩] 71)).cell? ⟨w.heap.size, 1, none⟩ = some (.int .i64 d.line) by simp)
  have K2 := Lib.hid (show (w.alloc (.cells #[.int .i64 d.kind, .int .i64 d.line, .string ⟨d.name.toArray⟩, .int .i64 d.size, .int .i64 d.init, .string ⟨d.on.toArray⟩] 71)).cell? ⟨w.heap.size, 2, none⟩ = some (.string ⟨d.name.toArray⟩) by simp)
  have K3 := Lib.hid (show (w.alloc (.cells #[.int .i64 d.kind, .int .i64 d.line, .string ⟨d.name.toArray⟩, .int .i64 d.size, .int .i64 d.init, .string ⟨d.on.toArray⟩] 71)).cell? ⟨w.heap.size, 3, none⟩ = some (.int .i64 d.size) by simp)
  have K4 := Lib.hid (show (w.alloc (.cells #[.int .i64 d.kind, .int .i64 d.line, .string ⟨d.name.toArray⟩, .int .i64 d.size, .int .i64 d.init, .string ⟨d.on.toArray⟩] 71)).cell? ⟨w.heap.size, 4, none⟩ = some (.int .i64 d.init) by simp)
  have K5 := Lib.hid (show (w.alloc (.cells #[.int .i64 d.kind, .int .i64 d.line, .string ⟨d.name.toArray⟩, .int .i64 d.size, .int .i64 d.init, .string ⟨d.on.toArray⟩] 71)).cell? ⟨w.heap.size, 5, none⟩ = some (.string ⟨d.on.toArray⟩) by simp)
  clear hal hG hv
  obtain ⟨r, hr⟩ : ∃ r, idxD ds d.name = r := ⟨_, rfl⟩
  have HI := Lib.hid (show idxD ds (⟨d.name.toArray⟩ : ByteArray).data.toList = r by rw [← hr])
  by_cases h0 : 0 ≤ r
  · have HE := Lib.hid (show declE d ds t = (4, t) by simp only [declE]; rw [hr, if_pos h0])
    rw [HE.out]
    clear hr
    go_enter Tryz.func42, Tryz.ntmps42
    go_wp2_with (go_at_call 44; refine (declarationOf_at _ _ _ _ _ HI.out HV.out hl).mono ?_; rintro e w1 ⟨rfl, hb1⟩)
    go_ret
    exact ⟨rfl, HA.out.trans (Kept.of_below hb1), HG.out.below hb1⟩
  by_cases h1 : 4 < d.size
  · have HE := Lib.hid (show declE d ds t = (2, t) by simp only [declE]; rw [hr, if_neg h0, if_pos h1])
    have h1i : (4 : Int) < (d.size : Int) := by omega
    rw [HE.out]
    clear hr
    go_enter Tryz.func42, Tryz.ntmps42
    go_wp2_with (go_at_call 44; refine (declarationOf_at _ _ _ _ _ HI.out HV.out hl).mono ?_; rintro e w1 ⟨rfl, hb1⟩; have c3 := (hb1.cell (p := ⟨w.heap.size, 3, none⟩) hS).trans K3.out)
    go_ret
    exact ⟨rfl, HA.out.trans (Kept.of_below hb1), HG.out.below hb1⟩
  have h1i : ¬ (4 : Int) < (d.size : Int) := by omega
  have hz : d.size ≤ 4 := by omega
  obtain ⟨b, hb⟩ : ∃ b, tooT (addT t d) = b := ⟨_, rfl⟩
  have HB := Lib.hid hb
  cases b
  case true =>
    have HE := Lib.hid (show declE d ds t = (2, addT t d) by simp only [declE]; rw [hr, if_neg h0, if_neg h1, if_pos hb])
    rw [HE.out]
    clear hr hb h1
    go_enter Tryz.func42, Tryz.ntmps42
    go_wp2_with (first
      | (go_at_call 44; refine (declarationOf_at _ _ _ _ _ HI.out HV.out hl).mono ?_; rintro e w1 ⟨rfl, hb1⟩; have c0 := (hb1.cell (p := ⟨w.heap.size, 0, none⟩) hS).trans K0.out; have c1 := (hb1.cell (p := ⟨w.heap.size, 1, none⟩) hS).trans K1.out; have c2 := (hb1.cell (p := ⟨w.heap.size, 2, none⟩) hS).trans K2.out; have c3 := (hb1.cell (p := ⟨w.heap.size, 3, none⟩) hS).trans K3.out; have c4 := (hb1.cell (p := ⟨w.heap.size, 4, none⟩) hS).trans K4.out; have c5 := (hb1.cell (p := ⟨w.heap.size, 5, none⟩) hS).trans K5.out; have hS1 := Nat.lt_of_lt_of_le hS hb1.size)
      | (go_at_call 73; refine (totalAdd_any _ G t d (HG.out.below hb1) ht hz).mono ?_; rintro e w2 ⟨rfl, hk2, ht2⟩; have HT2 := Lib.hid ht2; clear ht2)
      | (go_at_call 74; refine (tooLarge_at _ G _ _ HB.out HT2.out).mono ?_; rintro e w3 ⟨rfl, rfl⟩))
    go_ret
    exact ⟨rfl, (HA.out.trans (Kept.of_below hb1)).trans hk2, HT2.out⟩
  case false =>
    by_cases h5 : d.kind = 5
    · obtain ⟨q, hq⟩ : ∃ q, kindE ⟨[], ds, []⟩ d.on [4] = q := ⟨_, rfl⟩
      have HQ := Lib.hid (show kindE ⟨[], ds, []⟩ (⟨d.on.toArray⟩ : ByteArray).data.toList [4] = q by rw [← hq])
      have HE := Lib.hid (show declE d ds t = (q, addT t d) by simp only [declE]; rw [hr, if_neg h0, if_neg h1, if_neg (by rw [hb]; decide), if_pos h5, hq])
      have h5i : (((d.kind : Nat) : Int) == 5) = true := by rw [h5]; rfl
      have OK : Hid (ScOk ⟨[], ds, []⟩) := Lib.hid ⟨by simp, hl, by simp⟩
      rw [HE.out]
      clear hr hb h1 h5 hq
      go_enter Tryz.func42, Tryz.ntmps42
      go_wp2_with (first
        | (go_at_call 44; refine (declarationOf_at _ _ _ _ _ HI.out HV.out hl).mono ?_; rintro e w1 ⟨rfl, hb1⟩; have c0 := (hb1.cell (p := ⟨w.heap.size, 0, none⟩) hS).trans K0.out; have c1 := (hb1.cell (p := ⟨w.heap.size, 1, none⟩) hS).trans K1.out; have c2 := (hb1.cell (p := ⟨w.heap.size, 2, none⟩) hS).trans K2.out; have c3 := (hb1.cell (p := ⟨w.heap.size, 3, none⟩) hS).trans K3.out; have c4 := (hb1.cell (p := ⟨w.heap.size, 4, none⟩) hS).trans K4.out; have c5 := (hb1.cell (p := ⟨w.heap.size, 5, none⟩) hS).trans K5.out; have hS1 := Nat.lt_of_lt_of_le hS hb1.size)
        | (go_at_call 73; refine (totalAdd_any _ G t d (HG.out.below hb1) ht hz).mono ?_; rintro e w2 ⟨rfl, hk2, ht2⟩; have HT2 := Lib.hid ht2; clear ht2; have e0 := (hk2.cell (o := 0) hS1 hSG).trans c0; have e5 := (hk2.cell (o := 5) hS1 hSG).trans c5)
        | (go_at_call 74; refine (tooLarge_at _ G _ _ HB.out HT2.out).mono ?_; rintro e w3 ⟨rfl, rfl⟩; have HD3 := Lib.hid ((HV.out.below hb1).kept hk2 hne))
        | (go_at_call 75; refine (kind_at _ _ _ _ _ ⟨[], ds, []⟩ _ [4] _ HQ.out ⟨NsAt.nil _, HD3.out.below ((Below.refl _ _).alloc (Nat.le_refl _) _), TsAt.nil _⟩ OK.out (ZsAt.one _ 4 _ _ rfl) (by simp)).mono ?_; rintro e w4 ⟨rfl, hb4⟩))
      go_ret
      have ha := (Below.refl w3.heap.size w3).alloc (Nat.le_refl _) (.cells #[.int .i64 4] 140)
      exact ⟨rfl, ((HA.out.trans (Kept.of_below hb1)).trans hk2).trans ((Kept.of_below ha).trans (Kept.of_below hb4)), (HT2.out.below ha).below hb4⟩
    · have HE := Lib.hid (show declE d ds t = (0, addT t d) by simp only [declE]; rw [hr, if_neg h0, if_neg h1, if_neg (by rw [hb]; decide), if_neg h5])
      have h5i : ¬ (d.kind : Int) = 5 := by omega
      rw [HE.out]
      clear hr hb h1 h5
      go_enter Tryz.func42, Tryz.ntmps42
      go_wp2_with (first
        | (go_at_call 44; refine (declarationOf_at _ _ _ _ _ HI.out HV.out hl).mono ?_; rintro e w1 ⟨rfl, hb1⟩; have c0 := (hb1.cell (p := ⟨w.heap.size, 0, none⟩) hS).trans K0.out; have c1 := (hb1.cell (p := ⟨w.heap.size, 1, none⟩) hS).trans K1.out; have c2 := (hb1.cell (p := ⟨w.heap.size, 2, none⟩) hS).trans K2.out; have c3 := (hb1.cell (p := ⟨w.heap.size, 3, none⟩) hS).trans K3.out; have c4 := (hb1.cell (p := ⟨w.heap.size, 4, none⟩) hS).trans K4.out; have c5 := (hb1.cell (p := ⟨w.heap.size, 5, none⟩) hS).trans K5.out; have hS1 := Nat.lt_of_lt_of_le hS hb1.size)
        | (go_at_call 73; refine (totalAdd_any _ G t d (HG.out.below hb1) ht hz).mono ?_; rintro e w2 ⟨rfl, hk2, ht2⟩; have HT2 := Lib.hid ht2; clear ht2; have e0 := (hk2.cell (o := 0) hS1 hSG).trans c0)
        | (go_at_call 74; refine (tooLarge_at _ G _ _ HB.out HT2.out).mono ?_; rintro e w3 ⟨rfl, rfl⟩))
      go_ret
      exact ⟨rfl, (HA.out.trans (Kept.of_below hb1)).trans hk2, HT2.out⟩
end Ck
end Go.Proofs.YtncflfadgcaldaaGreatDoor
