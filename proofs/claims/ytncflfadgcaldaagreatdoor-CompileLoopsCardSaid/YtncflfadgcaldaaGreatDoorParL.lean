/-
  The contract of parse.Expr: the expression that a text spells, or its error and line.
-/
import Derived.Test.YtncflfadgcaldaaGreatDoorParK
import Derived.Deep.AppendLies
namespace Go.Proofs.YtncflfadgcaldaaGreatDoor
open Go.RowKit
open Par

namespace Par
open Tok (T Bs)
/-- The line of an error at the first of the tokens q, which end the tokens ts. -/
def lineAt (ts q : List T) : Nat := match q with
  | t :: _ => t.2.2
  | [] => match ts.getLast? with
    | some t => t.2.2
    | none => 1
def E0 : E := .mk 0 0 ⟨#[]⟩ []
/-- What a reader makes of all tokens, or ErrSyntax and its line. -/
def allOf {α : Type} (none : α) (f : Pa α) (ts : List T) : α × Nat × Nat := match f ts with
  | .error q => (none, 3, lineAt ts q)
  | .ok (x, q) => if q = [] then (x, 0, 0) else (none, 3, lineAt ts q)
/-- What Expr returns. -/
def exprOut (s : Bs) : E × Nat × Nat := if (Tok.scan s).2.1 = 0 then allOf E0 (exprP (unaryF ((Tok.scan s).1.length + 1))) (Tok.scan s).1 else (E0, (Tok.scan s).2.1, (Tok.scan s).2.2)
end Par

set_option maxHeartbeats 1000000 in
set_option maxRecDepth 100000 in
theorem line_any (w : World) (P : Nat) (all : List Tok.T) (st : St) (h : Is w P all st) :
    Calls Tryz.prog 12 #[.pointer (some ⟨P, 0, none⟩)] w fun e w' => e = .returned (.int .i64 (lineAt all st.rem)) ∧ Below w.heap.size w w' := by
  obtain ⟨v, k, h⟩ := h
  have c0 := h.c0
  have c1 := h.c1
  have hP := h.lt
  have hk := h.le
  have hl := h.sm
  have hd := Lib.hid h.drop
  have ht := Lib.hid h.toks
  clear h
  by_cases h0 : all.length = 0
  · obtain ⟨ad, cap, rfl, _⟩ := ht.out
    have hL := Lib.hid (show lineAt all st.rem = 1 by
      have e1 : all = [] := List.eq_nil_of_length_eq_zero h0
      subst e1
      have e2 := hd.out
      rw [List.drop_nil] at e2
      rw [← e2]
      rfl)
    rw [h0] at c0
    go_enter Tryz.func12, Tryz.ntmps12
    go_wp2_with fail
    go_ret
    rw [hL.out]
    exact ⟨rfl, Below.refl _ _⟩
  · obtain ⟨j, hj⟩ : ∃ j, j = min k (all.length - 1) := ⟨_, rfl⟩
    have hjl : j < all.length := by omega
    obtain ⟨g, cap, rfl, hgp, hg, t0, t1, t2⟩ := ht.out.at_ j hjl
    have hL := Lib.hid (show lineAt all st.rem = all[j].2.2 by
      rw [← hd.out]
      by_cases hk2 : k < all.length
      · have e1 : j = k := by omega
        subst e1
        rw [List.drop_eq_getElem_cons hk2]
        rfl
      · have e1 : j = all.length - 1 := by omega
        have e2 : all.drop k = [] := List.drop_eq_nil_of_le (by omega)
        rw [e2]
        subst e1
        simp only [lineAt]
        rw [List.getLast?_eq_getElem?, List.getElem?_eq_getElem hjl])
    have hm : (min (k : Int) ((all.length : Int) - 1)).toNat = j := by omega
    have t3 : w.cell? ⟨g, (min (k : Int) ((all.length : Int) - 1)).toNat * 3 + 2, none⟩ = some (.int .i64 all[j].2.2) := by rw [hm]; exact t2
    have hne : ((all.length : Int) == 0) = false := by simpa using h0
    have HL := Lib.hid hL.out
    clear hd ht hL hm t0 t1 t2 hj
    go_enter Tryz.func12, Tryz.ntmps12
    go_wp2_with fail
    go_region
    all_goals
      go_wp2_with fail
      go_ret
      rw [HL]
      exact ⟨rfl, (Below.refl _ _).drew⟩

namespace Par
open Tok (T Bs)
/-- The slice that Scan returns holds the tokens, below the parser that is laid behind it. -/
theorem toks_of_own {w : World} {B P : Nat} {v : Value} {ts : List T} (h : w.ownsRow B 68 3 v ts.length (Tok.cells ts)) (hP : w.heap.size ≤ P) : Toks w P v ts := by
  rcases Nat.eq_zero_or_pos ts.length with h0 | h0
  · rcases h.2 with ⟨rfl, hn⟩ | ⟨g, cap, cur, rfl, _⟩
    · refine ⟨none, 0, by rw [h0], fun hp => absurd hp (by omega)⟩
    · exact ⟨_, cap, rfl, fun hp => absurd hp (by omega)⟩
  · obtain ⟨g, cap, hv, hb, hlt⟩ := h.form h0
    refine ⟨_, cap, hv, fun _ => ⟨g, rfl, by omega, hlt, fun j u hj => ?_⟩⟩
    have := h.cells (g := g) (by rw [hv]; rfl) j u hj
    simpa [Addr.add_lit] using this
/-- What the calls ask of the two variables that they read: both hold errors. -/
def Two (w : World) : Prop := Tok.Vars w ∧ 3 < w.heap.size ∧ ∃ te pe, w.cell? ⟨3, 0, none⟩ = some (.iface te pe)
theorem Two.below {w w' : World} (h : Two w) (b : Below w.heap.size w w') : Two w' := by
  obtain ⟨h1, h2, te, pe, hc⟩ := h
  exact ⟨h1.below b, Nat.lt_of_lt_of_le h2 b.size, te, pe, (b.cell (p := ⟨3, 0, none⟩) h2).trans hc⟩
/-- A new parser over these tokens. -/
theorem is_new {w : World} {v : Value} {ts : List T} {t : TypeId} (ht : Toks w w.heap.size v ts) (hv : Two w) (hs : ts.length ≤ 5000) (hw : ∀ t ∈ ts, WF t) :
    Is (w.alloc (.cells #[v, .int .i64 0, .bool false] t)) w.heap.size ts (.on ts) := by
  obtain ⟨_, h2, te, pe, hc⟩ := hv
  have hb : Below w.heap.size w (w.alloc (.cells #[v, .int .i64 0, .bool false] t)) := (Below.refl _ _).alloc (Nat.le_refl _) _
  exact ⟨v, 0, ht.below hb, Nat.zero_le _, rfl, by simp, by simp, by simp [St.bad], by simp, by simp, by simp, ⟨by simp; omega, h2, te, pe, (hb.cell (p := ⟨3, 0, none⟩) h2).trans hc⟩, hs, hw⟩
/-- What Expr leaves. -/
def PostX (s : Bs) (w : World) (e : Ending) (w' : World) : Prop :=
  ∃ op n nm a len cap, e = .returned (.tuple #[.agg #[.int .i64 op, .int .i64 n, .string nm, .slice a len cap], .int .i64 (exprOut s).2.1, .int .i64 (exprOut s).2.2]) ∧ Below w.heap.size w w' ∧
    RdE w' (From w.heap.size) (exprOut s).1 (.agg #[.int .i64 op, .int .i64 n, .string nm, .slice a len cap])
theorem below_call {w2 w3 : World} {o : Obj} (h : Below (w2.alloc o).heap.size (w2.alloc o).drew w3) : Below w2.heap.size w2 w3 :=
  ((((Below.refl _ _).alloc (Nat.le_refl _) o).drew)).trans (h.mono (by simp))
theorem at_more {w : World} {P : Nat} {all q : List T} {v : Value} {k : Nat} (h : At w P all (.on q) v k) (hq : q ≠ []) : k < all.length := by
  have hd := h.drop
  simp only [St.rem] at hd
  rcases Nat.lt_or_ge k all.length with h1 | h1
  · exact h1
  · rw [List.drop_eq_nil_of_le h1] at hd
    exact absurd hd.symm hq
theorem at_end {w : World} {P : Nat} {all : List T} {v : Value} {k : Nat} (h : At w P all (.on []) v k) : w.cell? ⟨P, 1, none⟩ = some (.int .i64 all.length) := by
  have hd := h.drop
  have hl := h.le
  simp only [St.rem, List.drop_eq_nil_iff] at hd
  have : k = all.length := by omega
  rw [h.c1, this]
theorem rdE_zero {w : World} {S : Nat → Prop} : RdE w S E0 (.agg #[.int .i64 0, .int .i64 0, .string ⟨#[]⟩, .slice none 0 0]) := ⟨_, _, rfl, .inl rfl⟩
end Par

end Go.Proofs.YtncflfadgcaldaaGreatDoor
