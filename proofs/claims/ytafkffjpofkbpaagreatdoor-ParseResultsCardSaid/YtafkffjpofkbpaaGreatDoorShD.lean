/-
  shapedDecl, shapedThread and Shaped at shaped programs in new blocks: true.
-/
import Derived.Test.YtafkffjpofkbpaaGreatDoorShS
import Derived.Test.YtafkffjpofkbpaaGreatDoorPstP
namespace Go.Proofs.YtafkffjpofkbpaaGreatDoor
open Go.RowKit
open Par

namespace Par
open Tok (T Bs)
/-- A shaped declaration. -/
def shD (d : Dc) : Bool := Tok.isName d.name && decide (d.init ≠ -9223372036854775808) &&
  (if d.kind = 1 then d.on.isEmpty
   else if d.kind = 2 then decide (d.size = 0) && d.on.isEmpty
   else if d.kind = 5 then decide (d.size = 0) && decide (d.init = 0) && Tok.isName d.on
   else (decide (d.kind = 3) || decide (d.kind = 4) || decide (d.kind = 6)) && decide (d.size = 0) && decide (d.init = 0) && d.on.isEmpty)
def shT (t : Th) : Bool := Tok.isName t.name && t.locals.all (fun s => Tok.isName s) && shSs t.body
def shP (p : Pg) : Bool := p.decls.all shD && p.threads.all shT && !p.threads.isEmpty
end Par

set_option maxHeartbeats 4000000 in
set_option maxRecDepth 100000 in
theorem shapedDecl_any (w : World) (d : Dc) (h : shD d = true) (hn : d.name.length ≤ maxLen) (ho : d.on.length ≤ maxLen) :
    Calls Tryz.prog 24 #[.agg #[.int .i64 d.kind, .int .i64 d.line, .string ⟨d.name.toArray⟩, .int .i64 d.size, .int .i64 d.init, .string ⟨d.on.toArray⟩]] w fun e w' => e = .returned (.bool true) ∧ Below w.heap.size w w' := by
  obtain ⟨kind, line, name, size, init, on⟩ := d
  simp only [shD, Bool.and_eq_true, decide_eq_true_eq] at h
  obtain ⟨⟨hnm, hi0⟩, hk⟩ := h
  have CI := Lib.hid (fun w => isName_any ⟨name.toArray⟩ w (by show name.toArray.size ≤ _; simpa using hn))
  have e1 : (⟨name.toArray⟩ : ByteArray).data.toList = name := rfl
  rw [e1, hnm] at CI
  have CO := fun w => isName_any ⟨on.toArray⟩ w (by show on.toArray.size ≤ _; simpa using ho)
  have e2 : (⟨on.toArray⟩ : ByteArray).data.toList = on := rfl
  rw [e2] at CO
  have hib : (init == -9223372036854775808) = false := by simpa using hi0
  have hii : ¬ init = -9223372036854775808 := hi0
  have hsz : ¬ ((size : Nat) : Int) < 0 := by omega
  have hcell : ∀ w1, Below (w.alloc (.cells #[.int .i64 kind, .int .i64 line, .string ⟨name.toArray⟩, .int .i64 size, .int .i64 init, .string ⟨on.toArray⟩] 54)).heap.size (w.alloc (.cells #[.int .i64 kind, .int .i64 line, .string ⟨name.toArray⟩, .int .i64 size, .int .i64 init, .string ⟨on.toArray⟩] 54)) w1 →
      ∀ j u, (#[Value.int .i64 kind, .int .i64 line, .string ⟨name.toArray⟩, .int .i64 size, .int .i64 init, .string ⟨on.toArray⟩] : Array Value)[j]? = some u → w1.cell? ⟨w.heap.size, j, none⟩ = some u := fun w1 hb j u hj =>
    ((hb.cell (p := ⟨w.heap.size, j, none⟩) (by simp)).trans (World.cell?_alloc_at _ _ _ _ rfl)).trans hj
  have HC := Lib.hid hcell
  clear hcell hnm hn ho hi0 e1 e2
  by_cases k1 : kind = 1
  · subst k1
    rw [if_pos rfl] at hk
    have hon : on = [] := by simpa using hk
    subst hon
    clear CO hk
    go_enter Tryz.func24, Tryz.ntmps24
    go_wp2_with (go_at_call 51; refine (CI.out _).mono ?_; rintro e w1 ⟨rfl, hb⟩; have d0 := HC.out w1 hb 0 _ rfl; have d3 := HC.out w1 hb 3 _ rfl; have d4 := HC.out w1 hb 4 _ rfl; have d5 := HC.out w1 hb 5 _ rfl)
    go_ret
    exact ⟨rfl, ((Below.refl _ _).alloc (Nat.le_refl _) _).trans (hb.mono (by simp))⟩
  · rw [if_neg k1] at hk
    by_cases k2 : kind = 2
    · subst k2
      rw [if_pos rfl] at hk
      simp only [Bool.and_eq_true, decide_eq_true_eq] at hk
      obtain ⟨rfl, hon⟩ := hk
      have hon : on = [] := by simpa using hon
      subst hon
      clear CO k1
      go_enter Tryz.func24, Tryz.ntmps24
      go_wp2_with (go_at_call 51; refine (CI.out _).mono ?_; rintro e w1 ⟨rfl, hb⟩; have d0 := HC.out w1 hb 0 _ rfl; have d3 := HC.out w1 hb 3 _ rfl; have d4 := HC.out w1 hb 4 _ rfl; have d5 := HC.out w1 hb 5 _ rfl)
      go_ret
      exact ⟨rfl, ((Below.refl _ _).alloc (Nat.le_refl _) _).trans (hb.mono (by simp))⟩
    · rw [if_neg k2] at hk
      by_cases k5 : kind = 5
      · subst k5
        rw [if_pos rfl] at hk
        simp only [Bool.and_eq_true, decide_eq_true_eq] at hk
        obtain ⟨⟨rfl, rfl⟩, hon⟩ := hk
        rw [hon] at CO
        have CO2 := Lib.hid CO
        clear CO k1 k2 hon
        go_enter Tryz.func24, Tryz.ntmps24
        go_wp2_with fail
        go_at_call 51
        refine (CI.out _).mono ?_
        rintro e w1 ⟨rfl, hb⟩
        have d0 := HC.out w1 hb 0 _ rfl
        have d3 := HC.out w1 hb 3 _ rfl
        have d4 := HC.out w1 hb 4 _ rfl
        have d5 := HC.out w1 hb 5 _ rfl
        go_wp2_with (go_at_call 51; refine (CO2.out _).mono ?_; rintro e w2 ⟨rfl, hb2⟩)
        go_ret
        have z := hb.size
        simp at z
        exact ⟨rfl, (((Below.refl _ _).alloc (Nat.le_refl _) _).trans (hb.mono (by simp))).trans (hb2.mono (by omega))⟩
      · rw [if_neg k5] at hk
        simp only [Bool.and_eq_true, Bool.or_eq_true, decide_eq_true_eq] at hk
        obtain ⟨⟨⟨hkk, rfl⟩, rfl⟩, hon⟩ := hk
        have hon : on = [] := by simpa using hon
        subst hon
        clear CO k1 k2 k5
        rcases hkk with (rfl | rfl) | rfl
        all_goals
          go_enter Tryz.func24, Tryz.ntmps24
          go_wp2_with (go_at_call 51; refine (CI.out _).mono ?_; rintro e w1 ⟨rfl, hb⟩; have d0 := HC.out w1 hb 0 _ rfl; have d3 := HC.out w1 hb 3 _ rfl; have d4 := HC.out w1 hb 4 _ rfl; have d5 := HC.out w1 hb 5 _ rfl)
          go_ret
          exact ⟨rfl, ((Below.refl _ _).alloc (Nat.le_refl _) _).trans (hb.mono (by simp))⟩
end Go.Proofs.YtafkffjpofkbpaaGreatDoor
