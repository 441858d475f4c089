/-
  Whether one expression is shaped apart from its operands (parse.operands, fittingName, fittingExpr), for every expression.
-/
import Derived.Test.YtncflfadgcaldaaGreatDoorFoE
import Derived.Test.YtncflfadgcaldaaGreatDoorAwD
namespace Go.Proofs.YtncflfadgcaldaaGreatDoor
open Go.RowKit
open Par

set_option maxHeartbeats 1000000 in
theorem operands_any (op : Int) (w : World) : Calls Tryz.prog 155 #[.int .i64 op] w fun e w' => e = .returned (.int .i64 (arity op)) ∧ w' = w := by
  by_cases h1 : op = 1
  · subst h1
    go_enter Tryz.func155, Tryz.ntmps155
    go_wp2
    go_ret
    exact ⟨rfl, rfl⟩
  · by_cases h2 : op = 2
    · subst h2
      go_enter Tryz.func155, Tryz.ntmps155
      go_wp2
      go_ret
      exact ⟨rfl, rfl⟩
    · by_cases h3 : op = 3 ∨ op = 4 ∨ op = 5
      · have ha := Lib.hid (show arity op = 1 by unfold arity; rw [if_neg (by omega), if_pos h3])
        rcases h3 with rfl | rfl | rfl
        all_goals
          go_enter Tryz.func155, Tryz.ntmps155
          go_wp2
          go_ret
          rw [ha.out]
          exact ⟨rfl, rfl⟩
      · have ha := Lib.hid (show arity op = 2 by unfold arity; rw [if_neg (by omega), if_neg h3])
        have h31 : ¬ op = 3 := fun e => h3 (.inl e)
        have h32 : ¬ op = 4 := fun e => h3 (.inr (.inl e))
        have h33 : ¬ op = 5 := fun e => h3 (.inr (.inr e))
        clear h3
        go_enter Tryz.func155, Tryz.ntmps155
        go_wp2
        go_ret
        rw [ha.out]
        exact ⟨rfl, rfl⟩

namespace Par
/-- A name where one is asked, nothing where none is. -/
def fname (s : ByteArray) (b : Bool) : Bool := if b = true then Tok.isName s.data.toList else decide (s.size = 0)
end Par

set_option maxHeartbeats 1000000 in
theorem fittingName_any (s : ByteArray) (b : Bool) (w : World) (hs : s.size ≤ maxLen) :
    Calls Tryz.prog 99 #[.string s, .bool b] w fun e w' => e = .returned (.bool (fname s b)) ∧ Below w.heap.size w w' := by
  have CI := Lib.hid (fun w => isName_any s w hs)
  cases b
  · by_cases h0 : s.size = 0
    · have hf := Lib.hid (show fname s false = true by unfold fname; rw [if_neg (by decide)]; exact decide_eq_true h0)
      have : s = ⟨#[]⟩ := by
        apply ByteArray.ext
        exact Array.eq_empty_of_size_eq_zero h0
      subst this
      clear h0
      go_enter Tryz.func99, Tryz.ntmps99
      go_wp2_with fail
      go_ret
      rw [hf.out]
      exact ⟨rfl, Below.refl _ _⟩
    · have hf := Lib.hid (show fname s false = false by unfold fname; rw [if_neg (by decide)]; exact decide_eq_false h0)
      have hne2 : (s.toList == []) = false := by
        have hne : s.toList ≠ [] := by
          intro e
          rw [Lib.toList_data] at e
          have e2 : s.data.toList.length = s.size := by simp
          have e3 : s.data.toList.length = 0 := by rw [e]; rfl
          omega
        simpa using hne
      clear h0
      go_enter Tryz.func99, Tryz.ntmps99
      go_wp2_with fail
      go_ret
      rw [hf.out]
      exact ⟨rfl, Below.refl _ _⟩
  · have hf := Lib.hid (show fname s true = Tok.isName s.data.toList by unfold fname; rw [if_pos rfl])
    cases hn : Tok.isName s.data.toList
    all_goals
      rw [hn] at CI hf
      clear hn
      go_enter Tryz.func99, Tryz.ntmps99
      go_wp2_with (go_at_call 69; refine (CI.out _).mono ?_; rintro e w1 ⟨rfl, hb⟩)
      go_ret
      rw [hf.out]
      exact ⟨rfl, hb⟩

namespace Par
theorem fitN_eq (op n : Int) (nm : ByteArray) (k : Nat) : fitN op n nm k = (decide (1 ≤ op) && decide (op ≤ 18) && decide (k = arity op) && fname nm (decide (op = 2 ∨ op = 3)) && (decide (n = 0) || (decide (op = 1) && decide (0 < n)))) := by
  unfold fitN fname
  by_cases h : op = 2 ∨ op = 3
  · simp [h]
  · simp [h]
end Par

set_option maxHeartbeats 8000000 in
set_option maxRecDepth 100000 in
theorem fittingExpr_any (w : World) (g o : Nat) (op n : Int) (nm : ByteArray) (a : Option Addr) (len cap : Nat) (hs : nm.size ≤ maxLen)
    (c0 : w.cell? ⟨g, o, none⟩ = some (.int .i64 op)) (c1 : w.cell? ⟨g, o + 1, none⟩ = some (.int .i64 n)) (c2 : w.cell? ⟨g, o + 2, none⟩ = some (.string nm)) (c3 : w.cell? ⟨g, o + 3, none⟩ = some (.slice a len cap)) :
    Calls Tryz.prog 131 #[.pointer (some ⟨g, o, none⟩)] w fun e w' => e = .returned (.bool (fitN op n nm len)) ∧ Below w.heap.size w w' := by
  have CO := Lib.hid (fun w => operands_any op w)
  have HR := Lib.hid (fitN_eq op n nm len)
  by_cases h1 : 1 ≤ op
  · have hlg : g < w.heap.size := block_lt_of_cell c0
    by_cases h2 : op ≤ 18
    · have CN0 := fun b w => fittingName_any nm b w hs
      obtain ⟨k, hk⟩ : ∃ k, k = arity op := ⟨_, rfl⟩
      rw [← hk] at CO HR
      have h1t : decide (1 ≤ op) = true := decide_eq_true h1
      have h2t : decide (op ≤ 18) = true := decide_eq_true h2
      by_cases hl : len = k
      · subst hl
        rw [h1t, h2t, decide_eq_true rfl] at HR
        clear hk
        rcases (show op = 1 ∨ op = 2 ∨ op = 3 ∨ (¬ op = 1 ∧ ¬ op = 2 ∧ ¬ op = 3) by omega) with rfl | rfl | rfl | ⟨hop1, hop2, hop3⟩
        · have hdb : decide (((1 : Int) = 2) ∨ ((1 : Int) = 3)) = false := by decide
          rw [hdb] at HR
          have CN := Lib.hid (CN0 false)
          clear CN0 h1t h2t hdb
          cases hf : fname nm false
          · rw [hf] at CN HR
            have hr := Lib.hid (show fitN 1 n nm len = false by rw [HR.out]; rfl)
            rw [hr.out]
            clear hr HR hf
            go_enter Tryz.func131, Tryz.ntmps131
            go_wp2_with fail
            have d0 : ∀ x : In (Below w.heap.size w), x.x.cell? ⟨g, o, none⟩ = some (.int .i64 1) := fun x => (x.h.cell (p := ⟨g, o, none⟩) hlg).trans c0
            have d1 : ∀ x : In (Below w.heap.size w), x.x.cell? ⟨g, o + 1, none⟩ = some (.int .i64 n) := fun x => (x.h.cell (p := ⟨g, o + 1, none⟩) hlg).trans c1
            have d2 : ∀ x : In (Below w.heap.size w), x.x.cell? ⟨g, o + 2, none⟩ = some (.string nm) := fun x => (x.h.cell (p := ⟨g, o + 2, none⟩) hlg).trans c2
            have d3 : ∀ x : In (Below w.heap.size w), x.x.cell? ⟨g, o + 3, none⟩ = some (.slice a len cap) := fun x => (x.h.cell (p := ⟨g, o + 3, none⟩) hlg).trans c3
            have HX : Hid (∀ (x : In (Below w.heap.size w)) (y : World), Below x.x.heap.size x.x y → Below w.heap.size w y) := Lib.hid (fun x y hb => x.h.trans (hb.mono x.h.size))
            clear c0 c1 c2 c3
            haveI : Nonempty (In (Below w.heap.size w)) := ⟨⟨w, Below.refl _ _⟩⟩
            try simp only [List.append]
            refine wp_region_class (I := In (Below w.heap.size w)) (fun x => x.x) (by kernel_rfl) (by kernel_rfl) ⟨⟨_, (Below.refl _ _).drew⟩, rfl⟩ ?_
            repeat (go_big_quiet_step (first
              | (go_at_call 155; (with_reducible refine (CO.out _).mono ?_); rintro e w2 ⟨rfl, rfl⟩; exact ⟨rfl, _, rfl⟩)
              | (go_at_call 99; (with_reducible refine (CN.out _).mono ?_); rintro e w2 ⟨rfl, hb2⟩; exact ⟨rfl, ⟨_, HX.out _ _ hb2⟩, rfl⟩)))
            refine wpQuiet_nil ?_
            rintro _ ⟨x, rfl⟩
            have hx := x.h
            go_wp2_with fail
            go_ret
            exact ⟨rfl, hx⟩
          · rw [hf] at CN HR
            by_cases hn : n = 0
            · subst hn
              have hr := Lib.hid (show fitN 1 0 nm len = true by rw [HR.out]; rfl)
              rw [hr.out]
              clear hr HR hf
              go_enter Tryz.func131, Tryz.ntmps131
              go_wp2_with fail
              have d0 : ∀ x : In (Below w.heap.size w), x.x.cell? ⟨g, o, none⟩ = some (.int .i64 1) := fun x => (x.h.cell (p := ⟨g, o, none⟩) hlg).trans c0
              have d1 : ∀ x : In (Below w.heap.size w), x.x.cell? ⟨g, o + 1, none⟩ = some (.int .i64 0) := fun x => (x.h.cell (p := ⟨g, o + 1, none⟩) hlg).trans c1
              have d2 : ∀ x : In (Below w.heap.size w), x.x.cell? ⟨g, o + 2, none⟩ = some (.string nm) := fun x => (x.h.cell (p := ⟨g, o + 2, none⟩) hlg).trans c2
              have d3 : ∀ x : In (Below w.heap.size w), x.x.cell? ⟨g, o + 3, none⟩ = some (.slice a len cap) := fun x => (x.h.cell (p := ⟨g, o + 3, none⟩) hlg).trans c3
              have HX : Hid (∀ (x : In (Below w.heap.size w)) (y : World), Below x.x.heap.size x.x y → Below w.heap.size w y) := Lib.hid (fun x y hb => x.h.trans (hb.mono x.h.size))
              clear c0 c1 c2 c3
              haveI : Nonempty (In (Below w.heap.size w)) := ⟨⟨w, Below.refl _ _⟩⟩
              try simp only [List.append]
              refine wp_region_class (I := In (Below w.heap.size w)) (fun x => x.x) (by kernel_rfl) (by kernel_rfl) ⟨⟨_, (Below.refl _ _).drew⟩, rfl⟩ ?_
              repeat (go_big_quiet_step (first
                | (go_at_call 155; (with_reducible refine (CO.out _).mono ?_); rintro e w2 ⟨rfl, rfl⟩; exact ⟨rfl, _, rfl⟩)
                | (go_at_call 99; (with_reducible refine (CN.out _).mono ?_); rintro e w2 ⟨rfl, hb2⟩; exact ⟨rfl, ⟨_, HX.out _ _ hb2⟩, rfl⟩)))
              refine wpQuiet_nil ?_
              rintro _ ⟨x, rfl⟩
              have hx := x.h
              go_wp2_with fail
              go_ret
              exact ⟨rfl, hx⟩
            · have hnb : (n == 0) = false := by simpa using hn
              by_cases hp : 0 < n
              · have hr := Lib.hid (show fitN 1 n nm len = true by rw [HR.out, decide_eq_true hp, decide_eq_false hn]; rfl)
                rw [hr.out]
                clear hr HR hf
                go_enter Tryz.func131, Tryz.ntmps131
                go_wp2_with fail
                have d0 : ∀ x : In (Below w.heap.size w), x.x.cell? ⟨g, o, none⟩ = some (.int .i64 1) := fun x => (x.h.cell (p := ⟨g, o, none⟩) hlg).trans c0
                have d1 : ∀ x : In (Below w.heap.size w), x.x.cell? ⟨g, o + 1, none⟩ = some (.int .i64 n) := fun x => (x.h.cell (p := ⟨g, o + 1, none⟩) hlg).trans c1
                have d2 : ∀ x : In (Below w.heap.size w), x.x.cell? ⟨g, o + 2, none⟩ = some (.string nm) := fun x => (x.h.cell (p := ⟨g, o + 2, none⟩) hlg).trans c2
                have d3 : ∀ x : In (Below w.heap.size w), x.x.cell? ⟨g, o + 3, none⟩ = some (.slice a len cap) := fun x => (x.h.cell (p := ⟨g, o + 3, none⟩) hlg).trans c3
                have HX : Hid (∀ (x : In (Below w.heap.size w)) (y : World), Below x.x.heap.size x.x y → Below w.heap.size w y) := Lib.hid (fun x y hb => x.h.trans (hb.mono x.h.size))
                clear c0 c1 c2 c3
                haveI : Nonempty (In (Below w.heap.size w)) := ⟨⟨w, Below.refl _ _⟩⟩
                try simp only [List.append]
                refine wp_region_class (I := In (Below w.heap.size w)) (fun x => x.x) (by kernel_rfl) (by kernel_rfl) ⟨⟨_, (Below.refl _ _).drew⟩, rfl⟩ ?_
                repeat (go_big_quiet_step (first
                  | (go_at_call 155; (with_reducible refine (CO.out _).mono ?_); rintro e w2 ⟨rfl, rfl⟩; exact ⟨rfl, _, rfl⟩)
                  | (go_at_call 99; (with_reducible refine (CN.out _).mono ?_); rintro e w2 ⟨rfl, hb2⟩; exact ⟨rfl, ⟨_, HX.out _ _ hb2⟩, rfl⟩)))
                refine wpQuiet_nil ?_
                rintro _ ⟨x, rfl⟩
                have hx := x.h
                go_wp2_with fail
                go_ret
                exact ⟨rfl, hx⟩
              · have hpb : decide (0 < n) = false := decide_eq_false hp
                have hr := Lib.hid (show fitN 1 n nm len = false by rw [HR.out, decide_eq_false hp, decide_eq_false hn]; rfl)
                rw [hr.out]
                clear hr HR hf
                go_enter Tryz.func131, Tryz.ntmps131
                go_wp2_with fail
                have d0 : ∀ x : In (Below w.heap.size w), x.x.cell? ⟨g, o, none⟩ = some (.int .i64 1) := fun x => (x.h.cell (p := ⟨g, o, none⟩) hlg).trans c0
                have d1 : ∀ x : In (Below w.heap.size w), x.x.cell? ⟨g, o + 1, none⟩ = some (.int .i64 n) := fun x => (x.h.cell (p := ⟨g, o + 1, none⟩) hlg).trans c1
                have d2 : ∀ x : In (Below w.heap.size w), x.x.cell? ⟨g, o + 2, none⟩ = some (.string nm) := fun x => (x.h.cell (p := ⟨g, o + 2, none⟩) hlg).trans c2
                have d3 : ∀ x : In (Below w.heap.size w), x.x.cell? ⟨g, o + 3, none⟩ = some (.slice a len cap) := fun x => (x.h.cell (p := ⟨g, o + 3, none⟩) hlg).trans c3
                have HX : Hid (∀ (x : In (Below w.heap.size w)) (y : World), Below x.x.heap.size x.x y → Below w.heap.size w y) := Lib.hid (fun x y hb => x.h.trans (hb.mono x.h.size))
                clear c0 c1 c2 c3
                haveI : Nonempty (In (Below w.heap.size w)) := ⟨⟨w, Below.refl _ _⟩⟩
                try simp only [List.append]
                refine wp_region_class (I := In (Below w.heap.size w)) (fun x => x.x) (by kernel_rfl) (by kernel_rfl) ⟨⟨_, (Below.refl _ _).drew⟩, rfl⟩ ?_
                repeat (go_big_quiet_step (first
                  | (go_at_call 155; (with_reducible refine (CO.out _).mono ?_); rintro e w2 ⟨rfl, rfl⟩; exact ⟨rfl, _, rfl⟩)
                  | (go_at_call 99; (with_reducible refine (CN.out _).mono ?_); rintro e w2 ⟨rfl, hb2⟩; exact ⟨rfl, ⟨_, HX.out _ _ hb2⟩, rfl⟩)))
                refine wpQuiet_nil ?_
                rintro _ ⟨x, rfl⟩
                have hx := x.h
                go_wp2_with fail
                go_ret
                exact ⟨rfl, hx⟩
        · have hdb : decide (((2 : Int) = 2) ∨ ((2 : Int) = 3)) = true := by decide
          rw [hdb] at HR
          have CN := Lib.hid (CN0 true)
          clear CN0 h1t h2t hdb
          cases hf : fname nm true
          · rw [hf] at CN HR
            have hr := Lib.hid (show fitN 2 n nm len = false by rw [HR.out]; rfl)
            rw [hr.out]
            clear hr HR hf
            go_enter Tryz.func131, Tryz.ntmps131
            go_wp2_with fail
            have d0 : ∀ x : In (Below w.heap.size w), x.x.cell? ⟨g, o, none⟩ = some (.int .i64 2) := fun x => (x.h.cell (p := ⟨g, o, none⟩) hlg).trans c0
            have d1 : ∀ x : In (Below w.heap.size w), x.x.cell? ⟨g, o + 1, none⟩ = some (.int .i64 n) := fun x => (x.h.cell (p := ⟨g, o + 1, none⟩) hlg).trans c1
            have d2 : ∀ x : In (Below w.heap.size w), x.x.cell? ⟨g, o + 2, none⟩ = some (.string nm) := fun x => (x.h.cell (p := ⟨g, o + 2, none⟩) hlg).trans c2
            have d3 : ∀ x : In (Below w.heap.size w), x.x.cell? ⟨g, o + 3, none⟩ = some (.slice a len cap) := fun x => (x.h.cell (p := ⟨g, o + 3, none⟩) hlg).trans c3
            have HX : Hid (∀ (x : In (Below w.heap.size w)) (y : World), Below x.x.heap.size x.x y → Below w.heap.size w y) := Lib.hid (fun x y hb => x.h.trans (hb.mono x.h.size))
            clear c0 c1 c2 c3
            haveI : Nonempty (In (Below w.heap.size w)) := ⟨⟨w, Below.refl _ _⟩⟩
            try simp only [List.append]
            refine wp_region_class (I := In (Below w.heap.size w)) (fun x => x.x) (by kernel_rfl) (by kernel_rfl) ⟨⟨_, (Below.refl _ _).drew⟩, rfl⟩ ?_
            repeat (go_big_quiet_step (first
              | (go_at_call 155; (with_reducible refine (CO.out _).mono ?_); rintro e w2 ⟨rfl, rfl⟩; exact ⟨rfl, _, rfl⟩)
              | (go_at_call 99; (with_reducible refine (CN.out _).mono ?_); rintro e w2 ⟨rfl, hb2⟩; exact ⟨rfl, ⟨_, HX.out _ _ hb2⟩, rfl⟩)))
            refine wpQuiet_nil ?_
            rintro _ ⟨x, rfl⟩
            have hx := x.h
            go_wp2_with fail
            go_ret
            exact ⟨rfl, hx⟩
          · rw [hf] at CN HR
            by_cases hn : n = 0
            · subst hn
              have hr := Lib.hid (show fitN 2 0 nm len = true by rw [HR.out]; rfl)
              rw [hr.out]
              clear hr HR hf
              go_enter Tryz.func131, Tryz.ntmps131
              go_wp2_with fail
              have d0 : ∀ x : In (Below w.heap.size w), x.x.cell? ⟨g, o, none⟩ = some (.int .i64 2) := fun x => (x.h.cell (p := ⟨g, o, none⟩) hlg).trans c0
              have d1 : ∀ x : In (Below w.heap.size w), x.x.cell? ⟨g, o + 1, none⟩ = some (.int .i64 0) := fun x => (x.h.cell (p := ⟨g, o + 1, none⟩) hlg).trans c1
              have d2 : ∀ x : In (Below w.heap.size w), x.x.cell? ⟨g, o + 2, none⟩ = some (.string nm) := fun x => (x.h.cell (p := ⟨g, o + 2, none⟩) hlg).trans c2
              have d3 : ∀ x : In (Below w.heap.size w), x.x.cell? ⟨g, o + 3, none⟩ = some (.slice a len cap) := fun x => (x.h.cell (p := ⟨g, o + 3, none⟩) hlg).trans c3
              have HX : Hid (∀ (x : In (Below w.heap.size w)) (y : World), Below x.x.heap.size x.x y → Below w.heap.size w y) := Lib.hid (fun x y hb => x.h.trans (hb.mono x.h.size))
              clear c0 c1 c2 c3
              haveI : Nonempty (In (Below w.heap.size w)) := ⟨⟨w, Below.refl _ _⟩⟩
              try simp only [List.append]
              refine wp_region_class (I := In (Below w.heap.size w)) (fun x => x.x) (by kernel_rfl) (by kernel_rfl) ⟨⟨_, (Below.refl _ _).drew⟩, rfl⟩ ?_
              repeat (go_big_quiet_step (first
                | (go_at_call 155; (with_reducible refine (CO.out _).mono ?_); rintro e w2 ⟨rfl, rfl⟩; exact ⟨rfl, _, rfl⟩)
                | (go_at_call 99; (with_reducible refine (CN.out _).mono ?_); rintro e w2 ⟨rfl, hb2⟩; exact ⟨rfl, ⟨_, HX.out _ _ hb2⟩, rfl⟩)))
              refine wpQuiet_nil ?_
              rintro _ ⟨x, rfl⟩
              have hx := x.h
              go_wp2_with fail
              go_ret
              exact ⟨rfl, hx⟩
            · have hnb : (n == 0) = false := by simpa using hn
              have he1b : ((2 : Int) == 1) = false := by decide
              have hr := Lib.hid (show fitN 2 n nm len = false by rw [HR.out, decide_eq_false hn]; rfl)
              rw [hr.out]
              clear hr HR hf
              go_enter Tryz.func131, Tryz.ntmps131
              go_wp2_with fail
              have d0 : ∀ x : In (Below w.heap.size w), x.x.cell? ⟨g, o, none⟩ = some (.int .i64 2) := fun x => (x.h.cell (p := ⟨g, o, none⟩) hlg).trans c0
              have d1 : ∀ x : In (Below w.heap.size w), x.x.cell? ⟨g, o + 1, none⟩ = some (.int .i64 n) := fun x => (x.h.cell (p := ⟨g, o + 1, none⟩) hlg).trans c1
              have d2 : ∀ x : In (Below w.heap.size w), x.x.cell? ⟨g, o + 2, none⟩ = some (.string nm) := fun x => (x.h.cell (p := ⟨g, o + 2, none⟩) hlg).trans c2
              have d3 : ∀ x : In (Below w.heap.size w), x.x.cell? ⟨g, o + 3, none⟩ = some (.slice a len cap) := fun x => (x.h.cell (p := ⟨g, o + 3, none⟩) hlg).trans c3
              have HX : Hid (∀ (x : In (Below w.heap.size w)) (y : World), Below x.x.heap.size x.x y → Below w.heap.size w y) := Lib.hid (fun x y hb => x.h.trans (hb.mono x.h.size))
              clear c0 c1 c2 c3
              haveI : Nonempty (In (Below w.heap.size w)) := ⟨⟨w, Below.refl _ _⟩⟩
              try simp only [List.append]
              refine wp_region_class (I := In (Below w.heap.size w)) (fun x => x.x) (by kernel_rfl) (by kernel_rfl) ⟨⟨_, (Below.refl _ _).drew⟩, rfl⟩ ?_
              repeat (go_big_quiet_step (first
                | (go_at_call 155; (with_reducible refine (CO.out _).mono ?_); rintro e w2 ⟨rfl, rfl⟩; exact ⟨rfl, _, rfl⟩)
                | (go_at_call 99; (with_reducible refine (CN.out _).mono ?_); rintro e w2 ⟨rfl, hb2⟩; exact ⟨rfl, ⟨_, HX.out _ _ hb2⟩, rfl⟩)))
              refine wpQuiet_nil ?_
              rintro _ ⟨x, rfl⟩
              have hx := x.h
              go_wp2_with fail
              go_ret
              exact ⟨rfl, hx⟩
        · have hdb : decide (((3 : Int) = 2) ∨ ((3 : Int) = 3)) = true := by decide
          rw [hdb] at HR
          have CN := Lib.hid (CN0 true)
          clear CN0 h1t h2t hdb
          cases hf : fname nm true
          · rw [hf] at CN HR
            have hr := Lib.hid (show fitN 3 n nm len = false by rw [HR.out]; rfl)
            rw [hr.out]
            clear hr HR hf
            go_enter Tryz.func131, Tryz.ntmps131
            go_wp2_with fail
            have d0 : ∀ x : In (Below w.heap.size w), x.x.cell? ⟨g, o, none⟩ = some (.int .i64 3) := fun x => (x.h.cell (p := ⟨g, o, none⟩) hlg).trans c0
            have d1 : ∀ x : In (Below w.heap.size w), x.x.cell? ⟨g, o + 1, none⟩ = some (.int .i64 n) := fun x => (x.h.cell (p := ⟨g, o + 1, none⟩) hlg).trans c1
            have d2 : ∀ x : In (Below w.heap.size w), x.x.cell? ⟨g, o + 2, none⟩ = some (.string nm) := fun x => (x.h.cell (p := ⟨g, o + 2, none⟩) hlg).trans c2
            have d3 : ∀ x : In (Below w.heap.size w), x.x.cell? ⟨g, o + 3, none⟩ = some (.slice a len cap) := fun x => (x.h.cell (p := ⟨g, o + 3, none⟩) hlg).trans c3
            have HX : Hid (∀ (x : In (Below w.heap.size w)) (y : World), Below x.x.heap.size x.x y → Below w.heap.size w y) := Lib.hid (fun x y hb => x.h.trans (hb.mono x.h.size))
            clear c0 c1 c2 c3
            haveI : Nonempty (In (Below w.heap.size w)) := ⟨⟨w, Below.refl _ _⟩⟩
            try simp only [List.append]
            refine wp_region_class (I := In (Below w.heap.size w)) (fun x => x.x) (by kernel_rfl) (by kernel_rfl) ⟨⟨_, (Below.refl _ _).drew⟩, rfl⟩ ?_
            repeat (go_big_quiet_step (first
              | (go_at_call 155; (with_reducible refine (CO.out _).mono ?_); rintro e w2 ⟨rfl, rfl⟩; exact ⟨rfl, _, rfl⟩)
              | (go_at_call 99; (with_reducible refine (CN.out _).mono ?_); rintro e w2 ⟨rfl, hb2⟩; exact ⟨rfl, ⟨_, HX.out _ _ hb2⟩, rfl⟩)))
            refine wpQuiet_nil ?_
            rintro _ ⟨x, rfl⟩
            have hx := x.h
            go_wp2_with fail
            go_ret
            exact ⟨rfl, hx⟩
          · rw [hf] at CN HR
            by_cases hn : n = 0
            · subst hn
              have hr := Lib.hid (show fitN 3 0 nm len = true by rw [HR.out]; rfl)
              rw [hr.out]
              clear hr HR hf
              go_enter Tryz.func131, Tryz.ntmps131
              go_wp2_with fail
              have d0 : ∀ x : In (Below w.heap.size w), x.x.cell? ⟨g, o, none⟩ = some (.int .i64 3) := fun x => (x.h.cell (p := ⟨g, o, none⟩) hlg).trans c0
              have d1 : ∀ x : In (Below w.heap.size w), x.x.cell? ⟨g, o + 1, none⟩ = some (.int .i64 0) := fun x => (x.h.cell (p := ⟨g, o + 1, none⟩) hlg).trans c1
              have d2 : ∀ x : In (Below w.heap.size w), x.x.cell? ⟨g, o + 2, none⟩ = some (.string nm) := fun x => (x.h.cell (p := ⟨g, o + 2, none⟩) hlg).trans c2
              have d3 : ∀ x : In (Below w.heap.size w), x.x.cell? ⟨g, o + 3, none⟩ = some (.slice a len cap) := fun x => (x.h.cell (p := ⟨g, o + 3, none⟩) hlg).trans c3
              have HX : Hid (∀ (x : In (Below w.heap.size w)) (y : World), Below x.x.heap.size x.x y → Below w.heap.size w y) := Lib.hid (fun x y hb => x.h.trans (hb.mono x.h.size))
              clear c0 c1 c2 c3
              haveI : Nonempty (In (Below w.heap.size w)) := ⟨⟨w, Below.refl _ _⟩⟩
              try simp only [List.append]
              refine wp_region_class (I := In (Below w.heap.size w)) (fun x => x.x) (by kernel_rfl) (by kernel_rfl) ⟨⟨_, (Below.refl _ _).drew⟩, rfl⟩ ?_
              repeat (go_big_quiet_step (first
                | (go_at_call 155; (with_reducible refine (CO.out _).mono ?_); rintro e w2 ⟨rfl, rfl⟩; exact ⟨rfl, _, rfl⟩)
                | (go_at_call 99; (with_reducible refine (CN.out _).mono ?_); rintro e w2 ⟨rfl, hb2⟩; exact ⟨rfl, ⟨_, HX.out _ _ hb2⟩, rfl⟩)))
              refine wpQuiet_nil ?_
              rintro _ ⟨x, rfl⟩
              have hx := x.h
              go_wp2_with fail
              go_ret
              exact ⟨rfl, hx⟩
            · have hnb : (n == 0) = false := by simpa using hn
              have he1b : ((3 : Int) == 1) = false := by decide
              have hr := Lib.hid (show fitN 3 n nm len = false by rw [HR.out, decide_eq_false hn]; rfl)
              rw [hr.out]
              clear hr HR hf
              go_enter Tryz.func131, Tryz.ntmps131
              go_wp2_with fail
              have d0 : ∀ x : In (Below w.heap.size w), x.x.cell? ⟨g, o, none⟩ = some (.int .i64 3) := fun x => (x.h.cell (p := ⟨g, o, none⟩) hlg).trans c0
              have d1 : ∀ x : In (Below w.heap.size w), x.x.cell? ⟨g, o + 1, none⟩ = some (.int .i64 n) := fun x => (x.h.cell (p := ⟨g, o + 1, none⟩) hlg).trans c1
              have d2 : ∀ x : In (Below w.heap.size w), x.x.cell? ⟨g, o + 2, none⟩ = some (.string nm) := fun x => (x.h.cell (p := ⟨g, o + 2, none⟩) hlg).trans c2
              have d3 : ∀ x : In (Below w.heap.size w), x.x.cell? ⟨g, o + 3, none⟩ = some (.slice a len cap) := fun x => (x.h.cell (p := ⟨g, o + 3, none⟩) hlg).trans c3
              have HX : Hid (∀ (x : In (Below w.heap.size w)) (y : World), Below x.x.heap.size x.x y → Below w.heap.size w y) := Lib.hid (fun x y hb => x.h.trans (hb.mono x.h.size))
              clear c0 c1 c2 c3
              haveI : Nonempty (In (Below w.heap.size w)) := ⟨⟨w, Below.refl _ _⟩⟩
              try simp only [List.append]
              refine wp_region_class (I := In (Below w.heap.size w)) (fun x => x.x) (by kernel_rfl) (by kernel_rfl) ⟨⟨_, (Below.refl _ _).drew⟩, rfl⟩ ?_
              repeat (go_big_quiet_step (first
                | (go_at_call 155; (with_reducible refine (CO.out _).mono ?_); rintro e w2 ⟨rfl, rfl⟩; exact ⟨rfl, _, rfl⟩)
                | (go_at_call 99; (with_reducible refine (CN.out _).mono ?_); rintro e w2 ⟨rfl, hb2⟩; exact ⟨rfl, ⟨_, HX.out _ _ hb2⟩, rfl⟩)))
              refine wpQuiet_nil ?_
              rintro _ ⟨x, rfl⟩
              have hx := x.h
              go_wp2_with fail
              go_ret
              exact ⟨rfl, hx⟩
        · have e1 : ¬ op = 1 := hop1
          have e2 : ¬ op = 2 := hop2
          have e3 : ¬ op = 3 := hop3
          have e2b : (op == 2) = false := by simpa using e2
          have e3b : (op == 3) = false := by simpa using e3
          have hdb : decide (op = 2 ∨ op = 3) = false := decide_eq_false (by omega)
          rw [hdb] at HR
          have CN := Lib.hid (CN0 false)
          clear CN0 h1t h2t hdb
          cases hf : fname nm false
          · rw [hf] at CN HR
            have hr := Lib.hid (show fitN op n nm len = false by rw [HR.out]; rfl)
            rw [hr.out]
            clear hr HR hf
            go_enter Tryz.func131, Tryz.ntmps131
            go_wp2_with fail
            have d0 : ∀ x : In (Below w.heap.size w), x.x.cell? ⟨g, o, none⟩ = some (.int .i64 op) := fun x => (x.h.cell (p := ⟨g, o, none⟩) hlg).trans c0
            have d1 : ∀ x : In (Below w.heap.size w), x.x.cell? ⟨g, o + 1, none⟩ = some (.int .i64 n) := fun x => (x.h.cell (p := ⟨g, o + 1, none⟩) hlg).trans c1
            have d2 : ∀ x : In (Below w.heap.size w), x.x.cell? ⟨g, o + 2, none⟩ = some (.string nm) := fun x => (x.h.cell (p := ⟨g, o + 2, none⟩) hlg).trans c2
            have d3 : ∀ x : In (Below w.heap.size w), x.x.cell? ⟨g, o + 3, none⟩ = some (.slice a len cap) := fun x => (x.h.cell (p := ⟨g, o + 3, none⟩) hlg).trans c3
            have HX : Hid (∀ (x : In (Below w.heap.size w)) (y : World), Below x.x.heap.size x.x y → Below w.heap.size w y) := Lib.hid (fun x y hb => x.h.trans (hb.mono x.h.size))
            clear c0 c1 c2 c3
            haveI : Nonempty (In (Below w.heap.size w)) := ⟨⟨w, Below.refl _ _⟩⟩
            try simp only [List.append]
            refine wp_region_class (I := In (Below w.heap.size w)) (fun x => x.x) (by kernel_rfl) (by kernel_rfl) ⟨⟨_, (Below.refl _ _).drew⟩, rfl⟩ ?_
            repeat (go_big_quiet_step (first
              | (go_at_call 155; (with_reducible refine (CO.out _).mono ?_); rintro e w2 ⟨rfl, rfl⟩; exact ⟨rfl, _, rfl⟩)
              | (go_at_call 99; (with_reducible refine (CN.out _).mono ?_); rintro e w2 ⟨rfl, hb2⟩; exact ⟨rfl, ⟨_, HX.out _ _ hb2⟩, rfl⟩)))
            refine wpQuiet_nil ?_
            rintro _ ⟨x, rfl⟩
            have hx := x.h
            go_wp2_with fail
            go_ret
            exact ⟨rfl, hx⟩
          · rw [hf] at CN HR
            by_cases hn : n = 0
            · subst hn
              have hr := Lib.hid (show fitN op 0 nm len = true by rw [HR.out]; rfl)
              rw [hr.out]
              clear hr HR hf
              go_enter Tryz.func131, Tryz.ntmps131
              go_wp2_with fail
              have d0 : ∀ x : In (Below w.heap.size w), x.x.cell? ⟨g, o, none⟩ = some (.int .i64 op) := fun x => (x.h.cell (p := ⟨g, o, none⟩) hlg).trans c0
              have d1 : ∀ x : In (Below w.heap.size w), x.x.cell? ⟨g, o + 1, none⟩ = some (.int .i64 0) := fun x => (x.h.cell (p := ⟨g, o + 1, none⟩) hlg).trans c1
              have d2 : ∀ x : In (Below w.heap.size w), x.x.cell? ⟨g, o + 2, none⟩ = some (.string nm) := fun x => (x.h.cell (p := ⟨g, o + 2, none⟩) hlg).trans c2
              have d3 : ∀ x : In (Below w.heap.size w), x.x.cell? ⟨g, o + 3, none⟩ = some (.slice a len cap) := fun x => (x.h.cell (p := ⟨g, o + 3, none⟩) hlg).trans c3
              have HX : Hid (∀ (x : In (Below w.heap.size w)) (y : World), Below x.x.heap.size x.x y → Below w.heap.size w y) := Lib.hid (fun x y hb => x.h.trans (hb.mono x.h.size))
              clear c0 c1 c2 c3
              haveI : Nonempty (In (Below w.heap.size w)) := ⟨⟨w, Below.refl _ _⟩⟩
              try simp only [List.append]
              refine wp_region_class (I := In (Below w.heap.size w)) (fun x => x.x) (by kernel_rfl) (by kernel_rfl) ⟨⟨_, (Below.refl _ _).drew⟩, rfl⟩ ?_
              repeat (go_big_quiet_step (first
                | (go_at_call 155; (with_reducible refine (CO.out _).mono ?_); rintro e w2 ⟨rfl, rfl⟩; exact ⟨rfl, _, rfl⟩)
                | (go_at_call 99; (with_reducible refine (CN.out _).mono ?_); rintro e w2 ⟨rfl, hb2⟩; exact ⟨rfl, ⟨_, HX.out _ _ hb2⟩, rfl⟩)))
              refine wpQuiet_nil ?_
              rintro _ ⟨x, rfl⟩
              have hx := x.h
              go_wp2_with fail
              go_ret
              exact ⟨rfl, hx⟩
            · have hnb : (n == 0) = false := by simpa using hn
              have he1b : ((op : Int) == 1) = false := by simpa using e1
              have hr := Lib.hid (show fitN op n nm len = false by rw [HR.out, decide_eq_false hn, decide_eq_false e1]; rfl)
              rw [hr.out]
              clear hr HR hf
              go_enter Tryz.func131, Tryz.ntmps131
              go_wp2_with fail
              have d0 : ∀ x : In (Below w.heap.size w), x.x.cell? ⟨g, o, none⟩ = some (.int .i64 op) := fun x => (x.h.cell (p := ⟨g, o, none⟩) hlg).trans c0
              have d1 : ∀ x : In (Below w.heap.size w), x.x.cell? ⟨g, o + 1, none⟩ = some (.int .i64 n) := fun x => (x.h.cell (p := ⟨g, o + 1, none⟩) hlg).trans c1
              have d2 : ∀ x : In (Below w.heap.size w), x.x.cell? ⟨g, o + 2, none⟩ = some (.string nm) := fun x => (x.h.cell (p := ⟨g, o + 2, none⟩) hlg).trans c2
              have d3 : ∀ x : In (Below w.heap.size w), x.x.cell? ⟨g, o + 3, none⟩ = some (.slice a len cap) := fun x => (x.h.cell (p := ⟨g, o + 3, none⟩) hlg).trans c3
              have HX : Hid (∀ (x : In (Below w.heap.size w)) (y : World), Below x.x.heap.size x.x y → Below w.heap.size w y) := Lib.hid (fun x y hb => x.h.trans (hb.mono x.h.size))
              clear c0 c1 c2 c3
              haveI : Nonempty (In (Below w.heap.size w)) := ⟨⟨w, Below.refl _ _⟩⟩
              try simp only [List.append]
              refine wp_region_class (I := In (Below w.heap.size w)) (fun x => x.x) (by kernel_rfl) (by kernel_rfl) ⟨⟨_, (Below.refl _ _).drew⟩, rfl⟩ ?_
              repeat (go_big_quiet_step (first
                | (go_at_call 155; (with_reducible refine (CO.out _).mono ?_); rintro e w2 ⟨rfl, rfl⟩; exact ⟨rfl, _, rfl⟩)
                | (go_at_call 99; (with_reducible refine (CN.out _).mono ?_); rintro e w2 ⟨rfl, hb2⟩; exact ⟨rfl, ⟨_, HX.out _ _ hb2⟩, rfl⟩)))
              refine wpQuiet_nil ?_
              rintro _ ⟨x, rfl⟩
              have hx := x.h
              go_wp2_with fail
              go_ret
              exact ⟨rfl, hx⟩
      · rw [decide_eq_false hl] at HR
        have hlI : ¬ (len : Int) = (k : Int) := by omega
        have hlB : ((len : Int) == (k : Int)) = false := by rw [beq_eq_false_iff_ne]; exact hlI
        have hr := Lib.hid (show fitN op n nm len = false by rw [HR.out, h1t, h2t]; rfl)
        rw [hr.out]
        clear hr HR hk h1t h2t
        have CN := Lib.hid (CN0 true)
        clear CN0
        rcases (show op = 2 ∨ op = 3 ∨ (¬ op = 2 ∧ ¬ op = 3) by omega) with rfl | rfl | ⟨e2, e3⟩
        · skip
          go_enter Tryz.func131, Tryz.ntmps131
          go_wp2_with fail
          have d0 : ∀ x : In (Below w.heap.size w), x.x.cell? ⟨g, o, none⟩ = some (.int .i64 2) := fun x => (x.h.cell (p := ⟨g, o, none⟩) hlg).trans c0
          have d1 : ∀ x : In (Below w.heap.size w), x.x.cell? ⟨g, o + 1, none⟩ = some (.int .i64 n) := fun x => (x.h.cell (p := ⟨g, o + 1, none⟩) hlg).trans c1
          have d2 : ∀ x : In (Below w.heap.size w), x.x.cell? ⟨g, o + 2, none⟩ = some (.string nm) := fun x => (x.h.cell (p := ⟨g, o + 2, none⟩) hlg).trans c2
          have d3 : ∀ x : In (Below w.heap.size w), x.x.cell? ⟨g, o + 3, none⟩ = some (.slice a len cap) := fun x => (x.h.cell (p := ⟨g, o + 3, none⟩) hlg).trans c3
          have HX : Hid (∀ (x : In (Below w.heap.size w)) (y : World), Below x.x.heap.size x.x y → Below w.heap.size w y) := Lib.hid (fun x y hb => x.h.trans (hb.mono x.h.size))
          clear c0 c1 c2 c3
          haveI : Nonempty (In (Below w.heap.size w)) := ⟨⟨w, Below.refl _ _⟩⟩
          try simp only [List.append]
          refine wp_region_class (I := In (Below w.heap.size w)) (fun x => x.x) (by kernel_rfl) (by kernel_rfl) ⟨⟨_, (Below.refl _ _).drew⟩, rfl⟩ ?_
          repeat (go_big_quiet_step (first
            | (go_at_call 155; (with_reducible refine (CO.out _).mono ?_); rintro e w2 ⟨rfl, rfl⟩; exact ⟨rfl, _, rfl⟩)
            | (go_at_call 99; (with_reducible refine (CN.out _).mono ?_); rintro e w2 ⟨rfl, hb2⟩; exact ⟨rfl, ⟨_, HX.out _ _ hb2⟩, rfl⟩)))
          refine wpQuiet_nil ?_
          rintro _ ⟨x, rfl⟩
          have hx := x.h
          go_wp2_with fail
          go_ret
          exact ⟨rfl, hx⟩
        · skip
          go_enter Tryz.func131, Tryz.ntmps131
          go_wp2_with fail
          have d0 : ∀ x : In (Below w.heap.size w), x.x.cell? ⟨g, o, none⟩ = some (.int .i64 3) := fun x => (x.h.cell (p := ⟨g, o, none⟩) hlg).trans c0
          have d1 : ∀ x : In (Below w.heap.size w), x.x.cell? ⟨g, o + 1, none⟩ = some (.int .i64 n) := fun x => (x.h.cell (p := ⟨g, o + 1, none⟩) hlg).trans c1
          have d2 : ∀ x : In (Below w.heap.size w), x.x.cell? ⟨g, o + 2, none⟩ = some (.string nm) := fun x => (x.h.cell (p := ⟨g, o + 2, none⟩) hlg).trans c2
          have d3 : ∀ x : In (Below w.heap.size w), x.x.cell? ⟨g, o + 3, none⟩ = some (.slice a len cap) := fun x => (x.h.cell (p := ⟨g, o + 3, none⟩) hlg).trans c3
          have HX : Hid (∀ (x : In (Below w.heap.size w)) (y : World), Below x.x.heap.size x.x y → Below w.heap.size w y) := Lib.hid (fun x y hb => x.h.trans (hb.mono x.h.size))
          clear c0 c1 c2 c3
          haveI : Nonempty (In (Below w.heap.size w)) := ⟨⟨w, Below.refl _ _⟩⟩
          try simp only [List.append]
          refine wp_region_class (I := In (Below w.heap.size w)) (fun x => x.x) (by kernel_rfl) (by kernel_rfl) ⟨⟨_, (Below.refl _ _).drew⟩, rfl⟩ ?_
          repeat (go_big_quiet_step (first
            | (go_at_call 155; (with_reducible refine (CO.out _).mono ?_); rintro e w2 ⟨rfl, rfl⟩; exact ⟨rfl, _, rfl⟩)
            | (go_at_call 99; (with_reducible refine (CN.out _).mono ?_); rintro e w2 ⟨rfl, hb2⟩; exact ⟨rfl, ⟨_, HX.out _ _ hb2⟩, rfl⟩)))
          refine wpQuiet_nil ?_
          rintro _ ⟨x, rfl⟩
          have hx := x.h
          go_wp2_with fail
          go_ret
          exact ⟨rfl, hx⟩
        · skip
          go_enter Tryz.func131, Tryz.ntmps131
          go_wp2_with fail
          have d0 : ∀ x : In (Below w.heap.size w), x.x.cell? ⟨g, o, none⟩ = some (.int .i64 op) := fun x => (x.h.cell (p := ⟨g, o, none⟩) hlg).trans c0
          have d1 : ∀ x : In (Below w.heap.size w), x.x.cell? ⟨g, o + 1, none⟩ = some (.int .i64 n) := fun x => (x.h.cell (p := ⟨g, o + 1, none⟩) hlg).trans c1
          have d2 : ∀ x : In (Below w.heap.size w), x.x.cell? ⟨g, o + 2, none⟩ = some (.string nm) := fun x => (x.h.cell (p := ⟨g, o + 2, none⟩) hlg).trans c2
          have d3 : ∀ x : In (Below w.heap.size w), x.x.cell? ⟨g, o + 3, none⟩ = some (.slice a len cap) := fun x => (x.h.cell (p := ⟨g, o + 3, none⟩) hlg).trans c3
          have HX : Hid (∀ (x : In (Below w.heap.size w)) (y : World), Below x.x.heap.size x.x y → Below w.heap.size w y) := Lib.hid (fun x y hb => x.h.trans (hb.mono x.h.size))
          clear c0 c1 c2 c3
          haveI : Nonempty (In (Below w.heap.size w)) := ⟨⟨w, Below.refl _ _⟩⟩
          try simp only [List.append]
          refine wp_region_class (I := In (Below w.heap.size w)) (fun x => x.x) (by kernel_rfl) (by kernel_rfl) ⟨⟨_, (Below.refl _ _).drew⟩, rfl⟩ ?_
          repeat (go_big_quiet_step (first
            | (go_at_call 155; (with_reducible refine (CO.out _).mono ?_); rintro e w2 ⟨rfl, rfl⟩; exact ⟨rfl, _, rfl⟩)
            | (go_at_call 99; (with_reducible refine (CN.out _).mono ?_); rintro e w2 ⟨rfl, hb2⟩; exact ⟨rfl, ⟨_, HX.out _ _ hb2⟩, rfl⟩)))
          refine wpQuiet_nil ?_
          rintro _ ⟨x, rfl⟩
          have hx := x.h
          go_wp2_with fail
          go_ret
          exact ⟨rfl, hx⟩
    · have hr := Lib.hid (show fitN op n nm len = false by rw [HR.out, decide_eq_false h2, Bool.and_false]; rfl)
      have e2 : ¬ op = 2 := by omega
      have e3 : ¬ op = 3 := by omega
      have h2f : decide (op ≤ 18) = false := decide_eq_false h2
      have CN := Lib.hid (fun w => fittingName_any nm true w hs)
      rw [hr.out]
      clear hr HR
      go_enter Tryz.func131, Tryz.ntmps131
      go_wp2_with fail
      have d0 : ∀ x : In (Below w.heap.size w), x.x.cell? ⟨g, o, none⟩ = some (.int .i64 op) := fun x => (x.h.cell (p := ⟨g, o, none⟩) hlg).trans c0
      have d1 : ∀ x : In (Below w.heap.size w), x.x.cell? ⟨g, o + 1, none⟩ = some (.int .i64 n) := fun x => (x.h.cell (p := ⟨g, o + 1, none⟩) hlg).trans c1
      have d2 : ∀ x : In (Below w.heap.size w), x.x.cell? ⟨g, o + 2, none⟩ = some (.string nm) := fun x => (x.h.cell (p := ⟨g, o + 2, none⟩) hlg).trans c2
      have d3 : ∀ x : In (Below w.heap.size w), x.x.cell? ⟨g, o + 3, none⟩ = some (.slice a len cap) := fun x => (x.h.cell (p := ⟨g, o + 3, none⟩) hlg).trans c3
      have HX : Hid (∀ (x : In (Below w.heap.size w)) (y : World), Below x.x.heap.size x.x y → Below w.heap.size w y) := Lib.hid (fun x y hb => x.h.trans (hb.mono x.h.size))
      clear c0 c1 c2 c3
      haveI : Nonempty (In (Below w.heap.size w)) := ⟨⟨w, Below.refl _ _⟩⟩
      try simp only [List.append]
      refine wp_region_class (I := In (Below w.heap.size w)) (fun x => x.x) (by kernel_rfl) (by kernel_rfl) ⟨⟨_, (Below.refl _ _).drew⟩, rfl⟩ ?_
      repeat (go_big_quiet_step (first
        | (go_at_call 155; (with_reducible refine (CO.out _).mono ?_); rintro e w2 ⟨rfl, rfl⟩; exact ⟨rfl, _, rfl⟩)
        | (go_at_call 99; (with_reducible refine (CN.out _).mono ?_); rintro e w2 ⟨rfl, hb2⟩; exact ⟨rfl, ⟨_, HX.out _ _ hb2⟩, rfl⟩)))
      refine wpQuiet_nil ?_
      rintro _ ⟨x, rfl⟩
      have hx := x.h
      go_wp2_with fail
      go_ret
      exact ⟨rfl, hx⟩
  · have hr := Lib.hid (show fitN op n nm len = false by rw [HR.out, decide_eq_false h1]; rfl)
    have g1 : decide (1 ≤ op) = false := decide_eq_false h1
    have e2 : ¬ op = 2 := by omega
    have e3 : ¬ op = 3 := by omega
    have hlt : op < 1 := by omega
    have hlg : g < w.heap.size := block_lt_of_cell c0
    rw [hr.out]
    clear hr HR h1
    go_enter Tryz.func131, Tryz.ntmps131
    go_wp2_with fail
    have d0 : ∀ x : In (Below w.heap.size w), x.x.cell? ⟨g, o, none⟩ = some (.int .i64 op) := fun x => (x.h.cell (p := ⟨g, o, none⟩) hlg).trans c0
    clear c0 c1 c2 c3
    haveI : Nonempty (In (Below w.heap.size w)) := ⟨⟨w, Below.refl _ _⟩⟩
    try simp only [List.append]
    refine wp_region_class (I := In (Below w.heap.size w)) (fun x => x.x) (by kernel_rfl) (by kernel_rfl) ⟨⟨_, (Below.refl _ _).drew⟩, rfl⟩ ?_
    repeat (go_big_quiet_step (fail))
    refine wpQuiet_nil ?_
    rintro _ ⟨x, rfl⟩
    have hx := x.h
    go_wp2_with fail
    go_ret
    exact ⟨rfl, hx⟩
end Go.Proofs.YtncflfadgcaldaaGreatDoor
