/-
  The walk of ParseResults.
-/
import Derived.Test.YtafkffjpofkbpaaGreatDoorShR
import Derived.Test.YtafkffjpofkbpaaGreatDoorAwF
namespace Go.Proofs.YtafkffjpofkbpaaGreatDoor
open Go.RowKit
open Par

set_option maxHeartbeats 4000000 in
set_option maxRecDepth 100000 in
theorem parseResults_any (s : ByteArray) (w : World) (hv : Two w ∧ FieldsOf w) (hT : TabF w) (hs : s.size ≤ maxLen) : Calls Tryz.prog 4 #[.string s] w fun e w' => e = .returned (.bool true) ∧ Below w.heap.size w w' := by
  have hs0 := hs
  unfold maxLen at hs0
  by_cases hbig : 2000 < s.size
  · go_enter Tryz.func4, Tryz.ntmps4
    go_wp2_with fail
    go_ret
    exact ⟨rfl, Below.refl _ _⟩
  · have HV := Lib.hid hv.1
    have HF := Lib.hid hv.2
    have HT := Lib.hid hT
    have hl : s.data.toList.length ≤ 4096 := by
      have : s.data.toList.length = s.size := by
        rw [Array.length_toList]
        rfl
      omega
    have C1 := Lib.hid (fun w h => parse_anyP s w h hs)
    have hpl := parseOut_line s.data.toList hl
    have hsh := parseOut_shaped s.data.toList
    obtain ⟨out, hout⟩ : ∃ out, out = parseOut s.data.toList := ⟨_, rfl⟩
    unfold PostWP at C1
    rw [← hout] at C1 hpl hsh
    obtain ⟨p, er, ln⟩ := out
    simp only at C1 hpl hsh
    clear hv hT hout hs hl
    by_cases her : er = 0
    · subst her
      obtain ⟨h1, h2⟩ := hsh rfl
      obtain rfl := hpl.2 rfl
      have H1 := Lib.hid h1
      have H2 := Lib.hid h2
      clear hpl hsh h1 h2
      go_enter Tryz.func4, Tryz.ntmps4
      go_wp2_with (first
        | (go_at_call 6; refine (C1.out _ HV.out).mono ?_; rintro e w1 ⟨a0, l0, c0, a1, l1, c1, rfl, hb1, hr1⟩; have z1 := hb1.size; have hal := (Below.refl w1.heap.size w1).alloc (Nat.le_refl _) (.cells #[.slice a0 l0 c0, .slice a1 l1 c1] 25))
        | (go_at_call 10; refine (shaped_any _ ((HT.out.below hb1).below hal) w.heap.size p _ _ (hr1.move (fun g _ hg => Below.heap_alloc _ _ _ hg) (Nat.le_refl _)) H1.out H2.out).mono ?_; rintro e w3 ⟨rfl, hb3⟩)
        | (go_at_call 9; refine (awake_any _ (((HV.out.below hb1).below hal).below hb3) (((HF.out.below hb1).below hal).below hb3)).mono ?_; rintro e w4 ⟨rfl, hb4⟩))
      go_ret
      have z3 := hb3.size
      simp at z3
      refine ⟨rfl, hb1.trans (Below.mono (B := w1.heap.size) ?_ z1)⟩
      exact (hal.trans (hb3.mono (by simp))).trans (hb4.mono (by omega))
    · obtain ⟨rfl, hln⟩ := hpl.1 her
      have he1 : (((er : Nat) : Int) != 0) = true := by simpa using her
      have he2 : (((er : Nat) : Int) == 0) = false := by simpa using her
      have hl1 : (1 : Int) ≤ ((ln : Nat) : Int) := by omega
      have hl2 : decide (((ln : Nat) : Int) ≥ 1) = true := by simpa using hl1
      clear hpl hsh her hln
      go_enter Tryz.func4, Tryz.ntmps4
      go_wp2_with (first
        | (go_at_call 6; refine (C1.out _ HV.out).mono ?_; rintro e w1 ⟨a0, l0, c0, a1, l1, c1, rfl, hb1, hr1⟩; have z1 := hb1.size; have hal := (Below.refl w1.heap.size w1).alloc (Nat.le_refl _) (.cells #[.slice a0 l0 c0, .slice a1 l1 c1] 25); obtain ⟨⟨_, _, hq0, _⟩, ⟨_, _, hq1, _⟩⟩ := hr1; obtain rfl : l0 = 0 := (Value.slice.inj hq0).2.1; obtain rfl : l1 = 0 := (Value.slice.inj hq1).2.1)
        | (go_at_call 9; refine (awake_any _ ((HV.out.below hb1).below hal) ((HF.out.below hb1).below hal)).mono ?_; rintro e w4 ⟨rfl, hb4⟩))
      go_ret
      refine ⟨rfl, hb1.trans (Below.mono (B := w1.heap.size) ?_ z1)⟩
      exact hal.trans (hb4.mono (by simp))
end Go.Proofs.YtafkffjpofkbpaaGreatDoor
