/-
  Shaped at the laws' fixed program, and what the laws' check of it returns.
-/
import Derived.Test.YteekcepbogndlaaGreatDoorAwD
import Derived.Test.YteekcepbogndlaaGreatDoorPstR
namespace Go.Proofs.YteekcepbogndlaaGreatDoor
open Go.RowKit
open Par

set_option maxHeartbeats 2000000 in
set_option maxRecDepth 100000 in
theorem shapedDecl_var (w : World) (l : Int) (s : ByteArray) (hs : s.size ≤ maxLen) (hn : Tok.isName s.data.toList = true) :
    Calls Tryz.prog 53 #[.agg #[.int .i64 1, .int .i64 l, .string s, .int .i64 0, .int .i64 0, .string ⟨#[]⟩]] w fun e w' => e = .returned (.bool true) ∧ Below w.heap.size w w' := by
  have CI := Lib.hid (fun w => isName_any s w hs)
  rw [hn] at CI
  go_enter Tryz.func53, Tryz.ntmps53
  go_wp2_with (go_at_call 89; refine (CI.out _).mono ?_; rintro e w1 ⟨rfl, hb⟩; have d0 := (hb.cell (p := ⟨w.heap.size, 0, none⟩) (by simp)).trans (World.cell?_alloc_at _ _ _ _ (by simp)); have d3 := (hb.cell (p := ⟨w.heap.size, 3, none⟩) (by simp)).trans (World.cell?_alloc_at _ _ _ _ (by simp)); have d4 := (hb.cell (p := ⟨w.heap.size, 4, none⟩) (by simp)).trans (World.cell?_alloc_at _ _ _ _ (by simp)); have d5 := (hb.cell (p := ⟨w.heap.size, 5, none⟩) (by simp)).trans (World.cell?_alloc_at _ _ _ _ (by simp)); simp at d0 d3 d4 d5)
  go_ret
  exact ⟨rfl, ((Below.refl _ _).alloc (Nat.le_refl _) _).trans (hb.mono (by simp))⟩

set_option maxHeartbeats 2000000 in
set_option maxRecDepth 100000 in
theorem shapedThread_one (w : World) (g : Nat) (t s : ByteArray) (l n : Int) (al : Option Addr) (cl rc : Nat) (ht : t.size ≤ maxLen) (htn : Tok.isName t.data.toList = true) (hs : s.size ≤ maxLen) (hnm : Tok.isName s.data.toList = true) (hn : 0 < n)
    (h : Assign1 w g s n) (hf : FieldsOf w) :
    Calls Tryz.prog 54 #[.agg #[.string t, .int .i64 l, .slice al 0 cl, .slice (some ⟨g, 0, none⟩) 1 rc]] w fun e w' => e = .returned (.bool true) ∧ Below w.heap.size w w' := by
  have CI := Lib.hid (fun w => isName_any t w ht)
  rw [htn] at CI
  have CE := Lib.hid (fun w h hf => everyS_leaf w g s n rc hs hnm hn h hf)
  have H := Lib.hid (h.below ((Below.refl w.heap.size w).alloc (Nat.le_refl _) (.cells #[.string t, .int .i64 l, .slice al 0 cl, .slice (some ⟨g, 0, none⟩) 1 rc] 69)))
  have HF := Lib.hid (hf.below ((Below.refl w.heap.size w).alloc (Nat.le_refl _) (.cells #[.string t, .int .i64 l, .slice al 0 cl, .slice (some ⟨g, 0, none⟩) 1 rc] 69)))
  clear h hf ht htn hs hnm
  go_enter Tryz.func54, Tryz.ntmps54
  go_wp2_with fail
  refine wp_loop_rounds 1 ?_
  rw [rounds_succ]
  go_wp2_with (first
    | (go_at_call 89; refine (CI.out _).mono ?_; rintro e w1 ⟨rfl, hb⟩; have d3 := (hb.cell (p := ⟨w.heap.size, 3, none⟩) (by simp)).trans (World.cell?_alloc_at _ _ _ _ (by simp)); simp at d3)
    | (go_at_call 90; refine (CE.out _ (H.out.below hb) (HF.out.below hb)).mono ?_; rintro e w2 ⟨rfl, hb2⟩))
  go_ret
  have z1 := hb.size
  simp at z1
  exact ⟨rfl, (((Below.refl _ _).alloc (Nat.le_refl _) _).trans (hb.mono (by simp))).trans (hb2.mono (by omega))⟩
end Go.Proofs.YteekcepbogndlaaGreatDoor
