/-
  The visits' methods.
-/
import Derived.Test.YtiemibngfckgdaaVlB
import Derived.Test.YtiemibngfckgdaaVlC
import Derived.Deep.QuietTactic
import Derived.BigQuiet
namespace Go.Proofs.Ytiemibngfckgdaa
open Go.RowKit
open Go.Maps
open Vl

set_option maxHeartbeats 1000000 in
set_option maxRecDepth 100000 in
theorem complete_any (w : World) (g o ga oa c len cap : Nat) (b : Option Addr) (c0 : w.cell? ⟨g, o, none⟩ = some (.pointer (some ⟨ga, oa, none⟩))) (c3 : w.cell? ⟨g, o + 3, none⟩ = some (.int .i64 c)) (d3 : w.cell? ⟨ga, oa + 3, none⟩ = some (.slice b len cap)) (r : Bool) (hr : ((c : Int) == (len : Int)) = r) :
    Calls Try.prog 25 #[.pointer (some ⟨g, o, none⟩)] w fun e w' => e = .returned (.bool r) ∧ Below w.heap.size w w' := by
  go_enter Try.func25, Try.ntmps25
  go_wp2_with fail
  go_quiet (fail)
  go_wp2_with fail
  go_ret
  exact ⟨rfl, below_drewN (Below.refl _ _) _⟩
set_option maxHeartbeats 1000000 in
set_option maxRecDepth 100000 in
theorem full_any (w : World) (g o c : Nat) (c3 : w.cell? ⟨g, o + 3, none⟩ = some (.int .i64 c)) (r : Bool) (hr : ((c : Int) == 2) = r) :
    Calls Try.prog 28 #[.pointer (some ⟨g, o, none⟩)] w fun e w' => e = .returned (.bool r) ∧ Below w.heap.size w w' := by
  go_enter Try.func28, Try.ntmps28
  go_wp2_with fail
  go_ret
  exact ⟨rfl, Below.refl _ _⟩
set_option maxHeartbeats 1000000 in
set_option maxRecDepth 100000 in
theorem nextv_any (w : World) (g o ga oa c len cap g2 : Nat) (c0 : w.cell? ⟨g, o, none⟩ = some (.pointer (some ⟨ga, oa, none⟩))) (c3 : w.cell? ⟨g, o + 3, none⟩ = some (.int .i64 c)) (d3 : w.cell? ⟨ga, oa + 3, none⟩ = some (.slice (some ⟨g2, 0, none⟩) len cap)) (hc : c < len) :
    Calls Try.prog 29 #[.pointer (some ⟨g, o, none⟩)] w fun e w' => e = .returned (.pointer (some ⟨g2, c * 4, none⟩)) ∧ Below w.heap.size w w' := by
  have hci : (c : Int) < (len : Int) := by omega
  go_enter Try.func29, Try.ntmps29
  go_wp2_with fail
  go_quiet (fail)
  go_wp2_with fail
  go_ret
  exact ⟨rfl, below_drewN (Below.refl _ _) _⟩
set_option maxHeartbeats 2000000 in
set_option maxRecDepth 100000 in
theorem addv_any (w : World) (g o c : Nat) (v v1 v2 : Int) (hc : c < 2) (c1 : w.cell? ⟨g, o + 1, none⟩ = some (.int .i64 v1)) (c2 : w.cell? ⟨g, o + 2, none⟩ = some (.int .i64 v2)) (c3 : w.cell? ⟨g, o + 3, none⟩ = some (.int .i64 c)) (f : ∀ j, w.frozen? ⟨g, j, none⟩ = false) :
    Calls Try.prog 27 #[.pointer (some ⟨g, o, none⟩), .int .i64 v] w fun e w' => e = .returned (.tuple #[]) ∧ ∃ w1, Below w.heap.size w w1 ∧ w' = (w1.setCell ⟨g, o + 1 + c, none⟩ (.int .i64 v)).setCell ⟨g, o + 3, none⟩ (.int .i64 ((c : Int) + 1)) := by
  have f1 := f (o + 1)
  have f2 := f (o + 2)
  have f3 := f (o + 3)
  have k1 : w.drew.cell? ⟨g, o + 1, none⟩ = some (.int .i64 v1) := c1
  have k2 : w.drew.cell? ⟨g, o + 2, none⟩ = some (.int .i64 v2) := c2
  have m1 : w.drew.frozen? ⟨g, o + 1, none⟩ = false := f1
  have m2 : w.drew.frozen? ⟨g, o + 2, none⟩ = false := f2
  have m3 : w.drew.frozen? ⟨g, o + 3, none⟩ = false := f3
  have HB := Lib.hid (show Below w.heap.size w w.drew from (Below.refl _ _).drew)
  rcases (show c = 0 ∨ c = 1 by omega) with rfl | rfl
  · have c3a : w.cell? ⟨g, o + 3, none⟩ = some (.int .i64 0) := c3
    have k3 : w.drew.cell? ⟨g, o + 3, none⟩ = some (.int .i64 0) := c3
    clear c3 hc f c1 c2 f1 f2 f3
    go_enter Try.func27, Try.ntmps27
    go_wp2_with fail
    go_still_tail 9, (by kernel_rfl)
    change wpList _ _ _ _ _ w.drew
    clear c3a
    generalize w.drew = w1 at HB k1 k2 k3 m1 m2 m3 ⊢
    go_wp2_with fail
    refine bodyPost_end (results_none rfl _ _ _) rfl ⟨rfl, w1, HB.out, rfl⟩
  · have c3a : w.cell? ⟨g, o + 3, none⟩ = some (.int .i64 1) := c3
    have k3 : w.drew.cell? ⟨g, o + 3, none⟩ = some (.int .i64 1) := c3
    clear c3 hc f c1 c2 f1 f2 f3
    go_enter Try.func27, Try.ntmps27
    go_wp2_with fail
    go_still_tail 9, (by kernel_rfl)
    change wpList _ _ _ _ _ w.drew
    clear c3a
    generalize w.drew = w1 at HB k1 k2 k3 m1 m2 m3 ⊢
    go_wp2_with fail
    refine bodyPost_end (results_none rfl _ _ _) rfl ⟨rfl, w1, HB.out, rfl⟩
set_option maxHeartbeats 2000000 in
set_option maxRecDepth 100000 in
theorem leaf_any (w : World) (ga oa b k : Nat) (f : ByteArray → Option Int) (op n : Int) (nm : ByteArray) (d0 : w.cell? ⟨ga, oa, none⟩ = some (.int .i64 op)) (d1 : w.cell? ⟨ga, oa + 1, none⟩ = some (.int .i64 n)) (d2 : w.cell? ⟨ga, oa + 2, none⟩ = some (.string nm)) (hs : nm.size ≤ maxLen) (hm : MapOf w b k f) :
    Calls Try.prog 37 #[.pointer (some ⟨ga, oa, none⟩), .map (some b)] w fun e w' => e = .returned (Vl.res (app f op n nm [])) ∧ Below w.heap.size w w' := by
  obtain ⟨D, hown, hh⟩ := hm
  have HOWN := Lib.hid hown
  have HKEY := Lib.hid (WideMaps.keyOf_string_mk (P := Try.prog) Try.underlying9 hs)
  obtain ⟨h1, h2⟩ := hh nm hs
  have H1 := Lib.hid h1
  clear hown hh h1 hs
  rcases (show op = 1 ∨ op = 2 ∨ (¬ op = 1 ∧ ¬ op = 2) by omega) with rfl | rfl | ⟨g1, g2⟩
  · go_enter Try.func37, Try.ntmps37
    go_wp2_with fail
    refine bodyPost_ret (v := Vl.res (app f 1 n nm [])) ?_ rfl ⟨rfl, Below.refl _ _⟩
    simp [results, Try.results37, go_sem, app, Vl.res]
  · go_enter Try.func37, Try.ntmps37
    go_wp2_with (at_lookup; refine wpList_lookup_own_ok_int _ rfl _ _ 51 rfl 9 2 .i64 law Try.underlying51 Try.underlying2 (zero64 _) b k D rfl HOWN.out _ _ rfl HKEY.out ?_; intro c hat hwc; have hce := H1.out.symm.trans hat)
    refine bodyPost_ret (v := Vl.res (app f 2 n nm [])) ?_ rfl ⟨rfl, Below.refl _ _⟩
    have hce2 : (f nm).getD 0 = c := by injection hce with e; injection e
    simp [results, Try.results37, go_sem, app, Vl.res, hce2]
  · go_enter Try.func37, Try.ntmps37
    go_wp2_with fail
    refine bodyPost_ret (v := Vl.res (app f op n nm [])) ?_ rfl ⟨rfl, Below.refl _ _⟩
    simp [results, Try.results37, go_sem, app, Vl.res, g1, g2]
set_option maxHeartbeats 4000000 in
set_option maxRecDepth 100000 in
theorem value_any (w : World) (g o ga oa b k : Nat) (vs : List Int) (f : ByteArray → Option Int) (op n : Int) (nm : ByteArray) (hv : vs.length ≤ 2) (c0 : w.cell? ⟨g, o, none⟩ = some (.pointer (some ⟨ga, oa, none⟩))) (c1 : w.cell? ⟨g, o + 1, none⟩ = some (.int .i64 (vs.getD 0 0))) (c2 : w.cell? ⟨g, o + 2, none⟩ = some (.int .i64 (vs.getD 1 0)))
    (c3 : w.cell? ⟨g, o + 3, none⟩ = some (.int .i64 (vs.length : Nat))) (d0 : w.cell? ⟨ga, oa, none⟩ = some (.int .i64 op)) (d1 : w.cell? ⟨ga, oa + 1, none⟩ = some (.int .i64 n)) (d2 : w.cell? ⟨ga, oa + 2, none⟩ = some (.string nm)) (hs : nm.size ≤ maxLen) (hm : MapOf w b k f) :
    Calls Try.prog 26 #[.pointer (some ⟨g, o, none⟩), .map (some b)] w fun e w' => e = .returned (.tuple #[.int .i64 ((app f op n nm vs).getD 0), .bool (app f op n nm vs).isSome]) ∧ Below w.heap.size w w' := by
  have HM := Lib.hid hm
  have HS := Lib.hid hs
  match vs, hv with
  | [], _ =>
    have k3 : w.cell? ⟨g, o + 3, none⟩ = some (.int .i64 0) := c3
    have D0 := Lib.hid d0
    have D1 := Lib.hid d1
    have D2 := Lib.hid d2
    obtain ⟨x, hx⟩ : ∃ x, app f op n nm [] = x := ⟨_, rfl⟩
    have C := Lib.hid (leaf_any w ga oa b k f op n nm d0 d1 d2 hs hm)
    rw [hx] at C ⊢
    clear hm hs c3 d0 d1 d2 c1 c2 hx
    go_enter Try.func26, Try.ntmps26
    go_wp2_with (go_at_call 37; refine C.out.mono ?_; rintro e w1 ⟨rfl, hb⟩; unfold Vl.res)
    refine bodyPost_ret (v := .tuple #[.int .i64 (x.getD 0), .bool x.isSome]) ?_ rfl ⟨rfl, hb⟩
    simp [results, Try.results26, go_sem]
  | [y], _ =>
    have k3 : w.cell? ⟨g, o + 3, none⟩ = some (.int .i64 1) := c3
    have k1 : w.cell? ⟨g, o + 1, none⟩ = some (.int .i64 y) := c1
    have HX := Lib.hid (show una op y = app f op n nm [y] from rfl)
    obtain ⟨x, hx⟩ : ∃ x, app f op n nm [y] = x := ⟨_, rfl⟩
    rw [hx] at HX ⊢
    clear hm hs c3 d1 d2 c1 c2 hx
    go_enter Try.func26, Try.ntmps26
    go_wp2_with fail
    go_quiet ((go_at_call 19; exact Calls.quiet_of_same (una_gen _ _ _ _ HX.out)))
    go_wp2_with fail
    refine bodyPost_ret (v := .tuple #[.int .i64 (x.getD 0), .bool x.isSome]) ?_ rfl ⟨rfl, below_drewN (Below.refl _ _) _⟩
    simp [results, Try.results26, go_sem]
  | [y, z], _ =>
    have k3 : w.cell? ⟨g, o + 3, none⟩ = some (.int .i64 2) := c3
    have k1 : w.cell? ⟨g, o + 1, none⟩ = some (.int .i64 y) := c1
    have k2 : w.cell? ⟨g, o + 2, none⟩ = some (.int .i64 z) := c2
    have HX := Lib.hid (show bin op y z = app f op n nm [y, z] from rfl)
    obtain ⟨x, hx⟩ : ∃ x, app f op n nm [y, z] = x := ⟨_, rfl⟩
    rw [hx] at HX ⊢
    clear hm hs c3 d1 d2 c1 c2 hx
    go_enter Try.func26, Try.ntmps26
    go_wp2_with fail
    go_quiet ((go_at_call 18; exact Calls.quiet_of_same (bin_gen _ _ _ _ _ HX.out)))
    go_wp2_with fail
    refine bodyPost_ret (v := .tuple #[.int .i64 (x.getD 0), .bool x.isSome]) ?_ rfl ⟨rfl, below_drewN (Below.refl _ _) _⟩
    simp [results, Try.results26, go_sem]
end Go.Proofs.Ytiemibngfckgdaa
