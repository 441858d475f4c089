/-
  The maker of expressions at a number and at a name.
-/
import Derived.Test.YtiemibngfckgdaaMkB0
namespace Go.Proofs.Ytiemibngfckgdaa
open Go.RowKit
open Par

set_option maxHeartbeats 2000000 in
set_option maxRecDepth 100000 in
theorem mkNum_any (d : Nat) (w : World) (L T : Nat) (A : Option Addr) (len cap : Nat) (xs : List Nat) (k : Nat) (h : Tp w T A len cap xs k) (hL : w.cell? ⟨L, 0, none⟩ = some (.pointer (some ⟨T, 0, none⟩))) (hLT : L ≠ T)
    (hr : nx xs k 20 < 4 ∨ (¬ nx xs k 20 < 4 ∧ d = 0 ∧ nx xs k 20 < 10)) :
    Calls Try.prog 23 #[.pointer (some ⟨L, 0, none⟩), .int .i64 d] w (PostM d T A len cap xs w) := by
  have HT := Lib.hid h
  have hT := h.lt
  have hl : L < w.heap.size := block_lt_of_cell hL
  have C1 := Lib.hid (fun w h => next_at 20 20 rfl w T A len cap xs k h (by omega) (by omega))
  have C2 := Lib.hid (fun w h => next_at 8 8 rfl w T A len cap xs (nk xs k) h (by omega) (by omega))
  have hj := nx_lt xs (nk xs k) 8 (by omega)
  obtain ⟨r, hre⟩ : ∃ r, r = nx xs k 20 := ⟨_, rfl⟩
  obtain ⟨j, hje⟩ : ∃ j, j = nx xs (nk xs k) 8 := ⟨_, rfl⟩
  rw [← hre] at C1 hr
  rw [← hje] at C2 hj
  obtain ⟨z, hz0, hz1, hzc⟩ := nums_at j hj
  have HZ := Lib.hid hzc
  have hji : (j : Int) < 8 := by omega
  clear h hzc hre hje
  rcases hr with hr | ⟨hr, hd0, hr2⟩
  · have hri : (r : Int) < 4 := by omega
    show Calls _ _ _ _ _
    go_enter Try.func23, Try.ntmps23
    go_wp2_with (first
      | (go_at_call 34; refine (C2.out _ (ht1.alloc _)).mono ?_; rintro e w2 ⟨rfl, hk2, ht2⟩; have hzc := Kept.newAt hk2 ht1.lt HZ.out; have hK2 := (hK1.alloc _).trans hk2; obtain ⟨r0, r1, r2, r3, g0, g1, g2, g3, hz, hn1, hn2⟩ := Kept.new4 hK2 hT)
      | (go_at_call 34; refine (C1.out _ ((HT.out.alloc _).alloc _)).mono ?_; rintro e w1 ⟨rfl, hk1, ht1⟩; have hL1 := (hk1.cell (g := L) (by simp; omega) hLT).trans (((Below.refl _ w).alloc (Nat.le_refl _) _ |>.alloc (by simp) _).cell (p := ⟨L, 0, none⟩) hl |>.trans hL)); have hLa := (((Below.refl w1.heap.size w1).alloc (Nat.le_refl _) (.cells #[.int .i64 0, .int .i64 1, .int .i64 2, .int .i64 3, .int .i64 7, .int .i64 10, .int .i64 100, .int .i64 9223372036854775807] 2)).cell (p := ⟨L, 0, none⟩) (block_lt_of_cell hL1)).trans hL1; have hK1 := ((Kept.refl T _).alloc _).trans hk1)
    refine bodyPost_ret (v := .agg #[.int .i64 1, .int .i64 z, .string ⟨#[]⟩, .slice none 0 0]) (by simp [results, Try.results23, go_sem, *]) rfl ⟨_, _, _, _, _, _, rfl, ?_⟩
    obtain ⟨h1, h2⟩ := mfin (x := .mk 1 z ⟨#[]⟩ []) (n := w.heap.size + 1) (.int .i64 1) (.int .i64 z) (.string ⟨#[]⟩) (.slice none 0 0) (((Kept.refl T w).alloc _).trans hK2) hT ht2 (Nat.lt_succ_self _) ⟨none, 0, rfl, .inl rfl⟩ rfl
    exact ⟨h1, .mk 1 z ⟨#[]⟩ [], fit_num hz0 hz1, by simp only [bnd, bndL]; have := room_le d; show 40 + 0 + 0 ≤ room d; omega, h2⟩
  · have hri : ¬ (r : Int) < 4 := by omega
    have hri2 : (r : Int) < 10 := by omega
    have hdi : (d : Int) = 0 := by omega
    show Calls _ _ _ _ _
    go_enter Try.func23, Try.ntmps23
    go_wp2_with (first
      | (go_at_call 34; refine (C2.out _ (ht1.alloc _)).mono ?_; rintro e w2 ⟨rfl, hk2, ht2⟩; have hzc := Kept.newAt hk2 ht1.lt HZ.out; have hK2 := (hK1.alloc _).trans hk2; obtain ⟨r0, r1, r2, r3, g0, g1, g2, g3, hz, hn1, hn2⟩ := Kept.new4 hK2 hT)
      | (go_at_call 34; refine (C1.out _ ((HT.out.alloc _).alloc _)).mono ?_; rintro e w1 ⟨rfl, hk1, ht1⟩; have hL1 := (hk1.cell (g := L) (by simp; omega) hLT).trans (((Below.refl _ w).alloc (Nat.le_refl _) _ |>.alloc (by simp) _).cell (p := ⟨L, 0, none⟩) hl |>.trans hL)); have hLa := (((Below.refl w1.heap.size w1).alloc (Nat.le_refl _) (.cells #[.int .i64 0, .int .i64 1, .int .i64 2, .int .i64 3, .int .i64 7, .int .i64 10, .int .i64 100, .int .i64 9223372036854775807] 2)).cell (p := ⟨L, 0, none⟩) (block_lt_of_cell hL1)).trans hL1; have hK1 := ((Kept.refl T _).alloc _).trans hk1)
    refine bodyPost_ret (v := .agg #[.int .i64 1, .int .i64 z, .string ⟨#[]⟩, .slice none 0 0]) (by simp [results, Try.results23, go_sem, *]) rfl ⟨_, _, _, _, _, _, rfl, ?_⟩
    obtain ⟨h1, h2⟩ := mfin (x := .mk 1 z ⟨#[]⟩ []) (n := w.heap.size + 1) (.int .i64 1) (.int .i64 z) (.string ⟨#[]⟩) (.slice none 0 0) (((Kept.refl T w).alloc _).trans hK2) hT ht2 (Nat.lt_succ_self _) ⟨none, 0, rfl, .inl rfl⟩ rfl
    exact ⟨h1, .mk 1 z ⟨#[]⟩ [], fit_num hz0 hz1, by simp only [bnd, bndL]; have := room_le d; show 40 + 0 + 0 ≤ room d; omega, h2⟩

set_option maxHeartbeats 6000000 in
set_option maxRecDepth 100000 in
theorem mkNam_any (d : Nat) (w : World) (L T : Nat) (A : Option Addr) (len cap : Nat) (xs : List Nat) (k : Nat) (h : Tp w T A len cap xs k) (hL : w.cell? ⟨L, 0, none⟩ = some (.pointer (some ⟨T, 0, none⟩))) (hLT : L ≠ T)
    (hr : ¬ nx xs k 20 < 4 ∧ ((d ≠ 0 ∧ nx xs k 20 < 8) ∨ (d = 0 ∧ ¬ nx xs k 20 < 10))) :
    Calls Try.prog 23 #[.pointer (some ⟨L, 0, none⟩), .int .i64 d] w (PostM d T A len cap xs w) := by
  have HT := Lib.hid h
  have hT := h.lt
  have hl : L < w.heap.size := block_lt_of_cell hL
  have C1 := Lib.hid (fun w h => next_at 20 20 rfl w T A len cap xs k h (by omega) (by omega))
  have C2 := Lib.hid (fun w h => next_at 10 10 rfl w T A len cap xs (nk xs k) h (by omega) (by omega))
  have C3 := Lib.hid (fun w h => next_at 8 8 rfl w T A len cap xs (nk xs (nk xs k)) h (by omega) (by omega))
  have hp := nx_lt xs (nk xs k) 10 (by omega)
  have hq := nx_lt xs (nk xs (nk xs k)) 8 (by omega)
  obtain ⟨r, hre⟩ : ∃ r, r = nx xs k 20 := ⟨_, rfl⟩
  obtain ⟨p, hpe⟩ : ∃ p, p = nx xs (nk xs k) 10 := ⟨_, rfl⟩
  obtain ⟨q, hqe⟩ : ∃ q, q = nx xs (nk xs (nk xs k)) 8 := ⟨_, rfl⟩
  rw [← hre] at C1 hr
  rw [← hpe] at C2 hp
  rw [← hqe] at C3 hq
  obtain ⟨i, hi, hj⟩ : ∃ i : Nat, (p : Int).tmod (3 + (q : Int)) = (i : Int) ∧ i < 10 := ⟨p % (3 + q), by rw [Int.tmod_eq_emod_of_nonneg (by omega)]; norm_cast, Nat.lt_of_le_of_lt (Nat.mod_le _ _) hp⟩
  obtain ⟨s, ⟨hs, hsn⟩, hsc⟩ := names_at i hj
  have HN := Lib.hid hsn
  clear hsn
  have HS := Lib.hid hsc
  have hji : (i : Int) < 10 := by omega
  obtain ⟨hr4, hr⟩ := hr
  have hri : ¬ (r : Int) < 4 := by omega
  have hq0 : ¬ (3 + (q : Int)) = 0 := by omega
  have hwq : IntKind.i64.wrap (3 + (q : Int)) = 3 + (q : Int) := IntWalk.i64_in _ (by omega)
  clear h hsc hre hpe hqe
  rcases hr with ⟨hd0, hr8⟩ | ⟨hd0, hr10⟩
  · have hdi : ¬ (d : Int) = 0 := by omega
    have hri8 : (r : Int) < 8 := by omega
    show Calls _ _ _ _ _
    go_enter Try.func23, Try.ntmps23
    go_wp2_with (first
      | (go_at_call 34; refine (C1.out _ ((HT.out.alloc _).alloc _)).mono ?_; rintro e w1 ⟨rfl, hk1, ht1⟩; have hL1 := (hk1.cell (g := L) (by simp; omega) hLT).trans (((Below.refl _ w).alloc (Nat.le_refl _) _ |>.alloc (by simp) _).cell (p := ⟨L, 0, none⟩) hl |>.trans hL); have hK1 := ((Kept.refl T _).alloc _).trans hk1; have hN1 : w1.cell? ⟨w.heap.size + 1, i, none⟩ = some (.string s) := by simpa using Kept.newAt hk1 (by simp; omega) HS.out))
    have hNT : w.heap.size + 1 ≠ T := by omega
    have hLne : ¬ L = w.heap.size := by omega
    have hLne2 : ¬ w.heap.size = L := by omega
    go_region_held3 (fun x => x.cell? ⟨L, 0, none⟩ = some (.pointer (some ⟨T, 0, none⟩)) ∧ x.cell? ⟨w.heap.size + 1, i, none⟩ = some (.string s)) (first | exact ⟨hL4, hN4⟩ | exact ⟨hL3, hN3⟩ | exact ⟨hL2, hN2⟩ | exact ⟨hL1, hN1⟩ | (simp [go_sem, *]; done) | go_keep) (first
      | (go_at_call 35; refine (mkName_any _ s).mono ?_; rintro e w4 ⟨rfl, hb4⟩; have hL4 : w4.cell? ⟨L, 0, none⟩ = some (.pointer (some ⟨T, 0, none⟩)) := (hb4.cell (p := ⟨L, 0, none⟩) (block_lt_of_cell hL3)).trans hL3; have hN4 : w4.cell? ⟨w.heap.size + 1, i, none⟩ = some (.string s) := (hb4.cell (p := ⟨w.heap.size + 1, i, none⟩) (block_lt_of_cell hN3)).trans hN3; have hK4 := hK3.trans (Kept.of_below (P := T) hb4); obtain ⟨r0, r1, r2, r3, g0, g1, g2, g3, hz, hn1, hn2⟩ := Kept.new4 hK4 hT)
      | (go_at_call 34; have hx := ht2; (with_reducible refine (C3.out _ ?_).mono ?_); (first | exact ht2 | exact ht2.below (Below.refl _ _).drew); rintro e w3 ⟨rfl, hk3, ht3⟩; have hL3 : w3.cell? ⟨L, 0, none⟩ = some (.pointer (some ⟨T, 0, none⟩)) := (hk3.cell (block_lt_of_cell hL2) hLT).trans hL2; have hN3 : w3.cell? ⟨w.heap.size + 1, i, none⟩ = some (.string s) := (hk3.cell (block_lt_of_cell hN2) hNT).trans hN2; have hK3 := hK2.trans hk3)
      | (go_at_call 34; have hx := ht1; (with_reducible refine (C2.out _ ?_).mono ?_); (first | exact ht1 | exact ht1.below (Below.refl _ _).drew); rintro e w2 ⟨rfl, hk2, ht2⟩; have hL2 : w2.cell? ⟨L, 0, none⟩ = some (.pointer (some ⟨T, 0, none⟩)) := (hk2.cell (block_lt_of_cell hL1) hLT).trans hL1; have hN2 : w2.cell? ⟨w.heap.size + 1, i, none⟩ = some (.string s) := (hk2.cell (block_lt_of_cell hN1) hNT).trans hN1; have hK2 := hK1.trans ((Kept.of_below (P := T) (Below.refl _ _).drew).trans hk2)))
    go_wp2_with fail
    refine bodyPost_ret (v := .agg #[.int .i64 2, .int .i64 0, .string s, .slice none 0 0]) (by simp [results, Try.results23, go_sem, *]) rfl ⟨_, _, _, _, _, _, rfl, ?_⟩
    obtain ⟨h1, h2⟩ := mfin (x := .mk 2 0 s []) (n := w.heap.size + 1) (.int .i64 2) (.int .i64 0) (.string s) (.slice none 0 0) (((Kept.refl T w).alloc _).trans hK4) hT (ht3.below hb4) (Nat.lt_succ_self _) ⟨none, 0, rfl, .inl rfl⟩ rfl
    exact ⟨h1, .mk 2 0 s [], fit_name HN.out (by omega), by simp only [bnd, bndL]; have := room_le d; omega, h2⟩
  · have hdi : (d : Int) = 0 := by omega
    have hri8 : ¬ (r : Int) < 8 := by omega
    have hri10 : ¬ (r : Int) < 10 := by omega
    show Calls _ _ _ _ _
    go_enter Try.func23, Try.ntmps23
    go_wp2_with (first
      | (go_at_call 34; refine (C1.out _ ((HT.out.alloc _).alloc _)).mono ?_; rintro e w1 ⟨rfl, hk1, ht1⟩; have hL1 := (hk1.cell (g := L) (by simp; omega) hLT).trans (((Below.refl _ w).alloc (Nat.le_refl _) _ |>.alloc (by simp) _).cell (p := ⟨L, 0, none⟩) hl |>.trans hL); have hK1 := ((Kept.refl T _).alloc _).trans hk1; have hN1 : w1.cell? ⟨w.heap.size + 1, i, none⟩ = some (.string s) := by simpa using Kept.newAt hk1 (by simp; omega) HS.out))
    have hNT : w.heap.size + 1 ≠ T := by omega
    have hLne : ¬ L = w.heap.size := by omega
    have hLne2 : ¬ w.heap.size = L := by omega
    go_region_held3 (fun x => x.cell? ⟨L, 0, none⟩ = some (.pointer (some ⟨T, 0, none⟩)) ∧ x.cell? ⟨w.heap.size + 1, i, none⟩ = some (.string s)) (first | exact ⟨hL4, hN4⟩ | exact ⟨hL3, hN3⟩ | exact ⟨hL2, hN2⟩ | exact ⟨hL1, hN1⟩ | (simp [go_sem, *]; done) | go_keep) (first
      | (go_at_call 35; refine (mkName_any _ s).mono ?_; rintro e w4 ⟨rfl, hb4⟩; have hL4 : w4.cell? ⟨L, 0, none⟩ = some (.pointer (some ⟨T, 0, none⟩)) := (hb4.cell (p := ⟨L, 0, none⟩) (block_lt_of_cell hL3)).trans hL3; have hN4 : w4.cell? ⟨w.heap.size + 1, i, none⟩ = some (.string s) := (hb4.cell (p := ⟨w.heap.size + 1, i, none⟩) (block_lt_of_cell hN3)).trans hN3; have hK4 := hK3.trans (Kept.of_below (P := T) hb4); obtain ⟨r0, r1, r2, r3, g0, g1, g2, g3, hz, hn1, hn2⟩ := Kept.new4 hK4 hT)
      | (go_at_call 34; have hx := ht2; (with_reducible refine (C3.out _ ?_).mono ?_); (first | exact ht2 | exact ht2.below (Below.refl _ _).drew); rintro e w3 ⟨rfl, hk3, ht3⟩; have hL3 : w3.cell? ⟨L, 0, none⟩ = some (.pointer (some ⟨T, 0, none⟩)) := (hk3.cell (block_lt_of_cell hL2) hLT).trans hL2; have hN3 : w3.cell? ⟨w.heap.size + 1, i, none⟩ = some (.string s) := (hk3.cell (block_lt_of_cell hN2) hNT).trans hN2; have hK3 := hK2.trans hk3)
      | (go_at_call 34; have hx := ht1; (with_reducible refine (C2.out _ ?_).mono ?_); (first | exact ht1 | exact ht1.below (Below.refl _ _).drew); rintro e w2 ⟨rfl, hk2, ht2⟩; have hL2 : w2.cell? ⟨L, 0, none⟩ = some (.pointer (some ⟨T, 0, none⟩)) := (hk2.cell (block_lt_of_cell hL1) hLT).trans hL1; have hN2 : w2.cell? ⟨w.heap.size + 1, i, none⟩ = some (.string s) := (hk2.cell (block_lt_of_cell hN1) hNT).trans hN1; have hK2 := hK1.trans ((Kept.of_below (P := T) (Below.refl _ _).drew).trans hk2)))
    go_wp2_with fail
    refine bodyPost_ret (v := .agg #[.int .i64 2, .int .i64 0, .string s, .slice none 0 0]) (by simp [results, Try.results23, go_sem, *]) rfl ⟨_, _, _, _, _, _, rfl, ?_⟩
    obtain ⟨h1, h2⟩ := mfin (x := .mk 2 0 s []) (n := w.heap.size + 1) (.int .i64 2) (.int .i64 0) (.string s) (.slice none 0 0) (((Kept.refl T w).alloc _).trans hK4) hT (ht3.below hb4) (Nat.lt_succ_self _) ⟨none, 0, rfl, .inl rfl⟩ rfl
    exact ⟨h1, .mk 2 0 s [], fit_name HN.out (by omega), by simp only [bnd, bndL]; have := room_le d; omega, h2⟩
end Go.Proofs.Ytiemibngfckgdaa
