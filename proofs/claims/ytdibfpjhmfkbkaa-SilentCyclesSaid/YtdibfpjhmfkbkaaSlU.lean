/-
  Union of package silent: the numbers of both lists in ascending order, each once, in a row of the call's own.
-/
import Derived.Test.YtdibfpjhmfkbkaaSlV
import Derived.Test.YtdibfpjhmfkbkaaShelf
import Derived.Lib.AppendZeros
import Derived.Lib.OwnBridge
import Derived.Sort.OwnSortedInts
import Derived.Sort.Grow
import Derived.WalkSmall
namespace Go.Proofs.Ytdibfpjhmfkbkaa
open Go.RowKit
open Go.Sort (Holds putRow grow holds_grow holds_putRow holds_ahead)

/-- Of the nil slice: room for n numbers. -/
theorem grow_any (w : World) (n : Nat) (hn : n * 8 ≤ 140737488355328) :
    Calls Try.prog 25 #[.slice none 0 0, .int .i64 n] w fun x w' => ∃ v, x = .returned v ∧ w'.ownsRow w.heap.size 3 1 v 0 [] ∧ (0 < n → v ≠ .slice none 0 0) ∧ Below w.heap.size w w' := by
  obtain ⟨i0, hi, hz0, hz1, hz2⟩ := info_parts Try.infoInt
  by_cases h0 : n = 0
  · subst h0
    go_enter Try.func25, Try.ntmps25
    go_wp2_with fail
    go_ret
    exact ⟨_, rfl, World.ownsRow_nil _ _ _ _, fun h => absurd h (by omega), Below.refl _ _⟩
  · have hrun := fun ty => Lib.run_append_nil_zeros (P := Try.prog) w 22 3 ty 3 i0 (.int .i64 0) .i64 .i64 Try.underlying22 Try.underlying3 hi hz0 n (by omega) (by omega) (by omega) (by rw [hz2]; omega)
    have hge := grownCap_ge w n 0 3
    have hcm := grownCap_le_maxLen w n 0 3 (by unfold maxLen; omega)
    obtain ⟨G, hG⟩ : ∃ G, G = grownCap w n 0 3 := ⟨_, rfl⟩
    rw [← hG] at hrun hge hcm
    have h1 : ¬ ((n : Int) < 0) := by omega
    have h2 : (n : Int) > 0 := by omega
    have HR := Lib.hid hrun
    have HG := Lib.hid hG
    have HGE := Lib.hid hge
    have HCM := Lib.hid hcm
    have hG63 : G ≤ 9223372036854775807 := by unfold maxLen at hcm; omega
    clear hrun hG hge hcm
    go_enter Try.func25, Try.ntmps25
    go_wp2_with (at_builtin; refine Lib.wpList_append_run _ rfl _ _ _ _ rfl _ _ rfl rfl _ _ (HR.out _) ?_)
    go_ret
    refine ⟨_, rfl, ⟨by simp, .inr ⟨w.heap.size, G, _, rfl, Nat.le_refl _, heap_alloc_new w.drew _, by omega, HCM.out, ?_, by rw [Nat.zero_mul]; rfl⟩⟩, (by first | (intro h; cases h; done) | (intro _ h; cases h)), ((Below.refl _ w).drew).alloc (Nat.le_refl _) _⟩
    have := HGE.out
    simp only [Array.size_append, size_zeroCells]
    simp
    omega

set_option maxHeartbeats 4000000 in
set_option maxRecDepth 100000 in
theorem concat_any (w : World) (N : List Nat) (G : Nat) (va vb : Value) (a b : List Int) (c0 : w.cell? ⟨G, 0, none⟩ = some va) (c1 : w.cell? ⟨G, 1, none⟩ = some vb) (ha : Sl.IntsAt N w va a) (hb : Sl.IntsAt N w vb b)
    (hl : (a.length + b.length) * 8 ≤ 140737488355328) :
    Calls Try.prog 12 #[.slice (some ⟨G, 0, none⟩) 2 2] w fun x w' => ∃ v, x = .returned v ∧ w'.ownsRow w.heap.size 3 1 v (a.length + b.length) ((a ++ b).map Sl.IV) ∧ (0 < a.length + b.length → v ≠ .slice none 0 0) ∧ Below w.heap.size w w' := by
  obtain ⟨i0, hi, hz0, hz1, hz2⟩ := info_parts Try.infoInt
  have hGl : G < w.heap.size := block_lt_of_cell c0
  have HA := Lib.hid ha
  have HB := Lib.hid hb
  obtain ⟨A1, cap1, rfl, hca1, hca2⟩ := Sl.IntsAt.form ha
  obtain ⟨A2, cap2, rfl, hcb1, hcb2⟩ := Sl.IntsAt.form hb
  obtain ⟨la, hla⟩ : ∃ n, n = a.length := ⟨_, rfl⟩
  obtain ⟨lb, hlb⟩ : ∃ n, n = b.length := ⟨_, rfl⟩
  rw [← hla] at HA hca1 hl ⊢
  rw [← hlb] at HB hcb1 hl ⊢
  rw [← hla] at c0
  rw [← hlb] at c1
  have HLA := Lib.hid hla
  have HLB := Lib.hid hlb
  have CG := Lib.hid (grow_any w (la + lb) hl)
  have h0 : ¬ ((la : Int) < 0) := by omega
  have h1 : ¬ ((la : Int) + (lb : Int) < 0) := by omega
  clear ha hb hla hlb
  go_enter Try.func12, Try.ntmps12
  go_wp2_with fail
  go_loopw [11, 3] (fun i s wr => w = wr ∧ ((i = .int .i64 0 ∧ s = .int .i64 0) ∨ (i = .int .i64 1 ∧ s = .int .i64 (la : Int)) ∨ (i = .int .i64 2 ∧ s = .int .i64 ((la + lb : Nat) : Int)))) (fun i _ _ => 2 - (intOf i).toNat)
  case atStart => exact ⟨rfl, .inl ⟨rfl, rfl⟩⟩
  case round =>
    obtain ⟨rfl, ⟨rfl, rfl⟩ | ⟨rfl, rfl⟩ | ⟨rfl, rfl⟩⟩ := hrel
    · go_wp2_with fail
      go_roundw
      case rel => exact ⟨by first | rfl | trivial, .inr (.inl ⟨by go_num, by go_num⟩)⟩
      case measure => simp [intOf]
    · go_wp2_with fail
      go_roundw
      case rel => exact ⟨by first | rfl | trivial, .inr (.inr ⟨by go_num, by go_num⟩)⟩
      case measure => simp [intOf]
    · go_wp2_with (go_at_call 25; refine CG.out.mono ?_; rintro x w1 ⟨v0, rfl, hown, hnn, hbel⟩)
      have HO := Lib.hid hown
      have HNN := Lib.hid hnn
      have HBE := Lib.hid hbel
      have HA2 := Lib.hid (Sl.IntsAt.below HA.out hbel)
      have HB2 := Lib.hid (Sl.IntsAt.below HB.out hbel)
      have d0 := (hbel.cell (p := ⟨G, 0, none⟩) hGl).trans c0
      have d1 := (hbel.cell (p := ⟨G, 1, none⟩) hGl).trans c1
      have hsz := hbel.size
      have hG1 : G < w1.heap.size := by omega
      obtain ⟨n0, hn0⟩ : ∃ n, n = w.heap.size := ⟨_, rfl⟩
      have HN0 := Lib.hid hn0
      rw [← hn0] at HO HBE hsz hGl
      clear hown hnn hbel c0 c1 CG hn0
      go_wp2_with fail
      go_loopw [27, 6] (fun i v wr => Below n0 w wr ∧ (∀ k, k < w1.heap.size → v0.ownBlock ≠ some k → wr.heap[k]? = w1.heap[k]?) ∧ w1.heap.size ≤ wr.heap.size ∧
        ((i = .int .i64 0 ∧ v0 = v ∧ w1 = wr) ∨ (i = .int .i64 1 ∧ wr.ownsRow n0 3 1 v la (a.map Sl.IV) ∧ (v ≠ .slice none 0 0 ∨ v0 = .slice none 0 0) ∧ (∀ k, v.ownBlock = some k → v0.ownBlock = some k ∨ w1.heap.size ≤ k)) ∨
         (i = .int .i64 2 ∧ wr.ownsRow n0 3 1 v (la + lb) ((a ++ b).map Sl.IV) ∧ (v ≠ .slice none 0 0 ∨ v0 = .slice none 0 0)))) (fun i _ _ => 2 - (intOf i).toNat)
      case atStart => exact ⟨HBE.out, fun _ _ _ => rfl, Nat.le_refl _, .inl ⟨rfl, rfl, rfl⟩⟩
      case round =>
        obtain ⟨hb2, hk2, hs2, hrel⟩ := hrel
        rcases hrel with ⟨rfl, rfl, rfl⟩ | ⟨rfl, ho, hv, hat⟩ | ⟨rfl, ho, hv⟩
        · clear hb2 hk2 hs2
          go_wp2_with (at_builtin; refine wpList_append_vals _ rfl _ _ 22 rfl n0 3 i0 _ 8 Try.underlying22 hi hz0 hz1 hz2 rfl v0 0 [] rfl HO.out N (.slice A1 la cap1) (a.map Sl.IV) rfl HA2.out (ints_one _) (by rw [List.length_map, ← HLA.out]; unfold maxLen; omega) (by rw [List.length_map, ← HLA.out]; omega) hsz ?_; intro v' w' hown hg hnil hat)
          go_roundw
          case rel =>
            have e1 : 0 + (a.map Sl.IV).length = la := by rw [List.length_map, ← HLA.out]; omega
            rw [e1] at hown
            refine ⟨HBE.out.grown hg hsz (fun k hk => (HO.out.lt k hk).1), fun k hk hne => hg.block k hk (fun e => hne e.symm), hg.size, .inr (.inl ⟨by go_num, by simpa using hown, ?_, ?_⟩)⟩
            · by_cases e : v' = .slice none 0 0
              · exact .inr (hnil.1 e).1
              · exact .inl e
            · intro k hk
              rcases hat with e | e
              · exact .inl (e ▸ hk)
              · rw [e] at hk
                cases hk
                exact .inr (Nat.le_refl _)
          case measure => simp [intOf]
        · have hbl2 : ∀ k, k < w1.heap.size → k ∉ N → True := fun _ _ _ => trivial
          have f0 : ∀ k, k < w1.heap.size → k < n0 → wr.heap[k]? = w1.heap[k]? := fun k h1 h2 => hk2 k h1 (fun e => by have := (HO.out.lt k e).1; omega)
          have q0 := (World.cell?_of_block (a := ⟨G, 0, none⟩) (f0 G hG1 hGl)).trans d0
          have q1 := (World.cell?_of_block (a := ⟨G, 1, none⟩) (f0 G hG1 hGl)).trans d1
          have HB3 := Lib.hid (Sl.Vals.far (N := []) (w' := wr) (Sl.Vals.weak HB.out (by simp)) ⟨hb2.os, hb2.tape, hb2.output, hb2.size, fun k hk _ => hb2.block k (by rw [HN0.out]; exact hk)⟩)
          have HOO := Lib.hid ho
          have HVV := Lib.hid hv
          have HAT := Lib.hid hat
          have HBB := Lib.hid hb2
          have HKK := Lib.hid hk2
          have hbs : n0 ≤ wr.heap.size := by omega
          clear hbl2 f0 ho hv hat hb2 hk2 d0 d1
          go_wp2_with (at_builtin; refine wpList_append_vals _ rfl _ _ 22 rfl n0 3 i0 _ 8 Try.underlying22 hi hz0 hz1 hz2 rfl _ la (a.map Sl.IV) rfl HOO.out [] (.slice A2 lb cap2) (b.map Sl.IV) rfl HB3.out (ints_one _) (by rw [List.length_map, ← HLB.out]; unfold maxLen; omega) (by rw [List.length_map, ← HLB.out]; omega) hbs ?_; intro v' w' hown hg hnil hat)
          go_roundw
          case rel =>
            have e1 : la + (b.map Sl.IV).length = la + lb := by rw [List.length_map, ← HLB.out]
            rw [e1] at hown
            refine ⟨HBB.out.grown hg hbs (fun k hk => (HOO.out.lt k hk).1), fun k hk hne => (hg.block k (by omega) (fun e => ?_)).trans (HKK.out k hk hne), by have := hg.size; omega, .inr (.inr ⟨by go_num, by rw [List.map_append]; exact hown, ?_⟩)⟩
            · rcases HAT.out k e.symm with e2 | e2
              · exact hne e2
              · omega
            · by_cases e : v' = .slice none 0 0
              · exact (HVV.out).imp (fun h => absurd (hnil.1 e).1 h) id
              · exact .inl e
          case measure => simp [intOf]
        · have HOO := Lib.hid ho
          have HVV := Lib.hid hv
          have HBB := Lib.hid hb2
          clear ho hv hb2 hk2 d0 d1
          go_wp2_with fail
          go_ret
          refine ⟨_, rfl, by rw [← HN0.out]; exact HOO.out, fun h => ?_, by rw [← HN0.out]; exact HBB.out⟩
          rcases HVV.out with e | e
          · exact e
          · exact absurd e (HNN.out h)

namespace Sl
theorem own_weak {w : World} {base base' : Nat} {e : TypeId} {size n : Nat} {v : Value} {xs : List Value} (h : w.ownsRow base e size v n xs) (hb : base' ≤ base) : w.ownsRow base' e size v n xs := by
  refine ⟨h.1, ?_⟩
  rcases h.2 with h0 | ⟨g, cap, cur, hv, hg, rest⟩
  · exact .inl h0
  · exact .inr ⟨g, cap, cur, hv, by omega, rest⟩
end Sl
/-- The end of Union: the sorted row, cut. -/
theorem union_end {w wa w1 : World} {g cap n nn q : Nat} {os : Array Obj} {zs us : List Int} (hown : w1.ownsRow wa.heap.size 3 1 (.slice (some ⟨g, 0, none⟩) n cap) n (zs.map Sl.IV)) (hbel : Below wa.heap.size wa w1) (hal : Below w.heap.size w wa) (hs : w.heap.size ≤ wa.heap.size)
    (hbg : wa.heap.size ≤ g) (hlen : zs.length = n) (hci : Lib.compact (zs.mergeSort fun x y => decide (x ≤ y)) = us) (hpos : 0 < n) :
    ∃ v, (Ending.returned (.slice (some ⟨g, 0, none⟩) (Lib.compact (zs.mergeSort fun x y => decide (x ≤ y))).length cap)) = .returned v ∧
      (putRow (Value.int .i64) (Sort.ahead (grow (putRow (Value.int .i64) (Sort.ahead w1 nn) g 0 (zs.mergeSort fun x y => decide (x ≤ y)).toArray) os) q) g 0 (Lib.compact (zs.mergeSort fun x y => decide (x ≤ y)) ++ List.replicate (n - (Lib.compact (zs.mergeSort fun x y => decide (x ≤ y))).length) 0).toArray).ownsRow w.heap.size 3 1 v us.length (us.map Sl.IV) ∧
      Below w.heap.size w (putRow (Value.int .i64) (Sort.ahead (grow (putRow (Value.int .i64) (Sort.ahead w1 nn) g 0 (zs.mergeSort fun x y => decide (x ≤ y)).toArray) os) q) g 0 (Lib.compact (zs.mergeSort fun x y => decide (x ≤ y)) ++ List.replicate (n - (Lib.compact (zs.mergeSort fun x y => decide (x ≤ y))).length) 0).toArray) := by
  have hl2 : (zs.mergeSort fun x y => decide (x ≤ y)).length = zs.length := List.length_mergeSort zs
  have hle : (Lib.compact (zs.mergeSort fun x y => decide (x ≤ y))).length ≤ zs.length := by
    unfold Lib.compact Lib.compactUpTo
    rw [List.length_map, ← hl2]
    exact Nat.le_trans (List.length_filter_le _ _) (by simp)
  subst hlen
  rcases hown.2 with ⟨h0, _⟩ | ⟨g', cap', cur, hv, hbase, hb, h1, h2, h3, h4⟩
  · cases h0
  cases hv
  have hs2 := ownsRow_sortedI (n := nn) (os := os) (ts := zs.mergeSort fun x y => decide (x ≤ y)) hl2 hbase hb h1 h2 h3
  have hc := Lib.ownsRow_putRow (q := q) (k := (Lib.compact (zs.mergeSort fun x y => decide (x ≤ y))).length) (ys := Lib.compact (zs.mergeSort fun x y => decide (x ≤ y)) ++ List.replicate (zs.length - (Lib.compact (zs.mergeSort fun x y => decide (x ≤ y))).length) 0) hs2 (by simp; omega) (by omega)
  rw [List.take_left, hci] at hc
  rw [hci]
  refine ⟨_, rfl, ?_, ?_⟩
  · rw [hci] at hle
    exact Sl.own_weak hc hs
  · have hbel2 : Below wa.heap.size wa (grow (putRow (Value.int .i64) (Sort.ahead w1 nn) g 0 (zs.mergeSort fun x y => decide (x ≤ y)).toArray) os) := hbel.grown (grownBy_sortedI _) hbel.size (fun j hj => by cases hj; exact hbase)
    exact hal.trans ((Lib.below_putRow hbel2 hbg).mono hs)

set_option maxHeartbeats 1000000 in
theorem union_any (w : World) (N : List Nat) (va vb : Value) (a b : List Int) (ha : Sl.IntsAt N w va a) (hb : Sl.IntsAt N w vb b) (hl : (a.length + b.length) * 8 ≤ 140737488355328) :
    Calls Try.prog 6 #[va, vb] w fun x w' => ∃ v, x = .returned v ∧ w'.ownsRow w.heap.size 3 1 v (Sl.uni a b).length ((Sl.uni a b).map Sl.IV) ∧ Below w.heap.size w w' := by
  obtain ⟨A1, cap1, rfl, _, _⟩ := Sl.IntsAt.form ha
  obtain ⟨A2, cap2, rfl, _, _⟩ := Sl.IntsAt.form hb
  have hal : Below w.heap.size w (w.alloc (.cells #[.slice A1 a.length cap1, .slice A2 b.length cap2] 22)) := (Below.refl _ w).alloc (Nat.le_refl _) _
  have CC := Lib.hid (concat_any (w.alloc (.cells #[.slice A1 a.length cap1, .slice A2 b.length cap2] 22)) N w.heap.size _ _ a b (by simp) (by simp) (Sl.IntsAt.below ha hal) (Sl.IntsAt.below hb hal) hl)
  have HAL := Lib.hid hal
  have hci := Sl.compact_is a b
  clear ha hb hal
  obtain ⟨n, hn⟩ : ∃ n, n = a.length + b.length := ⟨_, rfl⟩
  obtain ⟨zs, hzs⟩ : ∃ zs, zs = a ++ b := ⟨_, rfl⟩
  obtain ⟨us, hus⟩ : ∃ us, us = Sl.uni a b := ⟨_, rfl⟩
  have hzl : zs.length = n := by rw [hzs, hn]; simp
  rw [← hn, ← hzs] at CC
  rw [← hzs, ← hus] at hci
  rw [← hus]
  have HCI := Lib.hid hci
  have hn62 : n * 8 ≤ 140737488355328 := by rw [hn]; exact hl
  clear hci hn hus hl
  by_cases h0 : n = 0
  · subst h0
    obtain rfl : zs = [] := List.eq_nil_of_length_eq_zero hzl
    have hu : us = [] := by rw [← HCI.out]; simp [Lib.compact, Lib.compactUpTo]
    subst hu
    clear hzs hzl hn62
    go_enter Try.func6, Try.ntmps6
    go_wp2_with (first
      | (go_at_call 12; refine CC.out.mono ?_; rintro x w1 ⟨v, rfl, hown, hnn, hbel⟩; obtain ⟨A, cap, rfl, _⟩ := (Sl.Vals.of_own (N := []) hown (by simp)).form; have HO := Lib.hid hown; have HB := Lib.hid hbel; clear hown hbel hnn)
      | (go_at_call 13; refine (Try.slices_Sort_int_none _ _ _).mono ?_; rintro x w2 ⟨rfl, rfl⟩)
      | (go_at_call 14; refine (Try.slices_Compact_int_empty _ _ _).mono ?_; rintro x w2 ⟨rfl, rfl⟩))
    go_ret
    refine ⟨_, rfl, ?_, HAL.out.trans (HB.out.mono (by simp))⟩
    exact Sl.own_weak HO.out (by simp)
  · have HZL := Lib.hid hzl
    clear hzl hzs
    have hpos : 0 < n := by omega
    go_enter Try.func6, Try.ntmps6
    go_wp2_with (first
      | (go_at_call 12; refine CC.out.mono ?_; rintro x w1 ⟨v, rfl, hown, hnn, hbel⟩
         have hnn2 := hnn hpos
         have HO := Lib.hid hown
         obtain ⟨g, cap, rfl, hbg, hgl, hncap, hcm, hlen, hH⟩ := Lib.holds_of_ownsRow hown hnn2
         have hsort := Try.slices_Sort_int g 0 cap zs w1 hH hgl (by omega)
         rw [hlen] at hsort
         have HS := Lib.hid hsort
         have HH := Lib.hid hH
         have HB := Lib.hid hbel
         have HBG := Lib.hid hbg
         clear hown hnn hnn2 hbel hH hsort hlen hbg)
      | (go_at_call 13; refine HS.out.mono ?_; rintro x w2 ⟨rfl, nn, os, rfl⟩
         have hl2 : (zs.mergeSort fun x y => decide (x ≤ y)).length = n := by rw [List.length_mergeSort]; exact HZL.out
         have hH2 : Holds (Value.int .i64) (grow (putRow (Value.int .i64) (Sort.ahead w1 nn) g 0 (zs.mergeSort fun x y => decide (x ≤ y)).toArray) os) g 0 (zs.mergeSort fun x y => decide (x ≤ y)).toArray :=
           holds_grow (Value.int .i64) _ os g 0 _ (by simpa [putRow, Go.Sort.mapBlock, Sort.ahead] using hgl) (holds_putRow (Value.int .i64) _ g 0 _ _ (holds_ahead (Value.int .i64) w1 nn g 0 _ HH.out) (by simp))
         have hcomp := Try.slices_Compact_int g 0 cap (zs.mergeSort fun x y => decide (x ≤ y)) _ hH2 (by omega) (by omega)
         rw [hl2] at hcomp
         have HC := Lib.hid hcomp
         have HL2 := Lib.hid hl2
         clear hH2 hcomp hl2)
      | (go_at_call 14; refine HC.out.mono ?_; rintro x w3 ⟨rfl, q, rfl⟩))
    go_ret
    exact union_end HO.out HB.out HAL.out (by simp) HBG.out HZL.out HCI.out hpos
end Go.Proofs.Ytdibfpjhmfkbkaa
