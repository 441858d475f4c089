/-
  The contract of the reference's Scan, at texts of at most MaxSource bytes: the same as token.Scan's.
-/
import Derived.Test.YthgicmdaenkjbaaGreatDoorRefB
namespace Go.Proofs.YthgicmdaenkjbaaGreatDoor
open Go.RowKit
open Tok

namespace Tok
/-- What holds at the head of the reference's loop. -/
def RInv (S : ByteArray) (w : World) (iv lv tv : Value) (wr : World) : Prop :=
  ∃ (i line : Nat) (acc : List T), iv = .int .i64 i ∧ lv = .int .i64 line ∧ i ≤ S.size ∧ line ≤ 1 + i ∧ acc.length ≤ i ∧
    wr.ownsRow w.heap.size 122 3 tv acc.length (cells acc) ∧ Below w.heap.size w wr ∧ run (S.data.toList.drop i) line acc = scan S.data.toList
theorem run_b (c : UInt8) (r : Bs) (line : Nat) (acc : List T) (hc : c.toNat = 32 ∨ c.toNat = 9 ∨ c.toNat = 13 ∨ c.toNat = 10) : run (c :: r) line acc = run r (line + if c.toNat = 10 then 1 else 0) acc := by
  have e (n : UInt8) : c.toNat = n.toNat → c = n := UInt8.toNat_inj.1
  rcases hc with h | h | h | h
  · obtain rfl := e 32 h
    have hg : gapLen (32 :: r) = 1 := rfl
    rw [run_gap _ _ _ (by simp) (by rw [hg]; omega), hg]
    rfl
  · obtain rfl := e 9 h
    have hg : gapLen (9 :: r) = 1 := rfl
    rw [run_gap _ _ _ (by simp) (by rw [hg]; omega), hg]
    rfl
  · obtain rfl := e 13 h
    have hg : gapLen (13 :: r) = 1 := rfl
    rw [run_gap _ _ _ (by simp) (by rw [hg]; omega), hg]
    rfl
  · obtain rfl := e 10 h
    have hg : gapLen (10 :: r) = 1 := rfl
    rw [run_gap _ _ _ (by simp) (by rw [hg]; omega), hg]
    rfl
theorem run_c (l : Bs) (line : Nat) (acc : List T) (hc : comment l = true) : run l line acc = run (l.drop (l.takeWhile nf).length) line acc := by
  have hl : l ≠ [] := by
    intro e
    subst e
    simp [comment] at hc
  have hg := comment_gap l hc
  rw [run_gap l line acc hl hg, gapLen_comment l hc]
  have e : l.take (l.takeWhile nf).length = l.takeWhile nf := (List.prefix_iff_eq_take.1 (List.takeWhile_prefix nf)).symm
  have h0 : lf (l.takeWhile nf) = 0 := lf_none _ (fun hm => by
    have := List.all_eq_true.1 (List.all_takeWhile (l := l) (p := nf)) _ hm
    simp [nf] at this)
  rw [e, h0]
  rfl
theorem comment_at (s : ByteArray) (i : Nat) (h : i < s.size) : comment (s.data.toList.drop i) = (decide (s[i].toNat = 47) && (if h2 : i + 1 < s.size then decide (s[i + 1].toNat = 47) else false)) := by
  have e47 (c : UInt8) : (c == 47) = decide (c.toNat = 47) := by
    rw [Bool.eq_iff_iff]
    simp only [beq_iff_eq, decide_eq_true_eq]
    exact ⟨fun e => by rw [e]; rfl, fun e => UInt8.toNat_inj.1 e⟩
  unfold comment
  rw [drop_at s i h]
  by_cases h2 : i + 1 < s.size
  · rw [drop_at s (i + 1) h2, dif_pos h2, ← e47, ← e47]
    have e : List.take 2 (s[i] :: s[i + 1] :: List.drop (i + 1 + 1) s.data.toList) = [s[i], s[i + 1]] := rfl
    rw [e, List.cons_beq_cons, List.cons_beq_cons]
    simp
  · rw [dif_neg h2, List.drop_eq_nil_of_le (by rw [size_list]; omega)]
    simp
theorem gap_zero (s : ByteArray) (i : Nat) (h : i < s.size) (hc : comment (s.data.toList.drop i) = false) (hb : ¬ (s[i].toNat = 32 ∨ s[i].toNat = 9 ∨ s[i].toNat = 13 ∨ s[i].toNat = 10)) : gapLen (s.data.toList.drop i) = 0 := by
  rw [gapLen_other _ hc, drop_at s i h]
  simp only [blankLen]
  rw [if_neg]
  intro h2
  apply hb
  rcases h2 with e | e | e | e <;> rw [e] <;> decide
theorem mid_data (s : ByteArray) (i n : Nat) : (s.extract i (i + n)).data.toList = (s.data.toList.drop i).take n := by
  rw [← Lib.toList_data]
  exact extract_list s i n
theorem frozen_row {W : World} {g i : Nat} {cs : Array Value} {t : TypeId} (h : W.heap[g]? = some (.cells cs t (0, 0))) : W.frozen? ⟨g, i, none⟩ = false := by simp [World.frozen?, h]
theorem run_next {S : ByteArray} {i n k line : Nat} {acc : List T} {X : R} (hne : S.data.toList.drop i ≠ []) (hg0 : gapLen (S.data.toList.drop i) = 0) (hf : first (S.data.toList.drop i) = (k, n, 0)) (hrun : run (S.data.toList.drop i) line acc = X) :
    run (S.data.toList.drop (i + n)) line (acc ++ [(k, (S.data.toList.drop i).take n, line)]) = X := by
  rw [run_tok _ _ _ hne hg0 (by rw [hf]), hf, List.drop_drop] at hrun
  exact hrun
theorem run_stop {S : ByteArray} {i er line : Nat} {acc : List T} {X : R} {a b : Nat} (hne : S.data.toList.drop i ≠ []) (hg0 : gapLen (S.data.toList.drop i) = 0) (hf : first (S.data.toList.drop i) = (a, b, er)) (her : er ≠ 0) (hrun : run (S.data.toList.drop i) line acc = X) : X = ([], er, line) := by
  rw [run_err _ _ _ hne hg0 (by rw [hf]; exact her), hf] at hrun
  exact hrun.symm
theorem cells_mid (S : ByteArray) (i n k line : Nat) (acc : List T) : cells (acc ++ [(k, (S.data.toList.drop i).take n, line)]) = cells acc ++ [.int .i64 k, .string (S.extract i (i + n)), .int .i64 line] := by
  have e : (⟨((S.data.toList.drop i).take n).toArray⟩ : ByteArray) = S.extract i (i + n) := by rw [← mid_data, Lib.mk_data]
  rw [cells_snoc, e]
theorem cell_three_set (w : World) (p : Addr) (x a b c : Value) (t : TypeId) : ∀ j u, [a, b, c][j]? = some u → ((w.setCell p x).alloc (.cells #[a, b, c] t)).cell? ((⟨w.heap.size, 0, none⟩ : Addr).add j) = some u := by
  have e : (w.setCell p x).heap.size = w.heap.size := by simp
  intro j u hj
  have := cell_three_new (w.setCell p x) a b c t j u hj
  rw [e] at this
  exact this
theorem sign_size {S y : ByteArray} {i m : Nat} (hy : y.data.toList = (S.data.toList.drop i).take m) (hm : m ≤ S.size - i) : y.size = m := by
  rw [← size_list, hy, List.length_take, List.length_drop, size_list]
  omega
theorem sign_zero {y : ByteArray} {l : Bs} (hy : y.data.toList = l.take 0) : y.size = 0 := by
  rw [← size_list, hy]
  rfl
theorem cells_sign {S y : ByteArray} {i m line : Nat} {acc : List T} (hy : y.data.toList = (S.data.toList.drop i).take m) : cells (acc ++ [(4, (S.data.toList.drop i).take m, line)]) = cells acc ++ [.int .i64 4, .string y, .int .i64 line] := by
  rw [cells_snoc, ← hy, Lib.mk_data]
  rfl
/-- The cells of a box behind a call that makes memory. -/
theorem box_kept {w w' : World} {a b c : Value} {t : TypeId} (h : Below (w.alloc (.cells #[a, b, c] t)).heap.size (w.alloc (.cells #[a, b, c] t)) w') :
    w'.cell? ⟨w.heap.size, 0, none⟩ = some a ∧ w'.cell? ⟨w.heap.size, 1, none⟩ = some b ∧ w'.cell? ⟨w.heap.size, 2, none⟩ = some c ∧ w'.frozen? ⟨w.heap.size, 0, none⟩ = false ∧ w.heap.size < w'.heap.size := by
  have hlt : w.heap.size < (w.alloc (.cells #[a, b, c] t)).heap.size := by simp
  have hf : (w.alloc (.cells #[a, b, c] t)).frozen? ⟨w.heap.size, 0, none⟩ = false := frozen_row (heap_alloc_new w _)
  refine ⟨(h.cell (p := ⟨w.heap.size, 0, none⟩) hlt).trans (cells_new w _ t 0 a rfl), (h.cell (p := ⟨w.heap.size, 1, none⟩) hlt).trans (cells_new w _ t 1 b rfl), (h.cell (p := ⟨w.heap.size, 2, none⟩) hlt).trans (cells_new w _ t 2 c rfl), (h.frozen (p := ⟨w.heap.size, 0, none⟩) hlt).trans hf, Nat.lt_of_lt_of_le hlt h.size⟩
end Tok

set_option maxRecDepth 100000 in
set_option maxHeartbeats 1000000 in
theorem ref_big (s : ByteArray) (w : World) (h : 4096 < s.size) (hs : s.size ≤ maxLen) : Calls Tryz.prog 39 #[.string s] w (ScanPost s.data.toList w) := by
  unfold maxLen at hs
  have hS := Lib.hid (show scan s.data.toList = ([], 2, 0) by unfold scan; rw [if_pos (by rw [size_list]; exact h)])
  go_enter Tryz.func39, Tryz.ntmps39
  go_wp2_with fail
  go_ret3
  refine ⟨.slice none 0 0, ?_, ?_, Below.refl _ _⟩
  · rw [hS.out]; rfl
  · rw [hS.out]
    exact ⟨rfl, .inl ⟨rfl, rfl⟩⟩

set_option maxRecDepth 100000 in
set_option maxHeartbeats 4000000 in
theorem ref_small (s : ByteArray) (w : World) (h : s.size ≤ 4096) : Calls Tryz.prog 39 #[.string s] w (ScanPost s.data.toList w) := by
  go_enter Tryz.func39, Tryz.ntmps39
  go_wp2_with fail
  go_loopw [7, 6, 5] (fun iv lv tv wr => RInv s w iv lv tv wr) (fun iv _ _ _ => s.size - (intOf iv).toNat)
  case atStart => exact ⟨0, 1, [], rfl, rfl, by omega, by omega, by simp, ⟨rfl, .inl ⟨rfl, rfl⟩⟩, Below.refl _ _, by rw [List.drop_zero]; exact (scan_run _ (by rw [size_list]; exact h)).symm⟩
  case round =>
    obtain ⟨i, line, acc, rfl, rfl, hi, hline, hacc, hown, hbel, hrun⟩ := hrel
    have HR := Lib.hid hrun
    clear hrun
    by_cases hlt : i < s.size
    · have hda := drop_at s i hlt
      by_cases hb : s[i].toNat = 32 ∨ s[i].toNat = 9 ∨ s[i].toNat = 13 ∨ s[i].toNat = 10
      · as_aux_lemma =>
        have hstep := run_b s[i] (s.data.toList.drop (i + 1)) line acc hb
        rw [← hda] at hstep
        have HS := Lib.hid (hstep.symm.trans HR.out)
        clear hstep hda HR
        rcases hb with hc | hc | hc | hc
        · rw [hc, if_neg (by decide)] at HS
          go_wp2_with fail
          go_roundw
          case rel => exact ⟨i + 1, line, acc, by go_num, rfl, by omega, by omega, by omega, hown, hbel, HS.out⟩
          case measure => simp [intOf]; omega
        · rw [hc, if_neg (by decide)] at HS
          go_wp2_with fail
          go_roundw
          case rel => exact ⟨i + 1, line, acc, by go_num, rfl, by omega, by omega, by omega, hown, hbel, HS.out⟩
          case measure => simp [intOf]; omega
        · rw [hc, if_neg (by decide)] at HS
          go_wp2_with fail
          go_roundw
          case rel => exact ⟨i + 1, line, acc, by go_num, rfl, by omega, by omega, by omega, hown, hbel, HS.out⟩
          case measure => simp [intOf]; omega
        · rw [hc, if_pos (by decide)] at HS
          go_wp2_with fail
          go_roundw
          case rel => exact ⟨i + 1, line + 1, acc, by go_num, by go_num, by omega, by omega, by omega, hown, hbel, HS.out⟩
          case measure => simp [intOf]; omega
      · have hcom := comment_at s i hlt
        have n32 : ((s[i].toNat : Int) == 32) = false := by simp; omega
        have n9 : ((s[i].toNat : Int) == 9) = false := by simp; omega
        have n13 : ((s[i].toNat : Int) == 13) = false := by simp; omega
        have n10 : ((s[i].toNat : Int) == 10) = false := by simp; omega
        cases hcm : comment (s.data.toList.drop i)
        · have hg0 := gap_zero s i hlt hcm hb
          have hne : s.data.toList.drop i ≠ [] := by rw [hda]; simp
          have hc : (s[i].toNat = 47 → ∀ h2 : i + 1 < s.size, ¬ s[i + 1].toNat = 47) := by
            intro h47 h2 h47b
            have := hcom.symm.trans hcm
            rw [dif_pos h2, decide_eq_true h47, decide_eq_true h47b] at this
            cases this
          clear hcom hb
          cases hlet : isLetter s[i]
          · as_aux_lemma =>
            have hL : isLetI (s[i].toNat : Int) = false := by rw [isLetI_cast]; exact hlet
            have hw0 : ¬ 0 < wordLen (s.data.toList.drop i) := by
              have hwl := wordLen_eq _ _ _ hda
              rw [hlet, if_neg (by simp)] at hwl
              omega
            cases hdig : isDigit s[i]
            · as_aux_lemma =>
              have hD : isDigI (s[i].toNat : Int) = false := by rw [isDigI_cast]; exact hdig
              have hd0 : ¬ 0 < digLen (s.data.toList.drop i) := by
                have h1 := tw_none isDigit s i hlt hdig
                unfold digLen
                omega
              have hml := signLen_le (s.data.toList.drop i)
              rw [List.length_drop, size_list] at hml
              have HNE := Lib.hid hne
              have HG0 := Lib.hid hg0
              have cG := Lib.hid (fun W => signAt_any s i W hi (by omega))
              have hc2 : RowKit.Hid (s[i].toNat = 47 → ∀ h2 : i + 1 < s.size, ((s[i + 1].toNat : Int) == 47) = false) := by
                show _ → ∀ _, _
                intro h47 h2
                have := hc h47 h2
                simp
                omega
              obtain ⟨i0, hi0, hz0, hz1, hz2⟩ := info_parts Tryz.infoTok
              clear hda hlet hdig hne hg0 hc hcm
              by_cases hm : 0 < signLen (s.data.toList.drop i)
              · as_aux_lemma =>
                have hft : first (s.data.toList.drop i) = (4, signLen (s.data.toList.drop i), 0) := by unfold first; rw [if_neg hw0, if_neg hd0, if_pos hm]
                have HS := Lib.hid (run_next HNE.out HG0.out hft HR.out)
                obtain ⟨m, hmd⟩ : ∃ m, m = signLen (s.data.toList.drop i) := ⟨_, rfl⟩
                rw [← hmd] at HS hm hml cG
                clear hft hw0 hd0 hmd HR HNE HG0
                by_cases h47 : s[i].toNat = 47
                · by_cases h2 : i + 1 < s.size
                  · as_aux_lemma =>
                    have h47b := hc2.out h47 h2
                    go_wp2_with (first
                      | (go_at_call 84; refine (refLetter_any _ _).mono ?_; rintro e w' ⟨rfl, rfl⟩)
                      | (go_at_call 87; refine (refDigit_any _ _).mono ?_; rintro e w' ⟨rfl, rfl⟩)
                      | (go_at_call 89; refine (cG.out _).mono ?_; rintro e w2 ⟨⟨y, rfl, hy⟩, hb2⟩; have hys := sign_size hy hml; have hye := nonempty_bool y (by omega); have HY := Lib.hid hy; clear hy)
                      | (at_builtin; refine wpList_append_own _ rfl (.tmp 31) (.tmp 35) 70 rfl w.heap.size 122 i0 (.agg #[.int .i64 0, .string ⟨#[]⟩, .int .i64 0]) 3 32 Tryz.underlying70 hi0 hz0 hz1 hz2 rfl (by decide) _ _ _ rfl ((own_below hown hb2).alloc _) ⟨w2.heap.size, 0, none⟩ 1 1 [.int .i64 4, .string y, .int .i64 line] rfl rfl (cell_three_new _ _ _ _ _) (by intro u hu; simp at hu; rcases hu with rfl | rfl | rfl <;> rfl) (by unfold maxLen; omega) (by omega) (by have h1 := hb2.size; have h2 := hbel.size; simp; omega) ?_; intro v4 w4 hown4 hgrow4 hnil4))
                    go_roundw
                    case rel =>
                      have hbw := hbel.trans (hb2.mono hbel.size)
                      refine ⟨i + m, line, acc ++ [(4, (s.data.toList.drop i).take m, line)], by go_num, rfl, by omega, by omega, by simp; omega, ?_, ?_, HS.out⟩
                      · rw [cells_sign HY.out, List.length_append]
                        exact hown4
                      · exact (hbw.alloc hbw.size _).grown hgrow4 (by have h1 := hb2.size; have h2 := hbel.size; simp; omega) (own_block_ge hown)
                    case measure => simp [intOf]; omega
                  · as_aux_lemma =>
                    have h2b : ¬ (i : Int) + 1 < (s.size : Int) := by omega
                    go_wp2_with (first
                      | (go_at_call 84; refine (refLetter_any _ _).mono ?_; rintro e w' ⟨rfl, rfl⟩)
                      | (go_at_call 87; refine (refDigit_any _ _).mono ?_; rintro e w' ⟨rfl, rfl⟩)
                      | (go_at_call 89; refine (cG.out _).mono ?_; rintro e w2 ⟨⟨y, rfl, hy⟩, hb2⟩; have hys := sign_size hy hml; have hye := nonempty_bool y (by omega); have HY := Lib.hid hy; clear hy)
                      | (at_builtin; refine wpList_append_own _ rfl (.tmp 31) (.tmp 35) 70 rfl w.heap.size 122 i0 (.agg #[.int .i64 0, .string ⟨#[]⟩, .int .i64 0]) 3 32 Tryz.underlying70 hi0 hz0 hz1 hz2 rfl (by decide) _ _ _ rfl ((own_below hown hb2).alloc _) ⟨w2.heap.size, 0, none⟩ 1 1 [.int .i64 4, .string y, .int .i64 line] rfl rfl (cell_three_new _ _ _ _ _) (by intro u hu; simp at hu; rcases hu with rfl | rfl | rfl <;> rfl) (by unfold maxLen; omega) (by omega) (by have h1 := hb2.size; have h2 := hbel.size; simp; omega) ?_; intro v4 w4 hown4 hgrow4 hnil4))
                    go_roundw
                    case rel =>
                      have hbw := hbel.trans (hb2.mono hbel.size)
                      refine ⟨i + m, line, acc ++ [(4, (s.data.toList.drop i).take m, line)], by go_num, rfl, by omega, by omega, by simp; omega, ?_, ?_, HS.out⟩
                      · rw [cells_sign HY.out, List.length_append]
                        exact hown4
                      · exact (hbw.alloc hbw.size _).grown hgrow4 (by have h1 := hb2.size; have h2 := hbel.size; simp; omega) (own_block_ge hown)
                    case measure => simp [intOf]; omega
                · as_aux_lemma =>
                  have n47 : ((s[i].toNat : Int) == 47) = false := by simp; omega
                  go_wp2_with (first
                    | (go_at_call 84; refine (refLetter_any _ _).mono ?_; rintro e w' ⟨rfl, rfl⟩)
                    | (go_at_call 87; refine (refDigit_any _ _).mono ?_; rintro e w' ⟨rfl, rfl⟩)
                    | (go_at_call 89; refine (cG.out _).mono ?_; rintro e w2 ⟨⟨y, rfl, hy⟩, hb2⟩; have hys := sign_size hy hml; have hye := nonempty_bool y (by omega); have HY := Lib.hid hy; clear hy)
                    | (at_builtin; refine wpList_append_own _ rfl (.tmp 31) (.tmp 35) 70 rfl w.heap.size 122 i0 (.agg #[.int .i64 0, .string ⟨#[]⟩, .int .i64 0]) 3 32 Tryz.underlying70 hi0 hz0 hz1 hz2 rfl (by decide) _ _ _ rfl ((own_below hown hb2).alloc _) ⟨w2.heap.size, 0, none⟩ 1 1 [.int .i64 4, .string y, .int .i64 line] rfl rfl (cell_three_new _ _ _ _ _) (by intro u hu; simp at hu; rcases hu with rfl | rfl | rfl <;> rfl) (by unfold maxLen; omega) (by omega) (by have h1 := hb2.size; have h2 := hbel.size; simp; omega) ?_; intro v4 w4 hown4 hgrow4 hnil4))
                  go_roundw
                  case rel =>
                    have hbw := hbel.trans (hb2.mono hbel.size)
                    refine ⟨i + m, line, acc ++ [(4, (s.data.toList.drop i).take m, line)], by go_num, rfl, by omega, by omega, by simp; omega, ?_, ?_, HS.out⟩
                    · rw [cells_sign HY.out, List.length_append]
                      exact hown4
                    · exact (hbw.alloc hbw.size _).grown hgrow4 (by have h1 := hb2.size; have h2 := hbel.size; simp; omega) (own_block_ge hown)
                  case measure => simp [intOf]; omega
              · as_aux_lemma =>
                have hft : first (s.data.toList.drop i) = (0, 0, 3) := by unfold first; rw [if_neg hw0, if_neg hd0, if_neg hm]
                have hfin := Lib.hid (run_stop HNE.out HG0.out hft (by decide) HR.out)
                have hm0 : signLen (s.data.toList.drop i) = 0 := by omega
                rw [hm0] at cG
                clear hft hw0 hd0 hm hm0 hml HR HNE HG0 hi0 hz0 hz1 hz2
                by_cases h47 : s[i].toNat = 47
                · by_cases h2 : i + 1 < s.size
                  · as_aux_lemma =>
                    have h47b := hc2.out h47 h2
                    go_wp2_with (first
                      | (go_at_call 84; refine (refLetter_any _ _).mono ?_; rintro e w' ⟨rfl, rfl⟩)
                      | (go_at_call 87; refine (refDigit_any _ _).mono ?_; rintro e w' ⟨rfl, rfl⟩)
                      | (go_at_call 89; refine (cG.out _).mono ?_; rintro e w2 ⟨⟨y, rfl, hy⟩, hb2⟩; have hys := sign_zero hy; have hye := empty_bool y hys; have hye2 := empty_list y hys; clear hy hys))
                    go_ret3
                    refine ⟨.slice none 0 0, ?_, ?_, hbel.trans (hb2.mono hbel.size)⟩
                    · rw [hfin.out]; rfl
                    · rw [hfin.out]; exact ⟨rfl, .inl ⟨rfl, rfl⟩⟩
                  · as_aux_lemma =>
                    have h2b : ¬ (i : Int) + 1 < (s.size : Int) := by omega
                    go_wp2_with (first
                      | (go_at_call 84; refine (refLetter_any _ _).mono ?_; rintro e w' ⟨rfl, rfl⟩)
                      | (go_at_call 87; refine (refDigit_any _ _).mono ?_; rintro e w' ⟨rfl, rfl⟩)
                      | (go_at_call 89; refine (cG.out _).mono ?_; rintro e w2 ⟨⟨y, rfl, hy⟩, hb2⟩; have hys := sign_zero hy; have hye := empty_bool y hys; have hye2 := empty_list y hys; clear hy hys))
                    go_ret3
                    refine ⟨.slice none 0 0, ?_, ?_, hbel.trans (hb2.mono hbel.size)⟩
                    · rw [hfin.out]; rfl
                    · rw [hfin.out]; exact ⟨rfl, .inl ⟨rfl, rfl⟩⟩
                · as_aux_lemma =>
                  have n47 : ((s[i].toNat : Int) == 47) = false := by simp; omega
                  go_wp2_with (first
                    | (go_at_call 84; refine (refLetter_any _ _).mono ?_; rintro e w' ⟨rfl, rfl⟩)
                    | (go_at_call 87; refine (refDigit_any _ _).mono ?_; rintro e w' ⟨rfl, rfl⟩)
                    | (go_at_call 89; refine (cG.out _).mono ?_; rintro e w2 ⟨⟨y, rfl, hy⟩, hb2⟩; have hys := sign_zero hy; have hye := empty_bool y hys; have hye2 := empty_list y hys; clear hy hys))
                  go_ret3
                  refine ⟨.slice none 0 0, ?_, ?_, hbel.trans (hb2.mono hbel.size)⟩
                  · rw [hfin.out]; rfl
                  · rw [hfin.out]; exact ⟨rfl, .inl ⟨rfl, rfl⟩⟩
            · as_aux_lemma =>
              have hD : isDigI (s[i].toNat : Int) = true := by rw [isDigI_cast]; exact hdig
              have n47 : ((s[i].toNat : Int) == 47) = false := by
                have h48 : 48 ≤ s[i].toNat ∧ s[i].toNat ≤ 57 := by simpa [isDigit] using hdig
                simp
                omega
              have hdp : 0 < digLen (s.data.toList.drop i) := by
                have h1 := tw_cons isDigit s i hlt hdig
                unfold digLen
                omega
              have hF : first (s.data.toList.drop i) = number ((s.data.toList.drop i).take (digLen (s.data.toList.drop i))) ((s.data.toList.drop i).drop (digLen (s.data.toList.drop i))) := by unfold first; rw [if_neg hw0, if_pos hdp]
              have HP := Lib.hid hdp
              have HF := Lib.hid hF
              have HNE := Lib.hid hne
              have HG0 := Lib.hid hg0
              clear hdp hF hne hg0 hc hcm hda hlet hdig hw0
              go_wp2_with (first | (go_at_call 84; refine (refLetter_any _ _).mono ?_; rintro e w' ⟨rfl, rfl⟩) | (go_at_call 87; refine (refDigit_any _ _).mono ?_; rintro e w' ⟨rfl, rfl⟩))
              go_loop [9] (fun kv => ∃ k : Nat, kv = .int .i64 k ∧ i ≤ k ∧ k ≤ s.size ∧ RowKit.Hid (((s.data.toList.drop i).takeWhile isDigit).length = (k - i) + ((s.data.toList.drop k).takeWhile isDigit).length)) (fun kv => s.size - (intOf kv).toNat)
              case atStart => exact ⟨i, rfl, by omega, by omega, by show _ = _; omega⟩
              case round =>
                obtain ⟨k, rfl, hik, hks, HK⟩ := hrel
                by_cases hgo : ∃ hlk : k < s.size, isDigit s[k] = true
                · obtain ⟨hlk, hp⟩ := hgo
                  have hP : isDigI (s[k].toNat : Int) = true := by rw [isDigI_cast]; exact hp
                  have HE := Lib.hid (tw_cons isDigit s k hlk hp)
                  clear hp
                  go_wp2_with (go_at_call 87; refine (refDigit_any _ _).mono ?_; rintro e w' ⟨rfl, rfl⟩)
                  go_round
                  case rel => exact ⟨k + 1, by go_num, by omega, by omega, by show _ = _; have h1 := HK.out; have h2 := HE.out; omega⟩
                  case measure => simp [intOf]; omega
                · obtain ⟨n, rfl⟩ : ∃ n, k = i + n := ⟨k - i, by omega⟩
                  have HE : RowKit.Hid (digLen (s.data.toList.drop i) = n) := by
                    show digLen (s.data.toList.drop i) = n
                    have h2 := HK.out
                    unfold digLen
                    by_cases hlk : i + n < s.size
                    · have h3 := tw_none isDigit s (i + n) hlk (by
                        cases hp : isDigit s[i + n]
                        · rfl
                        · exact absurd ⟨hlk, hp⟩ hgo)
                      omega
                    · have h3 := tw_end isDigit s (i + n) hlk
                      omega
                  have hn0 : 0 < n := by have h1 := HE.out; have h2 := HP.out; omega
                  have hout : RowKit.Hid (∀ hlk : i + n < s.size, isDigI (s[i + n].toNat : Int) = false) := by
                    show ∀ _, _
                    intro hlk
                    rw [isDigI_cast]
                    cases hp : isDigit s[i + n]
                    · rfl
                    · exact absurd ⟨hlk, hp⟩ hgo
                  have hF2 := HF.out
                  rw [HE.out, List.drop_drop] at hF2
                  have HF2 := Lib.hid hF2
                  have hall := digits_all (s.data.toList.drop i)
                  rw [HE.out, ← mid_data] at hall
                  have hxs : (s.extract i (i + n)).size = n := by rw [← size_list, mid_data, List.length_take, List.length_drop, size_list]; omega
                  have cN0 := fun W => number_ref (s.extract i (i + n)) W (by omega) (by omega) hall
                  rw [mid_data] at cN0
                  have hnl : ((s.data.toList.drop i).take n).length = n := by rw [List.length_take, List.length_drop, size_list]; omega
                  have HNL := Lib.hid hnl
                  clear hgo HK HP hik hF2 hall hxs hnl HF
                  by_cases hdec : dec 0 ((s.data.toList.drop i).take n) < lim
                  · as_aux_lemma =>
                    rw [decide_eq_true hdec] at cN0
                    have cN := Lib.hid cN0
                    have HDC := Lib.hid hdec
                    clear cN0 hdec
                    obtain ⟨i0, hi0, hz0, hz1, hz2⟩ := info_parts Tryz.infoTok
                    by_cases hlk : i + n < s.size
                    · as_aux_lemma =>
                      have hND := hout.out hlk
                      have hhp : headPart (s.data.toList.drop (i + n)) = isPart s[i + n] := by rw [drop_at s (i + n) hlk]; rfl
                      cases hpt : isPart s[i + n]
                      · as_aux_lemma =>
                        have hP : isPartI (s[i + n].toNat : Int) = false := by rw [isPartI_cast]; exact hpt
                        have hft : first (s.data.toList.drop i) = (2, n, 0) := by
                          rw [HF2.out]
                          unfold number
                          rw [hhp, hpt, if_neg (by simp), if_pos HDC.out, HNL.out]
                        have HS := Lib.hid (run_next HNE.out HG0.out hft HR.out)
                        have HC := Lib.hid (cells_mid s i n 2 line acc)
                        clear hft hhp hpt
                        go_wp2_with (first
                          | (go_at_call 87; refine (refDigit_any _ _).mono ?_; rintro e w' ⟨rfl, rfl⟩)
                          | (go_at_call 85; refine (refInner_any _ _).mono ?_; rintro e w' ⟨rfl, rfl⟩)
                          | (go_at_call 88; refine (cN.out _).mono ?_; rintro e w' ⟨⟨v, rfl⟩, rfl⟩)
                          | (at_builtin; refine wpList_append_own _ rfl (.tmp 164) (.tmp 171) 70 rfl w.heap.size 122 i0 (.agg #[.int .i64 0, .string ⟨#[]⟩, .int .i64 0]) 3 32 Tryz.underlying70 hi0 hz0 hz1 hz2 rfl (by decide) _ _ _ rfl (hown.alloc _) ⟨wr.heap.size, 0, none⟩ 1 1 [.int .i64 2, .string (s.extract i (i + n)), .int .i64 line] rfl rfl (cell_three_new _ _ _ _ _) (by intro u hu; simp at hu; rcases hu with rfl | rfl | rfl <;> rfl) (by unfold maxLen; omega) (by omega) (by have h2 := hbel.size; simp; omega) ?_; intro v4 w4 hown4 hgrow4 hnil4))
                        go_roundw
                        case rel =>
                          refine ⟨i + n, line, acc ++ [(2, (s.data.toList.drop i).take n, line)], rfl, rfl, by omega, by omega, by simp; omega, ?_, ?_, HS.out⟩
                          · rw [HC.out, List.length_append]
                            exact hown4
                          · exact (hbel.alloc hbel.size _).grown hgrow4 (by have h2 := hbel.size; simp; omega) (own_block_ge hown)
                        case measure => simp [intOf]; omega
                      · as_aux_lemma =>
                        have hP : isPartI (s[i + n].toNat : Int) = true := by rw [isPartI_cast]; exact hpt
                        have hft : first (s.data.toList.drop i) = (0, 0, 3) := by
                          rw [HF2.out]
                          unfold number
                          rw [hhp, hpt, if_pos rfl]
                        have hfin := Lib.hid (run_stop HNE.out HG0.out hft (by decide) HR.out)
                        clear hft hhp hpt hi0 hz0 hz1 hz2
                        go_wp2_with (first
                          | (go_at_call 87; refine (refDigit_any _ _).mono ?_; rintro e w' ⟨rfl, rfl⟩)
                          | (go_at_call 85; refine (refInner_any _ _).mono ?_; rintro e w' ⟨rfl, rfl⟩)
                          | (go_at_call 88; refine (cN.out _).mono ?_; rintro e w' ⟨⟨v, rfl⟩, rfl⟩))
                        go_ret3
                        refine ⟨.slice none 0 0, ?_, ?_, hbel⟩
                        · rw [hfin.out]; rfl
                        · rw [hfin.out]; exact ⟨rfl, .inl ⟨rfl, rfl⟩⟩
                    · as_aux_lemma =>
                      have hhp : headPart (s.data.toList.drop (i + n)) = false := by rw [List.drop_eq_nil_of_le (by rw [size_list]; omega)]; rfl
                      have hft : first (s.data.toList.drop i) = (2, n, 0) := by
                        rw [HF2.out]
                        unfold number
                        rw [hhp, if_neg (by simp), if_pos HDC.out, HNL.out]
                      have HS := Lib.hid (run_next HNE.out HG0.out hft HR.out)
                      have HC := Lib.hid (cells_mid s i n 2 line acc)
                      clear hft hhp
                      go_wp2_with (first
                        | (go_at_call 87; refine (refDigit_any _ _).mono ?_; rintro e w' ⟨rfl, rfl⟩)
                        | (go_at_call 85; refine (refInner_any _ _).mono ?_; rintro e w' ⟨rfl, rfl⟩)
                        | (go_at_call 88; refine (cN.out _).mono ?_; rintro e w' ⟨⟨v, rfl⟩, rfl⟩)
                        | (at_builtin; refine wpList_append_own _ rfl (.tmp 164) (.tmp 171) 70 rfl w.heap.size 122 i0 (.agg #[.int .i64 0, .string ⟨#[]⟩, .int .i64 0]) 3 32 Tryz.underlying70 hi0 hz0 hz1 hz2 rfl (by decide) _ _ _ rfl (hown.alloc _) ⟨wr.heap.size, 0, none⟩ 1 1 [.int .i64 2, .string (s.extract i (i + n)), .int .i64 line] rfl rfl (cell_three_new _ _ _ _ _) (by intro u hu; simp at hu; rcases hu with rfl | rfl | rfl <;> rfl) (by unfold maxLen; omega) (by omega) (by have h2 := hbel.size; simp; omega) ?_; intro v4 w4 hown4 hgrow4 hnil4))
                      go_roundw
                      case rel =>
                        refine ⟨i + n, line, acc ++ [(2, (s.data.toList.drop i).take n, line)], rfl, rfl, by omega, by omega, by simp; omega, ?_, ?_, HS.out⟩
                        · rw [HC.out, List.length_append]
                          exact hown4
                        · exact (hbel.alloc hbel.size _).grown hgrow4 (by have h2 := hbel.size; simp; omega) (own_block_ge hown)
                      case measure => simp [intOf]; omega
                  · as_aux_lemma =>
                    rw [decide_eq_false hdec] at cN0
                    have cN := Lib.hid cN0
                    have hft : first (s.data.toList.drop i) = (0, 0, 3) := by
                      rw [HF2.out]
                      unfold number
                      rw [if_neg hdec]
                      split <;> rfl
                    have hfin := Lib.hid (run_stop HNE.out HG0.out hft (by decide) HR.out)
                    clear cN0 hdec hft
                    by_cases hlk : i + n < s.size
                    · as_aux_lemma =>
                      have hND := hout.out hlk
                      go_wp2_with (first
                        | (go_at_call 87; refine (refDigit_any _ _).mono ?_; rintro e w' ⟨rfl, rfl⟩)
                        | (go_at_call 85; refine (refInner_any _ _).mono ?_; rintro e w' ⟨rfl, rfl⟩)
                        | (go_at_call 88; refine (cN.out _).mono ?_; rintro e w' ⟨⟨v, rfl⟩, rfl⟩))
                      go_ret3
                      refine ⟨.slice none 0 0, ?_, ?_, hbel⟩
                      · rw [hfin.out]; rfl
                      · rw [hfin.out]; exact ⟨rfl, .inl ⟨rfl, rfl⟩⟩
                    · go_wp2_with (first
                        | (go_at_call 87; refine (refDigit_any _ _).mono ?_; rintro e w' ⟨rfl, rfl⟩)
                        | (go_at_call 85; refine (refInner_any _ _).mono ?_; rintro e w' ⟨rfl, rfl⟩)
                        | (go_at_call 88; refine (cN.out _).mono ?_; rintro e w' ⟨⟨v, rfl⟩, rfl⟩))
                      go_ret3
                      refine ⟨.slice none 0 0, ?_, ?_, hbel⟩
                      · rw [hfin.out]; rfl
                      · rw [hfin.out]; exact ⟨rfl, .inl ⟨rfl, rfl⟩⟩
          · as_aux_lemma =>
            have hL : isLetI (s[i].toNat : Int) = true := by rw [isLetI_cast]; exact hlet
            have n47 : ((s[i].toNat : Int) == 47) = false := by
              have : s[i].toNat ≠ 47 := fun e => by
                have e2 : s[i] = 47 := UInt8.toNat_inj.1 e
                rw [e2] at hlet
                revert hlet
                decide
              simp
              omega
            have hwl := wordLen_eq _ _ _ hda
            rw [hlet, if_pos rfl] at hwl
            have hwp : 0 < wordLen (s.data.toList.drop i) := by
              have := tw_cons isPart s i hlt (part_of_letter _ hlet)
              omega
            have hF : first (s.data.toList.drop i) = word ((s.data.toList.drop i).take (wordLen (s.data.toList.drop i))) := by unfold first; rw [if_pos hwp]
            have HW := Lib.hid hwl
            have HP := Lib.hid hwp
            have HF := Lib.hid hF
            have HNE := Lib.hid hne
            have HG0 := Lib.hid hg0
            clear hwl hwp hF hne hg0 hc hcm hda hlet
            go_wp2_with (go_at_call 84; refine (refLetter_any _ _).mono ?_; rintro e w' ⟨rfl, rfl⟩)
            go_loop [9] (fun kv => ∃ k : Nat, kv = .int .i64 k ∧ i ≤ k ∧ k ≤ s.size ∧ RowKit.Hid (((s.data.toList.drop i).takeWhile isPart).length = (k - i) + ((s.data.toList.drop k).takeWhile isPart).length)) (fun kv => s.size - (intOf kv).toNat)
            case atStart => exact ⟨i, rfl, by omega, by omega, by show _ = _; omega⟩
            case round =>
              obtain ⟨k, rfl, hik, hks, HK⟩ := hrel
              by_cases hgo : ∃ hlk : k < s.size, isPart s[k] = true
              · obtain ⟨hlk, hp⟩ := hgo
                have hP : isPartI (s[k].toNat : Int) = true := by rw [isPartI_cast]; exact hp
                have HE := Lib.hid (tw_cons isPart s k hlk hp)
                clear hp
                go_wp2_with (go_at_call 85; refine (refInner_any _ _).mono ?_; rintro e w' ⟨rfl, rfl⟩)
                go_round
                case rel => exact ⟨k + 1, by go_num, by omega, by omega, by show _ = _; have h1 := HK.out; have h2 := HE.out; omega⟩
                case measure => simp [intOf]; omega
              · obtain ⟨n, rfl⟩ : ∃ n, k = i + n := ⟨k - i, by omega⟩
                have HE : RowKit.Hid (wordLen (s.data.toList.drop i) = n) := by
                  show wordLen (s.data.toList.drop i) = n
                  have h1 := HW.out
                  have h2 := HK.out
                  by_cases hlk : i + n < s.size
                  · have h3 := tw_none isPart s (i + n) hlk (by
                      cases hp : isPart s[i + n]
                      · rfl
                      · exact absurd ⟨hlk, hp⟩ hgo)
                    omega
                  · have h3 := tw_end isPart s (i + n) hlk
                    omega
                have hn0 : 0 < n := by have h1 := HE.out; have h2 := HP.out; omega
                have hout : RowKit.Hid (∀ hlk : i + n < s.size, isPartI (s[i + n].toNat : Int) = false) := by
                  show ∀ _, _
                  intro hlk
                  rw [isPartI_cast]
                  cases hp : isPart s[i + n]
                  · rfl
                  · exact absurd ⟨hlk, hp⟩ hgo
                clear hgo HK HW HP hik
                by_cases h12 : 12 < n
                · as_aux_lemma =>
                  have hfin := Lib.hid (run_stop HNE.out HG0.out (show first (s.data.toList.drop i) = (0, 0, 2) by
                    rw [HF.out, HE.out]
                    unfold word
                    rw [if_pos (by rw [List.length_take, List.length_drop, size_list]; omega)]) (by decide) HR.out)
                  by_cases hlk : i + n < s.size
                  · as_aux_lemma =>
                    have hP := hout.out hlk
                    go_wp2_with (go_at_call 85; refine (refInner_any _ _).mono ?_; rintro e w' ⟨rfl, rfl⟩)
                    go_ret3
                    refine ⟨.slice none 0 0, ?_, ?_, hbel⟩
                    · rw [hfin.out]; rfl
                    · rw [hfin.out]; exact ⟨rfl, .inl ⟨rfl, rfl⟩⟩
                  · go_wp2_with fail
                    go_ret3
                    refine ⟨.slice none 0 0, ?_, ?_, hbel⟩
                    · rw [hfin.out]; rfl
                    · rw [hfin.out]; exact ⟨rfl, .inl ⟨rfl, rfl⟩⟩
                · as_aux_lemma =>
                  have hlt12 : ((s.data.toList.drop i).take n).length ≤ 12 := by rw [List.length_take]; omega
                  have hwd : word ((s.data.toList.drop i).take n) = if isKw ((s.data.toList.drop i).take n) then (3, n, 0) else (1, n, 0) := by
                    unfold word
                    rw [if_neg (by omega), List.length_take, List.length_drop, size_list, Nat.min_eq_left (by omega)]
                  have HWD := Lib.hid hwd
                  obtain ⟨i0, hi0, hz0, hz1, hz2⟩ := info_parts Tryz.infoTok
                  clear hlt12 hwd
                  cases hkw : isKw ((s.data.toList.drop i).take n)
                  · as_aux_lemma =>
                    have hft : first (s.data.toList.drop i) = (1, n, 0) := by rw [HF.out, HE.out, HWD.out, hkw]; rfl
                    have HS := Lib.hid (run_next HNE.out HG0.out hft HR.out)
                    have HC := Lib.hid (cells_mid s i n 1 line acc)
                    have cK : RowKit.Hid (∀ W, Calls Tryz.prog 86 #[.string (s.extract i (i + n))] W fun e w' => e = .returned (.bool false) ∧ Below W.heap.size W w') := by
                      show ∀ W, _
                      intro W
                      refine (refIsKeyword_any (s.extract i (i + n)) W).mono ?_
                      rintro e w' ⟨he, hb⟩
                      rw [mid_data, hkw] at he
                      exact ⟨he, hb⟩
                    clear hkw hft HWD
                    by_cases hlk : i + n < s.size
                    · as_aux_lemma =>
                      have hP := hout.out hlk
                      go_wp2_with (first
                        | (go_at_call 85; refine (refInner_any _ _).mono ?_; rintro e w' ⟨rfl, rfl⟩)
                        | (go_at_call 86; refine (cK.out _).mono ?_; rintro e w2 ⟨rfl, hb2⟩; obtain ⟨x0, x1, x2, xf, xs⟩ := box_kept hb2; have hb3 : Below wr.heap.size wr w2 := ((Below.refl _ _).alloc (Nat.le_refl _) _).trans (hb2.mono (by simp)))
                        | (at_builtin; refine wpList_append_own _ rfl (.tmp 121) (.tmp 123) 70 rfl w.heap.size 122 i0 (.agg #[.int .i64 0, .string ⟨#[]⟩, .int .i64 0]) 3 32 Tryz.underlying70 hi0 hz0 hz1 hz2 rfl (by decide) _ _ _ rfl ((own_below hown hb3).alloc _) ⟨w2.heap.size, 0, none⟩ 1 1 [.int .i64 1, .string (s.extract i (i + n)), .int .i64 line] rfl rfl (cell_three_new _ _ _ _ _) (by intro u hu; simp at hu; rcases hu with rfl | rfl | rfl <;> rfl) (by unfold maxLen; omega) (by omega) (by have h1 := hb3.size; have h2 := hbel.size; simp; omega) ?_; intro v4 w4 hown4 hgrow4 hnil4))
                      go_roundw
                      case rel =>
                        have hbw := hbel.trans (hb3.mono hbel.size)
                        refine ⟨i + n, line, acc ++ [(1, (s.data.toList.drop i).take n, line)], rfl, rfl, by omega, by omega, by simp; omega, ?_, ?_, HS.out⟩
                        · rw [HC.out, List.length_append]
                          exact hown4
                        · exact (hbw.alloc hbw.size _).grown hgrow4 (by have h1 := hb3.size; have h2 := hbel.size; simp; omega) (own_block_ge hown)
                      case measure => simp [intOf]; omega
                    · go_wp2_with (first
                        | (go_at_call 85; refine (refInner_any _ _).mono ?_; rintro e w' ⟨rfl, rfl⟩)
                        | (go_at_call 86; refine (cK.out _).mono ?_; rintro e w2 ⟨rfl, hb2⟩; obtain ⟨x0, x1, x2, xf, xs⟩ := box_kept hb2; have hb3 : Below wr.heap.size wr w2 := ((Below.refl _ _).alloc (Nat.le_refl _) _).trans (hb2.mono (by simp)))
                        | (at_builtin; refine wpList_append_own _ rfl (.tmp 121) (.tmp 123) 70 rfl w.heap.size 122 i0 (.agg #[.int .i64 0, .string ⟨#[]⟩, .int .i64 0]) 3 32 Tryz.underlying70 hi0 hz0 hz1 hz2 rfl (by decide) _ _ _ rfl ((own_below hown hb3).alloc _) ⟨w2.heap.size, 0, none⟩ 1 1 [.int .i64 1, .string (s.extract i (i + n)), .int .i64 line] rfl rfl (cell_three_new _ _ _ _ _) (by intro u hu; simp at hu; rcases hu with rfl | rfl | rfl <;> rfl) (by unfold maxLen; omega) (by omega) (by have h1 := hb3.size; have h2 := hbel.size; simp; omega) ?_; intro v4 w4 hown4 hgrow4 hnil4))
                      go_roundw
                      case rel =>
                        have hbw := hbel.trans (hb3.mono hbel.size)
                        refine ⟨i + n, line, acc ++ [(1, (s.data.toList.drop i).take n, line)], rfl, rfl, by omega, by omega, by simp; omega, ?_, ?_, HS.out⟩
                        · rw [HC.out, List.length_append]
                          exact hown4
                        · exact (hbw.alloc hbw.size _).grown hgrow4 (by have h1 := hb3.size; have h2 := hbel.size; simp; omega) (own_block_ge hown)
                      case measure => simp [intOf]; omega
                  · as_aux_lemma =>
                    have hft : first (s.data.toList.drop i) = (3, n, 0) := by rw [HF.out, HE.out, HWD.out, hkw]; rfl
                    have HS := Lib.hid (run_next HNE.out HG0.out hft HR.out)
                    have HC := Lib.hid (cells_mid s i n 3 line acc)
                    have cK : RowKit.Hid (∀ W, Calls Tryz.prog 86 #[.string (s.extract i (i + n))] W fun e w' => e = .returned (.bool true) ∧ Below W.heap.size W w') := by
                      show ∀ W, _
                      intro W
                      refine (refIsKeyword_any (s.extract i (i + n)) W).mono ?_
                      rintro e w' ⟨he, hb⟩
                      rw [mid_data, hkw] at he
                      exact ⟨he, hb⟩
                    clear hkw hft HWD
                    by_cases hlk : i + n < s.size
                    · as_aux_lemma =>
                      have hP := hout.out hlk
                      go_wp2_with (first
                        | (go_at_call 85; refine (refInner_any _ _).mono ?_; rintro e w' ⟨rfl, rfl⟩)
                        | (go_at_call 86; refine (cK.out _).mono ?_; rintro e w2 ⟨rfl, hb2⟩; obtain ⟨x0, x1, x2, xf, xs⟩ := box_kept hb2; have hb3 : Below wr.heap.size wr w2 := ((Below.refl _ _).alloc (Nat.le_refl _) _).trans (hb2.mono (by simp)); have hb4 : Below wr.heap.size wr (w2.setCell ⟨wr.heap.size, 0, none⟩ (.int .i64 3)) := hb3.setCell (p := ⟨wr.heap.size, 0, none⟩) (Nat.le_refl _) _)
                        | (at_builtin; refine wpList_append_own _ rfl (.tmp 121) (.tmp 123) 70 rfl w.heap.size 122 i0 (.agg #[.int .i64 0, .string ⟨#[]⟩, .int .i64 0]) 3 32 Tryz.underlying70 hi0 hz0 hz1 hz2 rfl (by decide) _ _ _ rfl ((own_below hown hb4).alloc _) ⟨w2.heap.size, 0, none⟩ 1 1 [.int .i64 3, .string (s.extract i (i + n)), .int .i64 line] rfl rfl (cell_three_set _ _ _ _ _ _ _) (by intro u hu; simp at hu; rcases hu with rfl | rfl | rfl <;> rfl) (by unfold maxLen; omega) (by omega) (by have h1 := hb3.size; have h2 := hbel.size; simp; omega) ?_; intro v4 w4 hown4 hgrow4 hnil4))
                      go_roundw
                      case rel =>
                        have hbw := hbel.trans (hb4.mono hbel.size)
                        refine ⟨i + n, line, acc ++ [(3, (s.data.toList.drop i).take n, line)], rfl, rfl, by omega, by omega, by simp; omega, ?_, ?_, HS.out⟩
                        · rw [HC.out, List.length_append]
                          exact hown4
                        · exact (hbw.alloc hbw.size _).grown hgrow4 (by have h1 := hb3.size; have h2 := hbel.size; simp; omega) (own_block_ge hown)
                      case measure => simp [intOf]; omega
                    · go_wp2_with (first
                        | (go_at_call 85; refine (refInner_any _ _).mono ?_; rintro e w' ⟨rfl, rfl⟩)
                        | (go_at_call 86; refine (cK.out _).mono ?_; rintro e w2 ⟨rfl, hb2⟩; obtain ⟨x0, x1, x2, xf, xs⟩ := box_kept hb2; have hb3 : Below wr.heap.size wr w2 := ((Below.refl _ _).alloc (Nat.le_refl _) _).trans (hb2.mono (by simp)); have hb4 : Below wr.heap.size wr (w2.setCell ⟨wr.heap.size, 0, none⟩ (.int .i64 3)) := hb3.setCell (p := ⟨wr.heap.size, 0, none⟩) (Nat.le_refl _) _)
                        | (at_builtin; refine wpList_append_own _ rfl (.tmp 121) (.tmp 123) 70 rfl w.heap.size 122 i0 (.agg #[.int .i64 0, .string ⟨#[]⟩, .int .i64 0]) 3 32 Tryz.underlying70 hi0 hz0 hz1 hz2 rfl (by decide) _ _ _ rfl ((own_below hown hb4).alloc _) ⟨w2.heap.size, 0, none⟩ 1 1 [.int .i64 3, .string (s.extract i (i + n)), .int .i64 line] rfl rfl (cell_three_set _ _ _ _ _ _ _) (by intro u hu; simp at hu; rcases hu with rfl | rfl | rfl <;> rfl) (by unfold maxLen; omega) (by omega) (by have h1 := hb3.size; have h2 := hbel.size; simp; omega) ?_; intro v4 w4 hown4 hgrow4 hnil4))
                      go_roundw
                      case rel =>
                        have hbw := hbel.trans (hb4.mono hbel.size)
                        refine ⟨i + n, line, acc ++ [(3, (s.data.toList.drop i).take n, line)], rfl, rfl, by omega, by omega, by simp; omega, ?_, ?_, HS.out⟩
                        · rw [HC.out, List.length_append]
                          exact hown4
                        · exact (hbw.alloc hbw.size _).grown hgrow4 (by have h1 := hb3.size; have h2 := hbel.size; simp; omega) (own_block_ge hown)
                      case measure => simp [intOf]; omega
        · as_aux_lemma =>
          have hco := hcom.symm.trans hcm
          rw [Bool.and_eq_true] at hco
          have h47 : s[i].toNat = 47 := of_decide_eq_true hco.1
          have h2 : i + 1 < s.size := by
            by_cases h2 : i + 1 < s.size
            · exact h2
            · have h3 := hco.2
              rw [dif_neg h2] at h3
              cases h3
          have h47b : s[i + 1].toNat = 47 := by
            have h3 := hco.2
            rw [dif_pos h2] at h3
            exact of_decide_eq_true h3
          have hstep := run_c _ line acc hcm
          have hgp := comment_gap _ hcm
          rw [gapLen_comment _ hcm] at hgp
          rw [List.drop_drop] at hstep
          have HS := Lib.hid (hstep.symm.trans HR.out)
          have HG := Lib.hid (show 0 < ((s.data.toList.drop i).takeWhile nf).length from hgp)
          clear hco hstep hgp HR hcom hcm hb n32 n9 n13 n10 hda
          go_wp2_with fail
          go_loop [7] (fun iv => ∃ k : Nat, iv = .int .i64 k ∧ i ≤ k ∧ k ≤ s.size ∧ RowKit.Hid (((s.data.toList.drop i).takeWhile nf).length = (k - i) + ((s.data.toList.drop k).takeWhile nf).length)) (fun iv => s.size - (intOf iv).toNat)
          case atStart => exact ⟨i, rfl, by omega, by omega, by show _ = _; omega⟩
          case round =>
            obtain ⟨k, rfl, hik, hks, HK⟩ := hrel
            by_cases hlk : k < s.size
            · by_cases h10 : s[k].toNat = 10
              · have hq := tw_none nf s k hlk (by
                  have e : s[k] = 10 := UInt8.toNat_inj.1 h10
                  rw [e]
                  rfl)
                have HE := Lib.hid (show ((s.data.toList.drop i).takeWhile nf).length = k - i by have := HK.out; omega)
                clear hq
                go_wp2_with fail
                go_roundw
                case rel => exact ⟨k, line, acc, rfl, rfl, by omega, by omega, by omega, hown, hbel, by rw [← HS.out, HE.out]; congr 2; omega⟩
                case measure => simp [intOf]; have h1 := HE.out; have h2 := HG.out; omega
              · have hq := tw_cons nf s k hlk (by
                  have e : s[k] ≠ 10 := fun e => h10 (by rw [e]; rfl)
                  simpa [nf] using e)
                have HE := Lib.hid hq
                have hn10 : ((s[k].toNat : Int) == 10) = false := by simp; omega
                clear hq h10
                go_wp2_with fail
                go_round
                case rel => exact ⟨k + 1, by go_num, by omega, by omega, by show _ = _; have h1 := HK.out; have h2 := HE.out; omega⟩
                case measure => simp [intOf]; omega
            · have hq := tw_end nf s k hlk
              have HE := Lib.hid (show ((s.data.toList.drop i).takeWhile nf).length = k - i by have := HK.out; omega)
              clear hq
              go_wp2_with fail
              go_roundw
              case rel => exact ⟨k, line, acc, rfl, rfl, by omega, by omega, by omega, hown, hbel, by rw [← HS.out, HE.out]; congr 2; omega⟩
              case measure => simp [intOf]; have h1 := HE.out; have h2 := HG.out; omega
    · have hfin := Lib.hid (show scan s.data.toList = (acc, 0, 0) by
        rw [← HR.out, List.drop_eq_nil_of_le (by rw [size_list]; omega)]
        exact run_nil _ _)
      go_wp2_with fail
      go_ret3
      refine ⟨u5, ?_, ?_, hbel⟩
      · rw [hfin.out]; rfl
      · rw [hfin.out]; exact hown

theorem refScan_any (s : ByteArray) (w : World) (hs : s.size ≤ maxLen) : Calls Tryz.prog 39 #[.string s] w (ScanPost s.data.toList w) := by
  by_cases h : 4096 < s.size
  · exact ref_big s w h hs
  · exact ref_small s w (by omega)
end Go.Proofs.YthgicmdaenkjbaaGreatDoor
