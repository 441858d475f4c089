/-
  The contract of the reference's Expr: the same as that of parse.Expr.
-/
import Derived.Test.YthgicmdaenkjbaaGreatDoorRfF
import Derived.Test.YthgicmdaenkjbaaGreatDoorRefC
namespace Go.Proofs.YthgicmdaenkjbaaGreatDoor
open Go.RowKit
open Par

namespace Par
open Tok (T Bs)
/-- A new parser of the reference over these tokens. -/
theorem ris_new {w : World} {v : Value} {ts : List T} {t : TypeId} (ht : Toks w w.heap.size v ts) (hs : ts.length ≤ 5000) (hw : ∀ t ∈ ts, WF t) (hl : ∀ t ∈ ts, 1 ≤ t.2.2) :
    RIs (w.alloc (.cells #[v, .int .i64 0, .int .i64 0] t)) w.heap.size ts (.on ts) := by
  have hb : Below w.heap.size w (w.alloc (.cells #[v, .int .i64 0, .int .i64 0] t)) := (Below.refl _ _).alloc (Nat.le_refl _) _
  exact ⟨v, 0, ht.below hb, Nat.zero_le _, rfl, by simp, by simp, by simp [badOf], by simp, by simp, by simp, hs, hw, hl⟩
theorem RIs.badCell {w : World} {P : Nat} {all : List T} {st : St} (h : RIs w P all st) : w.cell? ⟨P, 2, Option.none⟩ = some (.int .i64 (badOf all st)) := by
  obtain ⟨_, _, h⟩ := h
  exact h.c2
end Par

set_option maxHeartbeats 4000000 in
set_option maxRecDepth 100000 in
theorem refExpr_any (s : ByteArray) (w : World) (hs : s.size ≤ maxLen) : Calls Tryz.prog 25 #[.string s] w (PostX s.data.toList w) := by
  have CS := Lib.hid (fun w => refScan_any s w hs)
  have hwf := Lib.hid (scan_wf s.data.toList)
  have hll := Lib.hid (scan_lines s.data.toList)
  have hln := scan_len s.data.toList
  obtain ⟨ts, hts⟩ : ∃ ts, ts = (Tok.scan s.data.toList).1 := ⟨_, rfl⟩
  obtain ⟨er, her⟩ : ∃ er, er = (Tok.scan s.data.toList).2.1 := ⟨_, rfl⟩
  obtain ⟨ln, hlne⟩ : ∃ ln, ln = (Tok.scan s.data.toList).2.2 := ⟨_, rfl⟩
  unfold Tok.ScanPost at CS
  rw [← hts, ← her, ← hlne] at CS
  rw [← hts] at hwf hln hll
  have HO : Hid (exprOut s.data.toList = if er = 0 then allOf E0 (exprP (unaryF (ts.length + 1))) ts else (E0, er, ln)) := Lib.hid (by rw [hts, her, hlne]; rfl)
  clear hts her hlne
  by_cases he : er = 0
  · subst he
    have hX : exprOut s.data.toList = allOf E0 (exprP (unaryF (ts.length + 1))) ts := HO.out
    have CE0 := rexpr_all ts.length
    obtain ⟨F, hF⟩ : ∃ F, F = exprP (unaryF (ts.length + 1)) := ⟨_, rfl⟩
    rw [← hF] at hX CE0
    have CE : Hid (∀ w P, RIs w P ts (.on ts) → Calls Tryz.prog 58 #[.pointer (some ⟨P, 0, none⟩), .int .i64 1] w (PostR F P ts (.on ts) w)) := Lib.hid (fun w P h => CE0 w P ts _ h (Nat.le_refl _))
    clear HO hF CE0
    rcases hr : F ts with q | ⟨x, q⟩
    · have hx1 := Lib.hid (show exprOut s.data.toList = (E0, 3, lineAt ts q) by rw [hX]; simp [allOf, hr])
      have ha := Lib.hid (show after F (.on ts) = .off q by simp [after, hr])
      clear hX hr
      go_enter Tryz.func25, Tryz.ntmps25
      go_wp2_with (first
        | (go_at_call 39; refine (CS.out _).mono ?_; rintro e w1 ⟨v, rfl, hown, hb⟩; have HT := Lib.hid (toks_of_own hown (Nat.le_refl _)); clear hown; obtain ⟨ad, acap, rfl, _⟩ := HT.out; have hsz := hb.size; simp at hsz; have bR := Box4.below (Box4.new w _ _ _ _ _) hb)
        | (go_at_call 58; refine (CE.out _ _ (ris_new HT.out (by omega) hwf.out hll.out)).mono ?_; rintro e w2 ⟨op, n, nm, a, len, cap, rfl, hk2, hi2, hv2⟩; rw [ha.out] at hi2; have hk2s := hk2.size; simp at hk2s; have bR2 := (bR.below ((Below.refl _ _).alloc (Nat.le_refl _) _)).kept hk2 (by omega); have l2 : w1.heap.size < w2.heap.size := (by omega); have l4 := bR2.lt; obtain ⟨r0, r1, r2, r3, g0, g1, g2, g3⟩ := bR2; obtain ⟨_, _, k, b, c0, c1, c2, hb0, hbe⟩ := hi2.bad))
      have hb2 : Below w.heap.size w w2 := Kept.below ((((Below.refl _ _).alloc (Nat.le_refl _) _).trans (hb.mono (by simp))).alloc (by omega) _) hk2 (by omega) (by simp; omega)
      have hb3 := hb2.alloc (by omega) (.cells #[.int .i64 op, .int .i64 n, .string nm, .slice a len cap] 41)
      subst hbe
      go_region
      all_goals
        go_wp2_with fail
        refine bodyPost_ret (v := .tuple #[.agg #[.int .i64 0, .int .i64 0, .string ⟨#[]⟩, .slice none 0 0], .int .i64 3, .int .i64 (lineAt ts q)]) (by simp [results, Tryz.results25, go_sem, *]) rfl ⟨0, 0, ⟨#[]⟩, none, 0, 0, by rw [hx1.out]; rfl, ?_, by rw [hx1.out]; exact rdE_zero⟩
        exact (((((hb2.setCell (p := ⟨w.heap.size, 0, none⟩) (Nat.le_refl _) _).setCell (p := ⟨w.heap.size, 1, none⟩) (Nat.le_refl _) _).setCell (p := ⟨w.heap.size, 2, none⟩) (Nat.le_refl _) _).setCell (p := ⟨w.heap.size, 3, none⟩) (Nat.le_refl _) _).alloc (by simp [World.setCell]; omega) _).drew
    · by_cases hq : q = []
      · subst hq
        have hx1 := Lib.hid (show exprOut s.data.toList = (x, 0, 0) by rw [hX]; simp [allOf, hr])
        have ha := Lib.hid (show after F (.on ts) = .on [] by simp [after, hr])
        have hvx := Lib.hid (show val F (.on ts) = some x by simp [val, hr])
        clear hX hr
        go_enter Tryz.func25, Tryz.ntmps25
        go_wp2_with (first
          | (go_at_call 39; refine (CS.out _).mono ?_; rintro e w1 ⟨v, rfl, hown, hb⟩; have HT := Lib.hid (toks_of_own hown (Nat.le_refl _)); clear hown; obtain ⟨ad, acap, rfl, _⟩ := HT.out; have hsz := hb.size; simp at hsz; have bR := Box4.below (Box4.new w _ _ _ _ _) hb)
          | (go_at_call 58; refine (CE.out _ _ (ris_new HT.out (by omega) hwf.out hll.out)).mono ?_; rintro e w2 ⟨op, n, nm, a, len, cap, rfl, hk2, hi2, hv2⟩; rw [ha.out] at hi2; have hk2s := hk2.size; simp at hk2s; have bR2 := (bR.below ((Below.refl _ _).alloc (Nat.le_refl _) _)).kept hk2 (by omega); have l2 : w1.heap.size < w2.heap.size := (by omega); have l4 := bR2.lt; obtain ⟨r0, r1, r2, r3, g0, g1, g2, g3⟩ := bR2; obtain ⟨_, _, c0, c1, c2, hl5⟩ := hi2.none))
        have hb2 : Below w.heap.size w w2 := Kept.below ((((Below.refl _ _).alloc (Nat.le_refl _) _).trans (hb.mono (by simp))).alloc (by omega) _) hk2 (by omega) (by simp; omega)
        have hb3 := hb2.alloc (by omega) (.cells #[.int .i64 op, .int .i64 n, .string nm, .slice a len cap] 41)
        refine bodyPost_ret (v := .tuple #[.agg #[.int .i64 op, .int .i64 n, .string nm, .slice a len cap], .int .i64 0, .int .i64 0]) (by simp [results, Tryz.results25, go_sem, *]) rfl ⟨_, _, _, _, _, _, by rw [hx1.out]; rfl, ?_, ?_⟩
        · exact ((((hb2.setCell (p := ⟨w.heap.size, 0, none⟩) (Nat.le_refl _) _).setCell (p := ⟨w.heap.size, 1, none⟩) (Nat.le_refl _) _).setCell (p := ⟨w.heap.size, 2, none⟩) (Nat.le_refl _) _).setCell (p := ⟨w.heap.size, 3, none⟩) (Nat.le_refl _) _).alloc (by simp [World.setCell]; omega) _
        · rw [hx1.out]
          refine RdE.turn (fun g oo u hg hc => ⟨(World.cell?_of_block ?_).trans hc, ?_⟩) _ _ (hv2 x hvx.out)
          · have hg2 : w1.heap.size + 1 ≤ g := by simpa [From] using hg
            have hne : g ≠ w.heap.size := by omega
            have hlt : g < w2.heap.size := block_lt_of_cell (a := ⟨g, oo, none⟩) hc
            rw [Below.heap_alloc _ _ _ (by simpa [World.setCell] using hlt), Below.heap_setCell _ _ _ _ hne, Below.heap_setCell _ _ _ _ hne, Below.heap_setCell _ _ _ _ hne, Below.heap_setCell _ _ _ _ hne]
          · have hg2 : w1.heap.size + 1 ≤ g := by simpa [From] using hg
            exact (show w.heap.size ≤ g by omega)
      · obtain ⟨t, r, rfl⟩ : ∃ t r, q = t :: r := List.exists_cons_of_ne_nil hq
        have hx1 := Lib.hid (show exprOut s.data.toList = (E0, 3, lineAt ts (t :: r)) by rw [hX]; simp [allOf, hr])
        have ha := Lib.hid (show after F (.on ts) = .on (t :: r) by simp [after, hr])
        clear hX hr hq
        go_enter Tryz.func25, Tryz.ntmps25
        go_wp2_with (first
          | (go_at_call 39; refine (CS.out _).mono ?_; rintro e w1 ⟨v, rfl, hown, hb⟩; have HT := Lib.hid (toks_of_own hown (Nat.le_refl _)); clear hown; obtain ⟨ad, acap, rfl, _⟩ := HT.out; have hsz := hb.size; simp at hsz; have bR := Box4.below (Box4.new w _ _ _ _ _) hb)
          | (go_at_call 58; refine (CE.out _ _ (ris_new HT.out (by omega) hwf.out hll.out)).mono ?_; rintro e w2 ⟨op, n, nm, a, len, cap, rfl, hk2, hi2, hv2⟩; rw [ha.out] at hi2; have hk2s := hk2.size; simp at hk2s; have bR2 := (bR.below ((Below.refl _ _).alloc (Nat.le_refl _) _)).kept hk2 (by omega); have l2 : w1.heap.size < w2.heap.size := (by omega); have l4 := bR2.lt; obtain ⟨gg, gc, k, c0, c1, c2, hkl, hl5, _, _, _, _, _⟩ := hi2.split)
          | (go_at_call 59; refine (rfail_any _ _ ts (.on (t :: r)) (hi2.alloc _)).mono ?_; rintro e w3 ⟨rfl, hk3, hi3⟩; obtain ⟨r0, r1, r2, r3, g0, g1, g2, g3⟩ := (bR2.below ((Below.refl _ _).alloc (Nat.le_refl _) _)).kept hk3 (by omega); obtain ⟨_, _, k3, b, d0, d1, d2, hb0, hbe⟩ := hi3.bad; have hk3s := hk3.size; simp at hk3s))
        have hb2 : Below w.heap.size w w2 := Kept.below ((((Below.refl _ _).alloc (Nat.le_refl _) _).trans (hb.mono (by simp))).alloc (by omega) _) hk2 (by omega) (by simp; omega)
        have hb3 : Below w.heap.size w w3 := Kept.below (hb2.alloc (by omega) _) hk3 (by omega) (by simp; omega)
        subst hbe
        go_region
        all_goals
          go_wp2_with fail
          refine bodyPost_ret (v := .tuple #[.agg #[.int .i64 0, .int .i64 0, .string ⟨#[]⟩, .slice none 0 0], .int .i64 3, .int .i64 (lineAt ts (t :: r))]) (by simp [results, Tryz.results25, go_sem, St.rem, *]) rfl ⟨0, 0, ⟨#[]⟩, none, 0, 0, by rw [hx1.out]; rfl, ?_, by rw [hx1.out]; exact rdE_zero⟩
          exact ((((hb3.drew).setCell (p := ⟨w.heap.size, 0, none⟩) (Nat.le_refl _) _).setCell (p := ⟨w.heap.size, 1, none⟩) (Nat.le_refl _) _).setCell (p := ⟨w.heap.size, 2, none⟩) (Nat.le_refl _) _).setCell (p := ⟨w.heap.size, 3, none⟩) (Nat.le_refl _) _
  · have hX := Lib.hid (show exprOut s.data.toList = (E0, er, ln) by rw [HO.out, if_neg he])
    have h1 : (((er : Nat) : Int) != 0) = true := by simpa using he
    have h2 : (((er : Nat) : Int) == 0) = false := by simpa using he
    clear HO he hwf hln hll
    go_enter Tryz.func25, Tryz.ntmps25
    go_wp2_with (go_at_call 39; refine (CS.out _).mono ?_; rintro e w1 ⟨v, rfl, hown, hb⟩; have hsz := hb.size; simp at hsz; obtain ⟨r0, r1, r2, r3, g0, g1, g2, g3⟩ := Box4.below (Box4.new w _ _ _ _ _) hb)
    refine bodyPost_ret (v := .tuple #[.agg #[.int .i64 0, .int .i64 0, .string ⟨#[]⟩, .slice none 0 0], .int .i64 er, .int .i64 ln]) (by simp [results, Tryz.results25, go_sem, *]) rfl ⟨0, 0, ⟨#[]⟩, none, 0, 0, by rw [hX.out], ?_, by rw [hX.out]; exact rdE_zero⟩
    have hb0 : Below w.heap.size w w1 := ((Below.refl _ _).alloc (Nat.le_refl _) _).trans (hb.mono (by simp))
    exact (((hb0.setCell (p := ⟨w.heap.size, 0, none⟩) (Nat.le_refl _) _).setCell (p := ⟨w.heap.size, 1, none⟩) (Nat.le_refl _) _).setCell (p := ⟨w.heap.size, 2, none⟩) (Nat.le_refl _) _).setCell (p := ⟨w.heap.size, 3, none⟩) (Nat.le_refl _) _
end Go.Proofs.YthgicmdaenkjbaaGreatDoor
