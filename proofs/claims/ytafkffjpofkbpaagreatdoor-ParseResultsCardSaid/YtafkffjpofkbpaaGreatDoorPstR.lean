/-
  The contract of parse.Parse: the program that a text spells, or its error and line.
-/
import Derived.Test.YtafkffjpofkbpaaGreatDoorParL
import Derived.Test.YtafkffjpofkbpaaGreatDoorPstQ
namespace Go.Proofs.YtafkffjpofkbpaaGreatDoor
open Go.RowKit
open Par

namespace Par
open Tok (T Bs)
/-- A block of two cells that may be written. -/
structure Box2 (w : World) (b : Nat) (v0 v1 : Value) : Prop where
  c0 : w.cell? ⟨b, 0, none⟩ = some v0
  c1 : w.cell? ⟨b, 1, none⟩ = some v1
  f0 : w.frozen? ⟨b, 0, none⟩ = false
  f1 : w.frozen? ⟨b, 1, none⟩ = false
theorem Box2.lt {w : World} {b : Nat} {v0 v1 : Value} (h : Box2 w b v0 v1) : b < w.heap.size := block_lt_of_cell h.c0
theorem Box2.kept {P : Nat} {w w' : World} {b : Nat} {v0 v1 : Value} (h : Box2 w b v0 v1) (k : Kept P w w') (hb : b ≠ P) : Box2 w' b v0 v1 :=
  ⟨(k.cell h.lt hb).trans h.c0, (k.cell h.lt hb).trans h.c1, (k.frozen h.lt hb).trans h.f0, (k.frozen h.lt hb).trans h.f1⟩
theorem Box2.new (w : World) (v0 v1 : Value) (t : TypeId) : Box2 (w.alloc (.cells #[v0, v1] t)) w.heap.size v0 v1 := by
  constructor <;> simp
theorem Box2.below {w w' : World} {b : Nat} {v0 v1 : Value} (h : Box2 w b v0 v1) (k : Below w.heap.size w w') : Box2 w' b v0 v1 :=
  ⟨(k.cell (p := ⟨b, 0, none⟩) h.lt).trans h.c0, (k.cell (p := ⟨b, 1, none⟩) h.lt).trans h.c1, (k.frozen (p := ⟨b, 0, none⟩) h.lt).trans h.f0, (k.frozen (p := ⟨b, 1, none⟩) h.lt).trans h.f1⟩
theorem Box2.at {w : World} {v0 v1 : Value} {t : TypeId} {n : Nat} (hn : n = w.heap.size) : Box2 (w.alloc (.cells #[v0, v1] t)) n v0 v1 := hn ▸ Box2.new w v0 v1 t
theorem RdP.turn {w w' : World} {S S' : Nat → Prop} (h : ∀ k o u, S k → w.cell? ⟨k, o, none⟩ = some u → w'.cell? ⟨k, o, none⟩ = some u ∧ S' k) {p : Pg} {v0 v1 : Value} (hp : RdP w S p v0 v1) : RdP w' S' p v0 v1 :=
  ⟨hp.1.turn h, hp.2.turn h⟩
theorem RdP.move {w w' : World} {n m : Nat} {p : Pg} {v0 v1 : Value} (h : RdP w (PF n w) p v0 v1) (hb : ∀ g, n ≤ g → g < w.heap.size → w'.heap[g]? = w.heap[g]?) (hm : m ≤ n) : RdP w' (PF m w') p v0 v1 :=
  h.turn (fun g o _ hg hc => have hk := hb g hg.1 (block_lt_of_cell (a := ⟨g, o, none⟩) hc)
    ⟨(World.cell?_of_block hk).trans hc, Nat.le_trans hm hg.1, hg.2.of_block hk⟩)
def P0 : Pg := ⟨[], []⟩
/-- What Parse returns. -/
def parseOut (s : Bs) : Pg × Nat × Nat := if (Tok.scan s).2.1 = 0 then allOf P0 (progP ((Tok.scan s).1.length + 1)) (Tok.scan s).1 else (P0, (Tok.scan s).2.1, (Tok.scan s).2.2)
/-- What Parse leaves. -/
def PostWP (s : Bs) (w : World) (e : Ending) (w' : World) : Prop :=
  ∃ a0 l0 c0 a1 l1 c1, e = .returned (.tuple #[.agg #[.slice a0 l0 c0, .slice a1 l1 c1], .int .i64 (parseOut s).2.1, .int .i64 (parseOut s).2.2]) ∧ Below w.heap.size w w' ∧
    RdP w' (PF w.heap.size w') (parseOut s).1 (.slice a0 l0 c0) (.slice a1 l1 c1)
theorem rdP_zero {w : World} {S : Nat → Prop} : RdP w S P0 (.slice none 0 0) (.slice none 0 0) := ⟨⟨none, 0, rfl, .inl rfl⟩, ⟨none, 0, rfl, .inl rfl⟩⟩
end Par

set_option maxHeartbeats 4000000 in
set_option maxRecDepth 100000 in
theorem whole_program (s : ByteArray) (w : World) (hv : Two w) (hs : s.size ≤ maxLen) :
    Calls Tryz.prog 15 #[.string s, .func (.func 16) #[] #[]] w (PostWP s.data.toList w) := by
  have CS := Lib.hid (fun w (hv : Two w) => scan_any s w hv.1 hs)
  have HV := Lib.hid hv
  have hwf := Lib.hid (scan_wf s.data.toList)
  have hln := scan_len s.data.toList
  obtain ⟨ts, hts⟩ : ∃ ts, ts = (Tok.scan s.data.toList).1 := ⟨_, rfl⟩
  obtain ⟨er, her⟩ : ∃ er, er = (Tok.scan s.data.toList).2.1 := ⟨_, rfl⟩
  obtain ⟨ln, hlne⟩ : ∃ ln, ln = (Tok.scan s.data.toList).2.2 := ⟨_, rfl⟩
  unfold Tok.ScanPost at CS
  rw [← hts, ← her, ← hlne] at CS
  rw [← hts] at hwf hln
  have HO : Hid (parseOut s.data.toList = if er = 0 then allOf P0 (progP (ts.length + 1)) ts else (P0, er, ln)) := Lib.hid (by rw [hts, her, hlne]; rfl)
  clear hts her hlne hv
  by_cases he : er = 0
  · subst he
    have hX : parseOut s.data.toList = allOf P0 (progP (ts.length + 1)) ts := HO.out
    have CP0 := program_any (ts.length + 1)
    obtain ⟨F, hF⟩ : ∃ F, F = progP (ts.length + 1) := ⟨_, rfl⟩
    rw [← hF] at hX CP0
    have CE : Hid (∀ w P, Is w P ts (.on ts) → Calls Tryz.prog 16 #[.pointer (some ⟨P, 0, none⟩)] w (PostP F P ts (.on ts) w)) := Lib.hid (fun w P h => CP0 w P ts _ h (Nat.lt_succ_self _))
    clear HO hF CP0
    have CL := Lib.hid line_any
    rcases hr : F ts with q | ⟨x, q⟩
    · have hx1 := Lib.hid (show parseOut s.data.toList = (P0, 3, lineAt ts q) by rw [hX]; simp [allOf, hr])
      have ha := Lib.hid (show after F (.on ts) = .off q by simp [after, hr])
      clear hX hr
      go_enter Tryz.func15, Tryz.ntmps15
      go_wp2_with (first
        | (go_at_call 30; refine (CS.out _ ((HV.out.below ((Below.refl _ _).alloc (Nat.le_refl _) _)).below ((Below.refl _ _).alloc (Nat.le_refl _) _))).mono ?_; rintro e w1 ⟨v, rfl, hown, hb⟩; have HT := Lib.hid (toks_of_own hown (Nat.le_refl _)); clear hown; obtain ⟨ad, acap, rfl, _⟩ := HT.out; have hsz := hb.size; simp at hsz; have bN := Box2.below (Box2.at (n := w.heap.size + 1) (by simp)) hb; have bR := Box2.below (Box2.below (Box2.new w _ _ _) ((Below.refl _ _).alloc (Nat.le_refl _) _)) hb; have H2 := ((HV.out.below ((Below.refl _ _).alloc (Nat.le_refl _) _)).below ((Below.refl _ _).alloc (Nat.le_refl _) _)).below hb)
        | (go_at_call 16; refine (CE.out _ _ (is_new HT.out H2 (by omega) hwf.out)).mono ?_; rintro e w2 ⟨a0, z0, k0, a1, z1, k1, rfl, ⟨hk2, hi2⟩, hv2⟩; rw [ha.out] at hi2; have hk2s := hk2.size; simp at hk2s; have bN2 := (bN.below ((Below.refl _ _).alloc (Nat.le_refl _) _)).kept hk2 (by omega); have bR2 := (bR.below ((Below.refl _ _).alloc (Nat.le_refl _) _)).kept hk2 (by omega); have l2 : w1.heap.size < w2.heap.size := (by omega); have l3 := bN2.lt; have l4 := bR2.lt; have kN := Lib.hid bN2; have kR := Lib.hid bR2; obtain ⟨m0, m1, _, _⟩ := bN2; obtain ⟨r0, r1, g0, g1⟩ := bR2; have hi2k := hi2; obtain ⟨v2, k, hat⟩ := hi2k; have c1 := hat.c1; have c2 := hat.c2; clear hat))
      have hb2 : Below w.heap.size w w2 := Kept.below ((((((Below.refl _ _).alloc (Nat.le_refl _) _).alloc (by simp) _).trans (hb.mono (by simp; omega)))).alloc (by omega) _) hk2 (by omega) (by simp; omega)
      go_region_with (first
        | (go_at_call 31; refine (CL.out _ _ ts (.off q) ?_).mono ?_; first | exact hi2.below ((Below.refl _ _).alloc (Nat.le_refl _) _) | exact (hi2.below ((Below.refl _ _).alloc (Nat.le_refl _) _)).drew; rintro e w3 ⟨rfl, hb3⟩; have hb4 := below_call (w2 := w2) hb3; obtain ⟨q0, q1, _, _⟩ := kN.out.below hb4; obtain ⟨x0, x1, y0, y1⟩ := kR.out.below hb4))
      all_goals
        go_wp2_with fail
        refine bodyPost_ret (v := .tuple #[.agg #[.slice none 0 0, .slice none 0 0], .int .i64 3, .int .i64 (lineAt ts q)]) (by simp [results, Tryz.results15, go_sem, St.rem, *]) rfl ⟨none, 0, 0, none, 0, 0, by rw [hx1.out]; rfl, ?_, by rw [hx1.out]; exact rdP_zero⟩
        have hb4 := hb2.trans ((below_call (w2 := w2) hb3).mono hb2.size)
        exact (hb4.setCell (p := ⟨w.heap.size, 0, none⟩) (Nat.le_refl _) _).setCell (p := ⟨w.heap.size, 1, none⟩) (Nat.le_refl _) _
    · by_cases hq : q = []
      · subst hq
        have hx1 := Lib.hid (show parseOut s.data.toList = (x, 0, 0) by rw [hX]; simp [allOf, hr])
        have ha := Lib.hid (show after F (.on ts) = .on [] by simp [after, hr])
        have hvx := Lib.hid (show val F (.on ts) = some x by simp [val, hr])
        clear hX hr
        go_enter Tryz.func15, Tryz.ntmps15
        go_wp2_with (first
          | (go_at_call 30; refine (CS.out _ ((HV.out.below ((Below.refl _ _).alloc (Nat.le_refl _) _)).below ((Below.refl _ _).alloc (Nat.le_refl _) _))).mono ?_; rintro e w1 ⟨v, rfl, hown, hb⟩; have HT := Lib.hid (toks_of_own hown (Nat.le_refl _)); clear hown; obtain ⟨ad, acap, rfl, _⟩ := HT.out; have hsz := hb.size; simp at hsz; have bN := Box2.below (Box2.at (n := w.heap.size + 1) (by simp)) hb; have bR := Box2.below (Box2.below (Box2.new w _ _ _) ((Below.refl _ _).alloc (Nat.le_refl _) _)) hb; have H2 := ((HV.out.below ((Below.refl _ _).alloc (Nat.le_refl _) _)).below ((Below.refl _ _).alloc (Nat.le_refl _) _)).below hb)
          | (go_at_call 16; refine (CE.out _ _ (is_new HT.out H2 (by omega) hwf.out)).mono ?_; rintro e w2 ⟨a0, z0, k0, a1, z1, k1, rfl, ⟨hk2, hi2⟩, hv2⟩; rw [ha.out] at hi2; have hk2s := hk2.size; simp at hk2s; have bN2 := (bN.below ((Below.refl _ _).alloc (Nat.le_refl _) _)).kept hk2 (by omega); have bR2 := (bR.below ((Below.refl _ _).alloc (Nat.le_refl _) _)).kept hk2 (by omega); have l2 : w1.heap.size < w2.heap.size := (by omega); have l3 := bN2.lt; have l4 := bR2.lt; have kN := Lib.hid bN2; have kR := Lib.hid bR2; obtain ⟨m0, m1, _, _⟩ := bN2; obtain ⟨r0, r1, g0, g1⟩ := bR2; have hi2k := hi2; obtain ⟨v2, k, hat⟩ := hi2k; have c1 := hat.c1; have c2 := hat.c2; have hkl := at_end hat; clear c1; clear hat))
        have hb2 : Below w.heap.size w w2 := Kept.below ((((((Below.refl _ _).alloc (Nat.le_refl _) _).alloc (by simp) _).trans (hb.mono (by simp; omega)))).alloc (by omega) _) hk2 (by omega) (by simp; omega)
        refine bodyPost_ret (v := .tuple #[.agg #[.slice a0 z0 k0, .slice a1 z1 k1], .int .i64 0, .int .i64 0]) (by simp [results, Tryz.results15, go_sem, *]) rfl ⟨_, _, _, _, _, _, by rw [hx1.out]; rfl, ?_, ?_⟩
        · exact ((hb2.setCell (p := ⟨w.heap.size, 0, none⟩) (Nat.le_refl _) _).setCell (p := ⟨w.heap.size, 1, none⟩) (Nat.le_refl _) _).alloc (by simp; omega) _
        · rw [hx1.out]
          refine (hv2 x hvx.out).move (fun g hg hlt => ?_) (by simp; omega)
          have hg2 : w1.heap.size + 1 ≤ g := by simpa using hg
          have hne : g ≠ w.heap.size := by omega
          rw [Below.heap_alloc _ _ _ (by simpa [World.setCell] using hlt), Below.heap_setCell _ _ _ _ hne, Below.heap_setCell _ _ _ _ hne]
      · have hx1 := Lib.hid (show parseOut s.data.toList = (P0, 3, lineAt ts q) by rw [hX]; simp [allOf, hr, hq])
        have ha := Lib.hid (show after F (.on ts) = .on q by simp [after, hr])
        clear hX hr
        go_enter Tryz.func15, Tryz.ntmps15
        go_wp2_with (first
          | (go_at_call 30; refine (CS.out _ ((HV.out.below ((Below.refl _ _).alloc (Nat.le_refl _) _)).below ((Below.refl _ _).alloc (Nat.le_refl _) _))).mono ?_; rintro e w1 ⟨v, rfl, hown, hb⟩; have HT := Lib.hid (toks_of_own hown (Nat.le_refl _)); clear hown; obtain ⟨ad, acap, rfl, _⟩ := HT.out; have hsz := hb.size; simp at hsz; have bN := Box2.below (Box2.at (n := w.heap.size + 1) (by simp)) hb; have bR := Box2.below (Box2.below (Box2.new w _ _ _) ((Below.refl _ _).alloc (Nat.le_refl _) _)) hb; have H2 := ((HV.out.below ((Below.refl _ _).alloc (Nat.le_refl _) _)).below ((Below.refl _ _).alloc (Nat.le_refl _) _)).below hb)
          | (go_at_call 16; refine (CE.out _ _ (is_new HT.out H2 (by omega) hwf.out)).mono ?_; rintro e w2 ⟨a0, z0, k0, a1, z1, k1, rfl, ⟨hk2, hi2⟩, hv2⟩; rw [ha.out] at hi2; have hk2s := hk2.size; simp at hk2s; have bN2 := (bN.below ((Below.refl _ _).alloc (Nat.le_refl _) _)).kept hk2 (by omega); have bR2 := (bR.below ((Below.refl _ _).alloc (Nat.le_refl _) _)).kept hk2 (by omega); have l2 : w1.heap.size < w2.heap.size := (by omega); have l3 := bN2.lt; have l4 := bR2.lt; have kN := Lib.hid bN2; have kR := Lib.hid bR2; obtain ⟨m0, m1, _, _⟩ := bN2; obtain ⟨r0, r1, g0, g1⟩ := bR2; have hi2k := hi2; obtain ⟨v2, k, hat⟩ := hi2k; have c1 := hat.c1; have c2 := hat.c2; have hkl := at_more hat hq; clear hat))
        have hb2 : Below w.heap.size w w2 := Kept.below ((((((Below.refl _ _).alloc (Nat.le_refl _) _).alloc (by simp) _).trans (hb.mono (by simp; omega)))).alloc (by omega) _) hk2 (by omega) (by simp; omega)
        go_region_with (first
          | (go_at_call 31; refine (CL.out _ _ ts (.on q) ?_).mono ?_; first | exact hi2.below ((Below.refl _ _).alloc (Nat.le_refl _) _) | exact (hi2.below ((Below.refl _ _).alloc (Nat.le_refl _) _)).drew; rintro e w3 ⟨rfl, hb3⟩; have hb4 := below_call (w2 := w2) hb3; obtain ⟨q0, q1, _, _⟩ := kN.out.below hb4; obtain ⟨x0, x1, y0, y1⟩ := kR.out.below hb4))
        all_goals
          go_wp2_with fail
          refine bodyPost_ret (v := .tuple #[.agg #[.slice none 0 0, .slice none 0 0], .int .i64 3, .int .i64 (lineAt ts q)]) (by simp [results, Tryz.results15, go_sem, St.rem, *]) rfl ⟨none, 0, 0, none, 0, 0, by rw [hx1.out]; rfl, ?_, by rw [hx1.out]; exact rdP_zero⟩
          have hb4 := hb2.trans ((below_call (w2 := w2) hb3).mono hb2.size)
          exact (hb4.setCell (p := ⟨w.heap.size, 0, none⟩) (Nat.le_refl _) _).setCell (p := ⟨w.heap.size, 1, none⟩) (Nat.le_refl _) _
  · have hX := Lib.hid (show parseOut s.data.toList = (P0, er, ln) by rw [HO.out, if_neg he])
    have h1 : (((er : Nat) : Int) != 0) = true := by simpa using he
    have h2 : (((er : Nat) : Int) == 0) = false := by simpa using he
    clear HO he hwf hln
    go_enter Tryz.func15, Tryz.ntmps15
    go_wp2_with (go_at_call 30; refine (CS.out _ ((HV.out.below ((Below.refl _ _).alloc (Nat.le_refl _) _)).below ((Below.refl _ _).alloc (Nat.le_refl _) _))).mono ?_; rintro e w1 ⟨v, rfl, hown, hb⟩; have hsz := hb.size; simp at hsz; obtain ⟨n0, n1, _, _⟩ := Box2.below (Box2.at (n := w.heap.size + 1) (by simp)) hb; obtain ⟨r0, r1, g0, g1⟩ := Box2.below (Box2.below (Box2.new w _ _ _) ((Below.refl _ _).alloc (Nat.le_refl _) _)) hb)
    refine bodyPost_ret (v := .tuple #[.agg #[.slice none 0 0, .slice none 0 0], .int .i64 er, .int .i64 ln]) (by simp [results, Tryz.results15, go_sem, *]) rfl ⟨none, 0, 0, none, 0, 0, by rw [hX.out], ?_, by rw [hX.out]; exact rdP_zero⟩
    have hb0 : Below w.heap.size w w1 := (((Below.refl _ _).alloc (Nat.le_refl _) _).alloc (by simp) _).trans (hb.mono (by simp; omega))
    exact (hb0.setCell (p := ⟨w.heap.size, 0, none⟩) (Nat.le_refl _) _).setCell (p := ⟨w.heap.size, 1, none⟩) (Nat.le_refl _) _

set_option maxHeartbeats 1000000 in
set_option maxRecDepth 100000 in
theorem parse_anyP (s : ByteArray) (w : World) (hv : Two w) (hs : s.size ≤ maxLen) :
    Calls Tryz.prog 6 #[.string s] w (PostWP s.data.toList w) := by
  have CW := Lib.hid (fun w hv => whole_program s w hv hs)
  have HV := Lib.hid hv
  clear hv
  go_enter Tryz.func6, Tryz.ntmps6
  go_wp2_with (go_at_call 15; go_must (refine (CW.out _ (HV.out.below ((Below.refl _ _).alloc (Nat.le_refl _) _))).mono ?_); rintro e w1 ⟨a0, z0, k0, a1, z1, k1, rfl, hb, hr⟩; have hsz := hb.size; simp at hsz; obtain ⟨r0, r1, g0, g1⟩ := Box2.below (Box2.new w _ _ _) hb)
  have hb0 : Below w.heap.size w w1 := ((Below.refl _ _).alloc (Nat.le_refl _) _).trans (hb.mono (by simp))
  refine bodyPost_ret (v := .tuple #[.agg #[.slice a0 z0 k0, .slice a1 z1 k1], .int .i64 (parseOut s.data.toList).2.1, .int .i64 (parseOut s.data.toList).2.2]) (by simp [results, Tryz.results6, go_sem, *]) rfl ⟨_, _, _, _, _, _, rfl, ?_, ?_⟩
  · exact (hb0.setCell (p := ⟨w.heap.size, 0, none⟩) (Nat.le_refl _) _).setCell (p := ⟨w.heap.size, 1, none⟩) (Nat.le_refl _) _
  · refine hr.move (fun g hg _ => ?_) (by simp)
    have hg2 : w.heap.size + 1 ≤ g := by simpa using hg
    have hne : g ≠ w.heap.size := by omega
    rw [Below.heap_setCell _ _ _ _ hne, Below.heap_setCell _ _ _ _ hne]

namespace Par
open Tok (T Bs)
/-- What Parse leaves, without the word on plain blocks. -/
def PostW (s : Bs) (w : World) (e : Ending) (w' : World) : Prop :=
  ∃ a0 l0 c0 a1 l1 c1, e = .returned (.tuple #[.agg #[.slice a0 l0 c0, .slice a1 l1 c1], .int .i64 (parseOut s).2.1, .int .i64 (parseOut s).2.2]) ∧ Below w.heap.size w w' ∧
    RdP w' (From w.heap.size) (parseOut s).1 (.slice a0 l0 c0) (.slice a1 l1 c1)
theorem PostWP.from {s : Bs} {w w' : World} {e : Ending} (h : PostWP s w e w') : PostW s w e w' := by
  obtain ⟨a0, l0, c0, a1, l1, c1, he, hb, hr⟩ := h
  exact ⟨a0, l0, c0, a1, l1, c1, he, hb, hr.turn (fun _ _ _ hg hc => ⟨hc, hg.1⟩)⟩
end Par
theorem parse_any (s : ByteArray) (w : World) (hv : Two w) (hs : s.size ≤ maxLen) :
    Calls Tryz.prog 6 #[.string s] w (PostW s.data.toList w) :=
  (parse_anyP s w hv hs).mono (fun _ _ h => h.from)
end Go.Proofs.YtafkffjpofkbpaaGreatDoor
