/-
  The contract of parse.Expr: the expression that a text spells, or its error and line.
-/
import Derived.Test.YtafkffjpofkbpaaGreatDoorParK
import Derived.Deep.AppendLies
namespace Go.Proofs.YtafkffjpofkbpaaGreatDoor
open Go.RowKit
open Par

namespace Par
open Tok (T Bs)
/-- The line of an error at the first of the tokens q, which end the tokens ts. -/
def lineAt (ts q : List T) : Nat := match q with
  | t :: _ => t.2.2
  | [] => match ts.getLast? with
    | some t => t.2.2
    | none => 1
def E0 : E := .mk 0 0 ⟨#[]⟩ []
/-- What a reader makes of all tokens, or ErrSyntax and its line. -/
def allOf {α : Type} (none : α) (f : Pa α) (ts : List T) : α × Nat × Nat := match f ts with
  | .error q => (none, 3, lineAt ts q)
  | .ok (x, q) => if q = [] then (x, 0, 0) else (none, 3, lineAt ts q)
/-- What Expr returns. -/
def exprOut (s : Bs) : E × Nat × Nat := if (Tok.scan s).2.1 = 0 then allOf E0 (exprP (unaryF ((Tok.scan s).1.length + 1))) (Tok.scan s).1 else (E0, (Tok.scan s).2.1, (Tok.scan s).2.2)
end Par

set_option maxHeartbeats 1000000 in
set_option maxRecDepth 100000 in
theorem line_any (w : World) (P : Nat) (all : List Tok.T) (st : St) (h : Is w P all st) :
    Calls Tryz.prog 31 #[.pointer (some ⟨P, 0, none⟩)] w fun e w' => e = .returned (.int .i64 (lineAt all st.rem)) ∧ Below w.heap.size w w' := by
  obtain ⟨v, k, h⟩ := h
  have c0 := h.c0
  have c1 := h.c1
  have hP := h.lt
  have hk := h.le
  have hl := h.sm
  have hd := Lib.hid h.drop
  have ht := Lib.hid h.toks
  clear h
  by_cases h0 : all.length = 0
  · obtain ⟨ad, cap, rfl, _⟩ := ht.out
    have hL := Lib.hid (show lineAt all st.rem = 1 by
      have e1 : all = [] := List.eq_nil_of_length_eq_zero h0
      subst e1
      have e2 := hd.out
      rw [List.drop_nil] at e2
      rw [← e2]
      rfl)
    rw [h0] at c0
    go_enter Tryz.func31, Tryz.ntmps31
    go_wp2_with fail
    go_ret
    rw [hL.out]
    exact ⟨rfl, Below.refl _ _⟩
  · obtain ⟨j, hj⟩ : ∃ j, j = min k (all.length - 1) := ⟨_, rfl⟩
    have hjl : j < all.length := by omega
    obtain ⟨g, cap, rfl, hgp, hg, t0, t1, t2⟩ := ht.out.at_ j hjl
    have hL := Lib.hid (show lineAt all st.rem = all[j].2.2 by
      rw [← hd.out]
      by_cases hk2 : k < all.length
      · have e1 : j = k := by omega
        subst e1
        rw [List.drop_eq_getElem_cons hk2]
        rfl
      · have e1 : j = all.length - 1 := by omega
        have e2 : all.drop k = [] := List.drop_eq_nil_of_le (by omega)
        rw [e2]
        subst e1
        simp only [lineAt]
        rw [List.getLast?_eq_getElem?, List.getElem?_eq_getElem hjl])
    have hm : (min (k : Int) ((all.length : Int) - 1)).toNat = j := by omega
    have t3 : w.cell? ⟨g, (min (k : Int) ((all.length : Int) - 1)).toNat * 3 + 2, none⟩ = some (.int .i64 all[j].2.2) := by rw [hm]; exact t2
    have hne : ((all.length : Int) == 0) = false := by simpa using h0
    have HL := Lib.hid hL.out
    clear hd ht hL hm t0 t1 t2 hj
    go_enter Tryz.func31, Tryz.ntmps31
    go_wp2_with fail
    go_region
    all_goals
      go_wp2_with fail
      go_ret
      rw [HL]
      exact ⟨rfl, (Below.refl _ _).drew⟩

namespace Par
open Tok (T Bs)
/-- The slice that Scan returns holds the tokens, below the parser that is laid behind it. -/
theorem toks_of_own {w : World} {B P : Nat} {v : Value} {ts : List T} (h : w.ownsRow B 87 3 v ts.length (Tok.cells ts)) (hP : w.heap.size ≤ P) : Toks w P v ts := by
  rcases Nat.eq_zero_or_pos ts.length with h0 | h0
  · rcases h.2 with ⟨rfl, hn⟩ | ⟨g, cap, cur, rfl, _⟩
    · refine ⟨none, 0, by rw [h0], fun hp => absurd hp (by omega)⟩
    · exact ⟨_, cap, rfl, fun hp => absurd hp (by omega)⟩
  · obtain ⟨g, cap, hv, hb, hlt⟩ := h.form h0
    refine ⟨_, cap, hv, fun _ => ⟨g, rfl, by omega, hlt, fun j u hj => ?_⟩⟩
    have := h.cells (g := g) (by rw [hv]; rfl) j u hj
    simpa [Addr.add_lit] using this
/-- What the calls ask of the two variables that they read: both hold errors. -/
def Two (w : World) : Prop := Tok.Vars w ∧ 5 < w.heap.size ∧ ∃ te pe, w.cell? ⟨5, 0, none⟩ = some (.iface te pe)
theorem Two.below {w w' : World} (h : Two w) (b : Below w.heap.size w w') : Two w' := by
  obtain ⟨h1, h2, te, pe, hc⟩ := h
  exact ⟨h1.below b, Nat.lt_of_lt_of_le h2 b.size, te, pe, (b.cell (p := ⟨5, 0, none⟩) h2).trans hc⟩
/-- A new parser over these tokens. -/
theorem is_new {w : World} {v : Value} {ts : List T} {t : TypeId} (ht : Toks w w.heap.size v ts) (hv : Two w) (hs : ts.length ≤ 5000) (hw : ∀ t ∈ ts, WF t) :
    Is (w.alloc (.cells #[v, .int .i64 0, .bool false] t)) w.heap.size ts (.on ts) := by
  obtain ⟨_, h2, te, pe, hc⟩ := hv
  have hb : Below w.heap.size w (w.alloc (.cells #[v, .int .i64 0, .bool false] t)) := (Below.refl _ _).alloc (Nat.le_refl _) _
  exact ⟨v, 0, ht.below hb, Nat.zero_le _, rfl, by simp, by simp, by simp [St.bad], by simp, by simp, by simp, ⟨by simp; omega, h2, te, pe, (hb.cell (p := ⟨5, 0, none⟩) h2).trans hc⟩, hs, hw⟩
/-- What Expr leaves. -/
def PostX (s : Bs) (w : World) (e : Ending) (w' : World) : Prop :=
  ∃ op n nm a len cap, e = .returned (.tuple #[.agg #[.int .i64 op, .int .i64 n, .string nm, .slice a len cap], .int .i64 (exprOut s).2.1, .int .i64 (exprOut s).2.2]) ∧ Below w.heap.size w w' ∧
    RdE w' (From w.heap.size) (exprOut s).1 (.agg #[.int .i64 op, .int .i64 n, .string nm, .slice a len cap])
theorem below_call {w2 w3 : World} {o : Obj} (h : Below (w2.alloc o).heap.size (w2.alloc o).drew w3) : Below w2.heap.size w2 w3 :=
  ((((Below.refl _ _).alloc (Nat.le_refl _) o).drew)).trans (h.mono (by simp))
theorem at_more {w : World} {P : Nat} {all q : List T} {v : Value} {k : Nat} (h : At w P all (.on q) v k) (hq : q ≠ []) : k < all.length := by
  have hd := h.drop
  simp only [St.rem] at hd
  rcases Nat.lt_or_ge k all.length with h1 | h1
  · exact h1
  · rw [List.drop_eq_nil_of_le h1] at hd
    exact absurd hd.symm hq
theorem at_end {w : World} {P : Nat} {all : List T} {v : Value} {k : Nat} (h : At w P all (.on []) v k) : w.cell? ⟨P, 1, none⟩ = some (.int .i64 all.length) := by
  have hd := h.drop
  have hl := h.le
  simp only [St.rem, List.drop_eq_nil_iff] at hd
  have : k = all.length := by omega
  rw [h.c1, this]
theorem rdE_zero {w : World} {S : Nat → Prop} : RdE w S E0 (.agg #[.int .i64 0, .int .i64 0, .string ⟨#[]⟩, .slice none 0 0]) := ⟨_, _, rfl, .inl rfl⟩
end Par

set_option maxHeartbeats 4000000 in
set_option maxRecDepth 100000 in
theorem whole_expr (s : ByteArray) (w : World) (hv : Two w) (hs : s.size ≤ maxLen) :
    Calls Tryz.prog 28 #[.string s, .func (.func 29) #[] #[]] w (PostX s.data.toList w) := by
  have CS := Lib.hid (fun w (hv : Two w) => scan_any s w hv.1 hs)
  have HV := Lib.hid hv
  have hwf := Lib.hid (scan_wf s.data.toList)
  have hln := scan_len s.data.toList
  obtain ⟨ts, hts⟩ : ∃ ts, ts = (Tok.scan s.data.toList).1 := ⟨_, rfl⟩
  obtain ⟨er, her⟩ : ∃ er, er = (Tok.scan s.data.toList).2.1 := ⟨_, rfl⟩
  obtain ⟨ln, hlne⟩ : ∃ ln, ln = (Tok.scan s.data.toList).2.2 := ⟨_, rfl⟩
  unfold Tok.ScanPost at CS
  rw [← hts, ← her, ← hlne] at CS
  rw [← hts] at hwf hln
  have HO : Hid (exprOut s.data.toList = if er = 0 then allOf E0 (exprP (unaryF (ts.length + 1))) ts else (E0, er, ln)) := Lib.hid (by rw [hts, her, hlne]; rfl)
  clear hts her hlne hv
  by_cases he : er = 0
  · subst he
    have hX : exprOut s.data.toList = allOf E0 (exprP (unaryF (ts.length + 1))) ts := HO.out
    have CE0 := expr_all ts.length
    have hLt := exprP_lt (unaryF_lt (ts.length + 1))
    obtain ⟨F, hF⟩ : ∃ F, F = exprP (unaryF (ts.length + 1)) := ⟨_, rfl⟩
    rw [← hF] at hX CE0 hLt
    have CE : Hid (∀ w P, Is w P ts (.on ts) → Calls Tryz.prog 29 #[.pointer (some ⟨P, 0, none⟩)] w (PostE F P ts (.on ts) w)) := Lib.hid (fun w P h => CE0 w P ts _ h (Nat.le_refl _))
    clear HO hF CE0
    have CL := Lib.hid line_any
    rcases hr : F ts with q | ⟨x, q⟩
    · have hx1 := Lib.hid (show exprOut s.data.toList = (E0, 3, lineAt ts q) by rw [hX]; simp [allOf, hr])
      have ha := Lib.hid (show after F (.on ts) = .off q by simp [after, hr])
      clear hX hr hLt
      go_enter Tryz.func28, Tryz.ntmps28
      go_wp2_with (first
        | (go_at_call 30; refine (CS.out _ ((HV.out.below ((Below.refl _ _).alloc (Nat.le_refl _) _)).below ((Below.refl _ _).alloc (Nat.le_refl _) _))).mono ?_; rintro e w1 ⟨v, rfl, hown, hb⟩; have HT := Lib.hid (toks_of_own hown (Nat.le_refl _)); clear hown; obtain ⟨ad, acap, rfl, _⟩ := HT.out; have hsz := hb.size; simp at hsz; have bN := Box4.below (Box4.at (n := w.heap.size + 1) (by simp)) hb; have bR := Box4.below (Box4.below (Box4.new w _ _ _ _ _) ((Below.refl _ _).alloc (Nat.le_refl _) _)) hb; have H2 := ((HV.out.below ((Below.refl _ _).alloc (Nat.le_refl _) _)).below ((Below.refl _ _).alloc (Nat.le_refl _) _)).below hb)
        | (go_at_call 29; refine (CE.out _ _ (is_new HT.out H2 (by omega) hwf.out)).mono ?_; rintro e w2 ⟨op, n, nm, a, len, cap, rfl, hk2, hi2, hv2⟩; rw [ha.out] at hi2; have hk2s := hk2.size; simp at hk2s; have bN2 := (bN.below ((Below.refl _ _).alloc (Nat.le_refl _) _)).kept hk2 (by omega); have bR2 := (bR.below ((Below.refl _ _).alloc (Nat.le_refl _) _)).kept hk2 (by omega); have l2 : w1.heap.size < w2.heap.size := (by omega); have l3 := bN2.lt; have l4 := bR2.lt; have kN := Lib.hid bN2; have kR := Lib.hid bR2; obtain ⟨m0, m1, m2, m3, _, _, _, _⟩ := bN2; obtain ⟨r0, r1, r2, r3, g0, g1, g2, g3⟩ := bR2; have hi2k := hi2; obtain ⟨v2, k, hat⟩ := hi2k; have c1 := hat.c1; have c2 := hat.c2; clear hat))
      have hb2 : Below w.heap.size w w2 := Kept.below ((((((Below.refl _ _).alloc (Nat.le_refl _) _).alloc (by simp) _).trans (hb.mono (by simp; omega)))).alloc (by omega) _) hk2 (by omega) (by simp; omega)
      go_region_with (first
        | (go_at_call 31; refine (CL.out _ _ ts (.off q) ?_).mono ?_; first | exact hi2.below ((Below.refl _ _).alloc (Nat.le_refl _) _) | exact (hi2.below ((Below.refl _ _).alloc (Nat.le_refl _) _)).drew; rintro e w3 ⟨rfl, hb3⟩; have hb4 := below_call (w2 := w2) hb3; obtain ⟨q0, q1, q2, q3, _, _, _, _⟩ := kN.out.below hb4; obtain ⟨z0, z1, z2, z3, y0, y1, y2, y3⟩ := kR.out.below hb4))
      all_goals
        go_wp2_with fail
        refine bodyPost_ret (v := .tuple #[.agg #[.int .i64 0, .int .i64 0, .string ⟨#[]⟩, .slice none 0 0], .int .i64 3, .int .i64 (lineAt ts q)]) (by simp [results, Tryz.results28, go_sem, St.rem, *]) rfl ⟨0, 0, ⟨#[]⟩, none, 0, 0, by rw [hx1.out]; rfl, ?_, by rw [hx1.out]; exact rdE_zero⟩
        have hb4 := hb2.trans ((below_call (w2 := w2) hb3).mono hb2.size)
        exact (((hb4.setCell (p := ⟨w.heap.size, 0, none⟩) (Nat.le_refl _) _).setCell (p := ⟨w.heap.size, 1, none⟩) (Nat.le_refl _) _).setCell (p := ⟨w.heap.size, 2, none⟩) (Nat.le_refl _) _).setCell (p := ⟨w.heap.size, 3, none⟩) (Nat.le_refl _) _
    · by_cases hq : q = []
      · subst hq
        have hx1 := Lib.hid (show exprOut s.data.toList = (x, 0, 0) by rw [hX]; simp [allOf, hr])
        have ha := Lib.hid (show after F (.on ts) = .on [] by simp [after, hr])
        have hvx := Lib.hid (show val F (.on ts) = some x by simp [val, hr])
        clear hX hr hLt
        go_enter Tryz.func28, Tryz.ntmps28
        go_wp2_with (first
          | (go_at_call 30; refine (CS.out _ ((HV.out.below ((Below.refl _ _).alloc (Nat.le_refl _) _)).below ((Below.refl _ _).alloc (Nat.le_refl _) _))).mono ?_; rintro e w1 ⟨v, rfl, hown, hb⟩; have HT := Lib.hid (toks_of_own hown (Nat.le_refl _)); clear hown; obtain ⟨ad, acap, rfl, _⟩ := HT.out; have hsz := hb.size; simp at hsz; have bN := Box4.below (Box4.at (n := w.heap.size + 1) (by simp)) hb; have bR := Box4.below (Box4.below (Box4.new w _ _ _ _ _) ((Below.refl _ _).alloc (Nat.le_refl _) _)) hb; have H2 := ((HV.out.below ((Below.refl _ _).alloc (Nat.le_refl _) _)).below ((Below.refl _ _).alloc (Nat.le_refl _) _)).below hb)
          | (go_at_call 29; refine (CE.out _ _ (is_new HT.out H2 (by omega) hwf.out)).mono ?_; rintro e w2 ⟨op, n, nm, a, len, cap, rfl, hk2, hi2, hv2⟩; rw [ha.out] at hi2; have hk2s := hk2.size; simp at hk2s; have bN2 := (bN.below ((Below.refl _ _).alloc (Nat.le_refl _) _)).kept hk2 (by omega); have bR2 := (bR.below ((Below.refl _ _).alloc (Nat.le_refl _) _)).kept hk2 (by omega); have l2 : w1.heap.size < w2.heap.size := (by omega); have l3 := bN2.lt; have l4 := bR2.lt; have kN := Lib.hid bN2; have kR := Lib.hid bR2; obtain ⟨m0, m1, m2, m3, _, _, _, _⟩ := bN2; obtain ⟨r0, r1, r2, r3, g0, g1, g2, g3⟩ := bR2; have hi2k := hi2; obtain ⟨v2, k, hat⟩ := hi2k; have c1 := hat.c1; have c2 := hat.c2; have hkl := at_end hat; clear c1; clear hat))
        have hb2 : Below w.heap.size w w2 := Kept.below ((((((Below.refl _ _).alloc (Nat.le_refl _) _).alloc (by simp) _).trans (hb.mono (by simp; omega)))).alloc (by omega) _) hk2 (by omega) (by simp; omega)
        refine bodyPost_ret (v := .tuple #[.agg #[.int .i64 op, .int .i64 n, .string nm, .slice a len cap], .int .i64 0, .int .i64 0]) (by simp [results, Tryz.results28, go_sem, *]) rfl ⟨_, _, _, _, _, _, by rw [hx1.out]; rfl, ?_, ?_⟩
        · exact ((((hb2.setCell (p := ⟨w.heap.size, 0, none⟩) (Nat.le_refl _) _).setCell (p := ⟨w.heap.size, 1, none⟩) (Nat.le_refl _) _).setCell (p := ⟨w.heap.size, 2, none⟩) (Nat.le_refl _) _).setCell (p := ⟨w.heap.size, 3, none⟩) (Nat.le_refl _) _).alloc (by simp; omega) _
        · rw [hx1.out]
          refine RdE.turn (fun g oo u hg hc => ⟨(World.cell?_of_block ?_).trans hc, ?_⟩) _ _ (hv2 x hvx.out).from
          · have hg2 : w1.heap.size + 1 ≤ g := by simpa [From] using hg
            have hne : g ≠ w.heap.size := by omega
            have hlt : g < w2.heap.size := block_lt_of_cell (a := ⟨g, oo, none⟩) hc
            rw [Below.heap_alloc _ _ _ (by simpa [World.setCell] using hlt), Below.heap_setCell _ _ _ _ hne, Below.heap_setCell _ _ _ _ hne, Below.heap_setCell _ _ _ _ hne, Below.heap_setCell _ _ _ _ hne]
          · have hg2 : w1.heap.size + 1 ≤ g := by simpa [From] using hg
            exact (show w.heap.size ≤ g by omega)
      · have hx1 := Lib.hid (show exprOut s.data.toList = (E0, 3, lineAt ts q) by rw [hX]; simp [allOf, hr, hq])
        have ha := Lib.hid (show after F (.on ts) = .on q by simp [after, hr])
        clear hX hr hLt
        go_enter Tryz.func28, Tryz.ntmps28
        go_wp2_with (first
          | (go_at_call 30; refine (CS.out _ ((HV.out.below ((Below.refl _ _).alloc (Nat.le_refl _) _)).below ((Below.refl _ _).alloc (Nat.le_refl _) _))).mono ?_; rintro e w1 ⟨v, rfl, hown, hb⟩; have HT := Lib.hid (toks_of_own hown (Nat.le_refl _)); clear hown; obtain ⟨ad, acap, rfl, _⟩ := HT.out; have hsz := hb.size; simp at hsz; have bN := Box4.below (Box4.at (n := w.heap.size + 1) (by simp)) hb; have bR := Box4.below (Box4.below (Box4.new w _ _ _ _ _) ((Below.refl _ _).alloc (Nat.le_refl _) _)) hb; have H2 := ((HV.out.below ((Below.refl _ _).alloc (Nat.le_refl _) _)).below ((Below.refl _ _).alloc (Nat.le_refl _) _)).below hb)
          | (go_at_call 29; refine (CE.out _ _ (is_new HT.out H2 (by omega) hwf.out)).mono ?_; rintro e w2 ⟨op, n, nm, a, len, cap, rfl, hk2, hi2, hv2⟩; rw [ha.out] at hi2; have hk2s := hk2.size; simp at hk2s; have bN2 := (bN.below ((Below.refl _ _).alloc (Nat.le_refl _) _)).kept hk2 (by omega); have bR2 := (bR.below ((Below.refl _ _).alloc (Nat.le_refl _) _)).kept hk2 (by omega); have l2 : w1.heap.size < w2.heap.size := (by omega); have l3 := bN2.lt; have l4 := bR2.lt; have kN := Lib.hid bN2; have kR := Lib.hid bR2; obtain ⟨m0, m1, m2, m3, _, _, _, _⟩ := bN2; obtain ⟨r0, r1, r2, r3, g0, g1, g2, g3⟩ := bR2; have hi2k := hi2; obtain ⟨v2, k, hat⟩ := hi2k; have c1 := hat.c1; have c2 := hat.c2; have hkl := at_more hat hq; clear hat))
        have hb2 : Below w.heap.size w w2 := Kept.below ((((((Below.refl _ _).alloc (Nat.le_refl _) _).alloc (by simp) _).trans (hb.mono (by simp; omega)))).alloc (by omega) _) hk2 (by omega) (by simp; omega)
        go_region_with (first
          | (go_at_call 31; refine (CL.out _ _ ts (.on q) ?_).mono ?_; first | exact hi2.below ((Below.refl _ _).alloc (Nat.le_refl _) _) | exact (hi2.below ((Below.refl _ _).alloc (Nat.le_refl _) _)).drew; rintro e w3 ⟨rfl, hb3⟩; have hb4 := below_call (w2 := w2) hb3; obtain ⟨q0, q1, q2, q3, _, _, _, _⟩ := kN.out.below hb4; obtain ⟨z0, z1, z2, z3, y0, y1, y2, y3⟩ := kR.out.below hb4))
        all_goals
          go_wp2_with fail
          refine bodyPost_ret (v := .tuple #[.agg #[.int .i64 0, .int .i64 0, .string ⟨#[]⟩, .slice none 0 0], .int .i64 3, .int .i64 (lineAt ts q)]) (by simp [results, Tryz.results28, go_sem, St.rem, *]) rfl ⟨0, 0, ⟨#[]⟩, none, 0, 0, by rw [hx1.out]; rfl, ?_, by rw [hx1.out]; exact rdE_zero⟩
          have hb4 := hb2.trans ((below_call (w2 := w2) hb3).mono hb2.size)
          exact (((hb4.setCell (p := ⟨w.heap.size, 0, none⟩) (Nat.le_refl _) _).setCell (p := ⟨w.heap.size, 1, none⟩) (Nat.le_refl _) _).setCell (p := ⟨w.heap.size, 2, none⟩) (Nat.le_refl _) _).setCell (p := ⟨w.heap.size, 3, none⟩) (Nat.le_refl _) _
  · have hX := Lib.hid (show exprOut s.data.toList = (E0, er, ln) by rw [HO.out, if_neg he])
    have h1 : (((er : Nat) : Int) != 0) = true := by simpa using he
    have h2 : (((er : Nat) : Int) == 0) = false := by simpa using he
    clear HO he hwf hln
    go_enter Tryz.func28, Tryz.ntmps28
    go_wp2_with (go_at_call 30; refine (CS.out _ ((HV.out.below ((Below.refl _ _).alloc (Nat.le_refl _) _)).below ((Below.refl _ _).alloc (Nat.le_refl _) _))).mono ?_; rintro e w1 ⟨v, rfl, hown, hb⟩; have hsz := hb.size; simp at hsz; obtain ⟨n0, n1, n2, n3, _, _, _, _⟩ := Box4.below (Box4.at (n := w.heap.size + 1) (by simp)) hb; obtain ⟨r0, r1, r2, r3, g0, g1, g2, g3⟩ := Box4.below (Box4.below (Box4.new w _ _ _ _ _) ((Below.refl _ _).alloc (Nat.le_refl _) _)) hb)
    refine bodyPost_ret (v := .tuple #[.agg #[.int .i64 0, .int .i64 0, .string ⟨#[]⟩, .slice none 0 0], .int .i64 er, .int .i64 ln]) (by simp [results, Tryz.results28, go_sem, *]) rfl ⟨0, 0, ⟨#[]⟩, none, 0, 0, by rw [hX.out], ?_, by rw [hX.out]; exact rdE_zero⟩
    have hb0 : Below w.heap.size w w1 := (((Below.refl _ _).alloc (Nat.le_refl _) _).alloc (by simp) _).trans (hb.mono (by simp; omega))
    exact (((hb0.setCell (p := ⟨w.heap.size, 0, none⟩) (Nat.le_refl _) _).setCell (p := ⟨w.heap.size, 1, none⟩) (Nat.le_refl _) _).setCell (p := ⟨w.heap.size, 2, none⟩) (Nat.le_refl _) _).setCell (p := ⟨w.heap.size, 3, none⟩) (Nat.le_refl _) _

set_option maxHeartbeats 1000000 in
set_option maxRecDepth 100000 in
theorem expr_any (s : ByteArray) (w : World) (hv : Two w) (hs : s.size ≤ maxLen) :
    Calls Tryz.prog 13 #[.string s] w (PostX s.data.toList w) := by
  have CW := Lib.hid (fun w hv => whole_expr s w hv hs)
  have HV := Lib.hid hv
  clear hv
  go_enter Tryz.func13, Tryz.ntmps13
  go_wp2_with (go_at_call 28; go_must (refine (CW.out _ (HV.out.below ((Below.refl _ _).alloc (Nat.le_refl _) _))).mono ?_); rintro e w1 ⟨op, n, nm, a, len, cap, rfl, hb, hr⟩; have hsz := hb.size; simp at hsz; obtain ⟨r0, r1, r2, r3, g0, g1, g2, g3⟩ := Box4.below (Box4.new w _ _ _ _ _) hb)
  have hb0 : Below w.heap.size w w1 := ((Below.refl _ _).alloc (Nat.le_refl _) _).trans (hb.mono (by simp))
  refine bodyPost_ret (v := .tuple #[.agg #[.int .i64 op, .int .i64 n, .string nm, .slice a len cap], .int .i64 (exprOut s.data.toList).2.1, .int .i64 (exprOut s.data.toList).2.2]) (by simp [results, Tryz.results13, go_sem, *]) rfl ⟨_, _, _, _, _, _, rfl, ?_, ?_⟩
  · exact (((hb0.setCell (p := ⟨w.heap.size, 0, none⟩) (Nat.le_refl _) _).setCell (p := ⟨w.heap.size, 1, none⟩) (Nat.le_refl _) _).setCell (p := ⟨w.heap.size, 2, none⟩) (Nat.le_refl _) _).setCell (p := ⟨w.heap.size, 3, none⟩) (Nat.le_refl _) _
  · refine RdE.turn (fun g oo u hg hc => ⟨(World.cell?_of_block ?_).trans hc, ?_⟩) _ _ hr
    · have hg2 : w.heap.size + 1 ≤ g := by simpa [From] using hg
      have hne : g ≠ w.heap.size := by omega
      rw [Below.heap_setCell _ _ _ _ hne, Below.heap_setCell _ _ _ _ hne, Below.heap_setCell _ _ _ _ hne, Below.heap_setCell _ _ _ _ hne]
    · have hg2 : w.heap.size + 1 ≤ g := by simpa [From] using hg
      exact (show w.heap.size ≤ g by omega)
end Go.Proofs.YtafkffjpofkbpaaGreatDoor
