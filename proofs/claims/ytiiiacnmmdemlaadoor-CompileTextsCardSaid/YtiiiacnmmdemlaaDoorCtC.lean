/-
  CompileTexts returns true for every instruction: Text's text is the one that the document gives; no condition beyond what the row lists.
-/
import Derived.Test.YtiiiacnmmdemlaaDoorCtA
import Derived.Test.YtiiiacnmmdemlaaDoorCards
import Derived.Test.YtiiiacnmmdemlaaDoorTie
import Derived.ProofKit
import Derived.LaidMore
import Derived.OpenShut
import Derived.Stop.Joined
import Derived.Below
import Derived.ChangeSame
import Derived.Carry
import Derived.Lib.SmallJoins
namespace Go.Proofs.YtiiiacnmmdemlaaDoor
open Go.ChangeShapes Go.WideShapes Go.ChangeAt Go.WideMaps Go.WideElems Go.RowKit Go.Joins Go.Deep
open Go.ChangeMaps (setBlock shut_map_nil open_string shut_string keptBut_setBlock frozen?_setBlock heap_setBlock_same)
open Ct

theorem own : ownKnob Tryd.prog.godebug = none := by kernel_rfl
theorem laidOut : laidOutB Tryd.prog = true := by kernel_rfl
theorem gLay : Tryd.prog.globalNamed "interleave/compile.layouts" = some 0 := by kernel_rfl
theorem tLay : (Tryd.prog.globals[0]?).map (·.type) = some 28 := by kernel_rfl
theorem gTab : Tryd.prog.globalNamed "internal/strconv.uint64pow10" = some 1 := by kernel_rfl
theorem tTab : (Tryd.prog.globals[1]?).map (·.type) = some 56 := by kernel_rfl
theorem cLay : Tryd.prog.cellsOf 27 = 2 := by kernel_rfl
theorem fLay : Tryd.prog.underlying 27 = some (.struct (Tryd.prog.fieldsOf 27)) := by kernel_rfl
theorem oLay : ((Tryd.prog.fieldsOf 27)[0]?).map (fun f => (f.type, f.offset)) = some (9, 0) := by kernel_rfl
theorem laid_word {H : Type} : ∀ k, k < 29 → ∃ r, (match (Rows.laid_interleave_compile_layouts : DataW H) with | .agg l => l[k]? | _ => .none) = some (.agg [.lit (.string (wds.getD k [])), r]) := by
  intro k hk
  match k, hk with
  | 0, _ => exact ⟨_, rfl⟩
  | 1, _ => exact ⟨_, rfl⟩
  | 2, _ => exact ⟨_, rfl⟩
  | 3, _ => exact ⟨_, rfl⟩
  | 4, _ => exact ⟨_, rfl⟩
  | 5, _ => exact ⟨_, rfl⟩
  | 6, _ => exact ⟨_, rfl⟩
  | 7, _ => exact ⟨_, rfl⟩
  | 8, _ => exact ⟨_, rfl⟩
  | 9, _ => exact ⟨_, rfl⟩
  | 10, _ => exact ⟨_, rfl⟩
  | 11, _ => exact ⟨_, rfl⟩
  | 12, _ => exact ⟨_, rfl⟩
  | 13, _ => exact ⟨_, rfl⟩
  | 14, _ => exact ⟨_, rfl⟩
  | 15, _ => exact ⟨_, rfl⟩
  | 16, _ => exact ⟨_, rfl⟩
  | 17, _ => exact ⟨_, rfl⟩
  | 18, _ => exact ⟨_, rfl⟩
  | 19, _ => exact ⟨_, rfl⟩
  | 20, _ => exact ⟨_, rfl⟩
  | 21, _ => exact ⟨_, rfl⟩
  | 22, _ => exact ⟨_, rfl⟩
  | 23, _ => exact ⟨_, rfl⟩
  | 24, _ => exact ⟨_, rfl⟩
  | 25, _ => exact ⟨_, rfl⟩
  | 26, _ => exact ⟨_, rfl⟩
  | 27, _ => exact ⟨_, rfl⟩
  | 28, _ => exact ⟨_, rfl⟩
  | k + 29, hk => exact absurd hk (by omega)
set_option maxRecDepth 100000 in
theorem lays_of {H : Type} {enc : TypeId × Value → H} {w : World} {base : Nat} {sp : Nat → Bool} {held : Bool} {fuel : Nat} {cs : List Value} {q : List MemPlace}
    (h : DataW.trod enc Tryd.prog w base sp held fuel 28 cs = some (Rows.laid_interleave_compile_layouts, q)) :
    ∀ k, k < 29 → cs[k * 2]? = some (.string ⟨(wds.getD k []).toArray⟩) := by
  obtain ⟨xs, m, _, hx, _, hlen, hf⟩ := DataW.trod_array Tryd.underlying28 h
  intro k hk
  have h1 : DataW.trod enc Tryd.prog w base sp held m 27 ((cs.drop (k * 2)).take 2) = xs[k]? := by
    have := hf k (by omega)
    rw [cLay] at this
    exact this
  simp only [Prod.mk.injEq] at hx
  obtain ⟨r, hr⟩ := laid_word (H := H) k hk
  rw [hx.1] at hr
  simp only [List.getElem?_map] at hr
  cases hy : xs[k]? with
  | none => rw [hy] at hr; cases hr
  | some y =>
    rw [hy] at hr h1
    simp only [Option.map_some, Option.some.injEq] at hr
    obtain ⟨ys, n, _, hz, _, hlen2, hf2⟩ := DataW.trod_struct fLay h1
    have hz1 := congrArg Prod.fst hz
    rw [hr] at hz1
    injection hz1 with hz1
    cases hfl : (Tryd.prog.fieldsOf 27)[0]? with
    | none =>
      have ho := oLay
      rw [hfl] at ho
      cases ho
    | some f =>
      have ho := oLay
      rw [hfl] at ho
      simp only [Option.map_some, Option.some.injEq, Prod.mk.injEq] at ho
      have h2 := hf2 0 f hfl
      rw [ho.1, ho.2, show Tryd.prog.cellsOf 9 = 1 by kernel_rfl] at h2
      cases hyy : ys[0]? with
      | none =>
        have e := congrArg (fun l => l[0]?) hz1
        simp only [List.getElem?_cons_zero, List.getElem?_map, hyy] at e
        cases e
      | some z =>
        have e := congrArg (fun l => l[0]?) hz1
        simp only [List.getElem?_cons_zero, List.getElem?_map, hyy, Option.map_some, Option.some.injEq] at e
        rw [hyy] at h2
        obtain ⟨s, hs, hz2, _⟩ := DataW.trod_string Tryd.underlying9 h2
        rw [hz2] at e
        injection e with e
        injection e with e
        have hc := congrArg (fun l => l[0]?) hs
        simp [List.getElem?_drop] at hc
        rw [hc, e]
theorem wf_i64 {n : Int} (h : (Lit.int .i64 n).wf = true) : i64ok n := bounds_i64 h
section
variable {H : Type} {enc : TypeId × Value → H} {P : Program} {w : World} {base : Nat} {spare : Nat → Bool} {held : Bool}
theorem open_agg6 {r : Reach} {b0 : Nat} {t : TypeId} {f0 f1 f2 f3 f4 f5 : Field} {v : Value} {d : DataW H} {p : List MemPlace} (hs : P.underlying t = some (.struct #[f0, f1, f2, f3, f4, f5])) (hone : oneCellFields P #[f0, f1, f2, f3, f4, f5] = true) (hC : P.cellsOf t = 6)
    (hv : Value.okWide P w r b0 t v) (h : DataW.Trod enc P w base spare held t v d p) :
    ∃ (v0 v1 v2 v3 v4 v5 : Value) (y0 y1 y2 y3 y4 y5 : DataW H × List MemPlace) (n : Nat), v = .agg #[v0, v1, v2, v3, v4, v5] ∧ d = .agg [y0.1, y1.1, y2.1, y3.1, y4.1, y5.1] ∧ p = y0.2 ++ (y1.2 ++ (y2.2 ++ (y3.2 ++ (y4.2 ++ y5.2)))) ∧
      DataW.trod enc P w base spare held n f0.type [v0] = some y0 ∧ DataW.trod enc P w base spare held n f1.type [v1] = some y1 ∧ DataW.trod enc P w base spare held n f2.type [v2] = some y2 ∧ DataW.trod enc P w base spare held n f3.type [v3] = some y3 ∧ DataW.trod enc P w base spare held n f4.type [v4] = some y4 ∧ DataW.trod enc P w base spare held n f5.type [v5] = some y5 := by
  obtain ⟨cs, rfl, hsz⟩ := okWide_struct hs hv
  obtain ⟨l⟩ := cs
  match l, hsz.trans hC with
  | [c0, c1, c2, c3, c4, c5], _ =>
    obtain ⟨fuel, hf⟩ := h
    obtain ⟨xs, n, _, hx, _, hlen, hg⟩ := DataW.trod_struct hs hf
    obtain ⟨o0, k0⟩ := hone_of hone 0 f0 rfl
    obtain ⟨o1, k1⟩ := hone_of hone 1 f1 rfl
    obtain ⟨o2, k2⟩ := hone_of hone 2 f2 rfl
    obtain ⟨o3, k3⟩ := hone_of hone 3 f3 rfl
    obtain ⟨o4, k4⟩ := hone_of hone 4 f4 rfl
    obtain ⟨o5, k5⟩ := hone_of hone 5 f5 rfl
    match xs, hlen with
    | [y0, y1, y2, y3, y4, y5], _ =>
      simp only [Prod.mk.injEq] at hx
      exact ⟨c0, c1, c2, c3, c4, c5, y0, y1, y2, y3, y4, y5, n, rfl, by simpa using hx.1, by simpa using hx.2, by simpa [Value.cells, o0, k0] using hg 0 f0 rfl, by simpa [Value.cells, o1, k1] using hg 1 f1 rfl, by simpa [Value.cells, o2, k2] using hg 2 f2 rfl, by simpa [Value.cells, o3, k3] using hg 3 f3 rfl, by simpa [Value.cells, o4, k4] using hg 4 f4 rfl, by simpa [Value.cells, o5, k5] using hg 5 f5 rfl⟩
end
/-- The start's own heap meets the condition. -/
theorem door_met (os : Os) (args : Array Value) : laidMetH Tryd.prog Rows.compileTextsRow.laid ((World.doorLaid Tryd.prog 400 os).forCall (fun _ _ => 0) ⟨#[], args, []⟩).memory :=
  laidMetH_of_parts3 (fuel := 8) (laidMet_of_run' 8 (by kernel_rfl) (by kernel_rfl)) (by kernel_rfl) (by kernel_rfl)
theorem vars_of {W : World} (h : laidMetH Tryd.prog Rows.compileTextsRow.laid W) : LaysAt W ∧ TabN W := by
  rw [MakeChecks.laidMetH_plain _ _ _ (by kernel_rfl)] at h
  obtain ⟨ps, ⟨_, _, _, _, _, _, _, _, _, _, ⟨_, _, _, _, _, _, _, _, _, _, ⟨g0, t0, cs0, f0, p0, q0, hg0, ht0, hv0, hd0, ⟨g, t, cs, f, p, q, hg, ht, hv, hd, _, _⟩, _⟩, _⟩, _⟩, _, _⟩ := h
  obtain rfl := Option.some.inj (gLay.symm.trans hg)
  obtain rfl := Option.some.inj (tLay.symm.trans ht)
  obtain rfl := Option.some.inj (tTab.symm.trans ((Option.some.inj (gTab.symm.trans hg0)) ▸ ht0))
  have hk := lays_of hd
  have hN : TabN W := by
    unfold TabN Lib.TabIs
    rw [hv0, ← Lib.cells_of_tab (k := .u64) (zs := Lib.pow10Tab) Tryd.underlying56 Tryd.underlying46 (by kernel_rfl) (by kernel_rfl) hd0]
  refine ⟨fun k hk29 => ?_, hN⟩
  rw [World.var?_cell hg hv (k * 2)]
  simpa using hk k hk29

set_option maxRecDepth 100000 in
theorem compileTexts_lifted (os : Os) (started : os.Started) (H : Type) (enc : TypeId × Value → H) :
    ReturnsInHanded {} Tryd.checked os 3 .any (fun w args => (Rows.compileTextsSpec.pre enc Tryd.prog Tryd.f3 [] false w args ∧ laidMetH Tryd.prog Rows.compileTextsRow.laid w) ∧ sizedMet enc Tryd.prog Tryd.f3 (OpenSpec.ofChange Rows.compileTextsSpec) false w args)
      (Rows.compileTextsSpec.post enc Tryd.prog Tryd.f3 false true false false) := by
  refine returnsInHanded_of_change_and (C := Tryd.checked) (X := fun w _ => laidMetH Tryd.prog Rows.compileTextsRow.laid w) (fun _ _ _ hh h => h.of_heap hh) own started (by kernel_rfl) Tryd.func3
    (ChangeSpec.witness_shaped (enc := enc) (C := Tryd.checked) (os := os) (X := fun w _ => laidMetH Tryd.prog Rows.compileTextsRow.laid w) false (World.doorLaid Tryd.prog 400 os) #[.agg #[.int .i64 0, .int .i64 0, .int .i64 0, .int .i64 0, .int .i64 0, .int .i64 0]] 8 rfl (World.shaped_of_RefB (by kernel_rfl) (by kernel_rfl)) (by kernel_rfl) (by kernel_rfl) (by kernel_rfl) (door_met os _)) ?_
  intro W base args ds gs before hval0 hW _ _ hL _
  have hval : ∀ (j : Nat) t v, Tryd.f3.params[j]? = some t → args[j]? = some v → Value.okWide Tryd.prog W .any base t v := hval0
  have hW' := hW
  obtain ⟨p, q, hA0, hV, rfl, hfz, hnd⟩ := hW
  have hA : DataW.TrodAll enc Tryd.prog W 0 (fun _ => true) true Tryd.f3.params.toList args.toList ds p := hA0
  rw [Tryd.params3] at hA hval
  obtain ⟨v0, d0, rfl, rfl, h0⟩ := trodAll_one hA
  obtain ⟨rfl, rfl⟩ := trodVars_none hV
  have k0 := h0
  have lt0 : ∀ x ∈ p, x.block < W.heap.size := fun x hx => hW'.lt x (by simp [hx])
  obtain ⟨c0, c1, c2, c3, c4, c5, y0, y1, y2, y3, y4, y5, m, rfl, _, _, e0, e1, e2, e3, e4, e5⟩ := open_agg6 Tryd.underlying23 (by kernel_rfl) (by kernel_rfl) (hval 0 23 v0 rfl rfl) h0
  obtain ⟨n0, hn0, _, w0⟩ := DataW.trod_int Tryd.underlying3 e0
  obtain ⟨n1, hn1, _, w1⟩ := DataW.trod_int Tryd.underlying3 e1
  obtain ⟨n2, hn2, _, w2⟩ := DataW.trod_int Tryd.underlying3 e2
  obtain ⟨n3, hn3, _, w3⟩ := DataW.trod_int Tryd.underlying3 e3
  obtain ⟨n4, hn4, _, w4⟩ := DataW.trod_int Tryd.underlying2 e4
  obtain ⟨n5, hn5, _, w5⟩ := DataW.trod_int Tryd.underlying3 e5
  obtain rfl := List.singleton_inj.1 hn0
  obtain rfl := List.singleton_inj.1 hn1
  obtain rfl := List.singleton_inj.1 hn2
  obtain rfl := List.singleton_inj.1 hn3
  obtain rfl := List.singleton_inj.1 hn4
  obtain rfl := List.singleton_inj.1 hn5
  clear hA0 hval0
  simp only [List.append_nil] at hW'
  refine (compileTexts_any W n0 n1 n2 n3 n4 n5 (wf_i64 w1) (wf_i64 w2) (wf_i64 w3) (wf_i64 w4) (vars_of hL).1 (vars_of hL).2).mono fun e W' ⟨he, hb⟩ => ?_
  subst he
  exact ⟨_, rfl, _, _, _, [], _, [], hW', trodAll_mk1 (shut_bool Tryd.underlying4 _), (trodAll_cons_mk (Below.trod laidOut (by kernel_rfl) (of_decide_eq_true (by kernel_rfl)) k0 hb lt0) trodAll_mk0), rfl, hb.frame _, fun h => by cases h⟩

theorem compileTexts_holds : Rows.CompileTextsSaid :=
  OpenClaim.holds_of_wide 3 Tryd.f3 rfl rfl rfl rfl rfl rfl rfl ⟨rfl, rfl, rfl, rfl, rfl⟩ rfl rfl rfl rfl rfl (by kernel_rfl) Tryd.func3 (by kernel_rfl)
    (of_decide_eq_true (by kernel_rfl)) (by unfold Func.isWrapper; first | (rw [if_pos (by decide +kernel)]; kernel_rfl) | (rw [if_neg (by decide +kernel)]; exact ⟨rfl, rfl⟩))
    (fun os started H enc _ => compileTexts_lifted os started H enc)
theorem compileTexts_card : Rows.CompileTextsCardSaid :=
  Claim7.holds_tied_plain_at .later [] Rows.compileTextsCard.laidKinds true Rows.compileTextsCard.stood.harness Rows.compileTextsCard.stood.looks
    compileTexts_holds (fun _ h => by cases h) (by kernel_rfl) (fun _ h => by cases h) compileTexts_row_tie rfl ⟨rfl, rfl⟩ (by kernel_rfl) rfl
    (fun f fn hf hfn => by
      obtain rfl : f = 3 := Option.some.inj ((show Tryd.prog.funcNamed Rows.compileTextsRow.func = some 3 by kernel_rfl).symm.trans hf) |>.symm
      obtain rfl : fn = Tryd.f3 := (Option.some.inj (Tryd.func3.symm.trans hfn)).symm
      exact ⟨by kernel_rfl, fun j t ht => by
        rw [Tryd.params3] at ht
        have hm : t ∈ [23] := by simpa using Array.mem_of_getElem? ht
        have hall : ([23].all fun u => !Tryd.prog.wantsStandIn u) = true := by kernel_rfl
        exact (show Tryd.prog.wantsStandIn t = false by simpa using List.all_eq_true.1 hall t hm)⟩)
    (by kernel_rfl)
end Go.Proofs.YtiiiacnmmdemlaaDoor
