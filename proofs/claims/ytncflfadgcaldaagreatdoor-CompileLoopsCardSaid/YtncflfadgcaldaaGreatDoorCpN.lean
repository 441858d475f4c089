/-
  CompileLoops returns true: the code of the given program with a loop is the ten instructions that the document gives, with three registers. A closed statement: it takes no input; no condition beyond what the row lists.
-/
import Derived.Test.YtncflfadgcaldaaGreatDoorCpM
import Derived.Test.YtncflfadgcaldaaGreatDoorCards
import Derived.Test.YtncflfadgcaldaaGreatDoorTie

namespace Go.Proofs.YtncflfadgcaldaaGreatDoor
open Go.ChangeShapes Go.WideShapes Go.ChangeAt Go.WideMaps Go.WideElems Go.RowKit
open Go.ChangeMaps (setBlock shut_map_nil open_string shut_string keptBut_setBlock frozen?_setBlock heap_setBlock_same)
open Tok Par

theorem gLay : Tryz.prog.globalNamed "interleave/compile.layouts" = some 0 := by kernel_rfl
theorem tLay : (Tryz.prog.globals[0]?).map (·.type) = some 128 := by kernel_rfl
theorem cLay : Tryz.prog.cellsOf 127 = 2 := by kernel_rfl
theorem fLay : Tryz.prog.underlying 127 = some (.struct (Tryz.prog.fieldsOf 127)) := by kernel_rfl
theorem oLay : ((Tryz.prog.fieldsOf 127)[1]?).map (fun f => (f.type, f.offset)) = some (9, 1) := by kernel_rfl
theorem laid_regs {H : Type} : ∀ k, k < 29 → ∃ r, (match (Rows.laid_interleave_compile_layouts : DataW H) with | .agg l => l[k]? | _ => .none) = some (.agg [r, .lit (.string (Cp.flds k))]) := by
  intro k hk
  match k, hk with
  | 0, _ => exact ⟨_, rfl⟩
  | 1, _ => exact ⟨_, rfl⟩
  | 2, _ => exact ⟨_, rfl⟩
  | 3, _ => exact ⟨_, rfl⟩
  | 4, _ => exact ⟨_, rfl⟩
  | 5, _ => exact ⟨_, rfl⟩
  | 6, _ => exact ⟨_, rfl⟩
  | 7, _ => exact ⟨_, rfl⟩
  | 8, _ => exact ⟨_, rfl⟩
  | 9, _ => exact ⟨_, rfl⟩
  | 10, _ => exact ⟨_, rfl⟩
  | 11, _ => exact ⟨_, rfl⟩
  | 12, _ => exact ⟨_, rfl⟩
  | 13, _ => exact ⟨_, rfl⟩
  | 14, _ => exact ⟨_, rfl⟩
  | 15, _ => exact ⟨_, rfl⟩
  | 16, _ => exact ⟨_, rfl⟩
  | 17, _ => exact ⟨_, rfl⟩
  | 18, _ => exact ⟨_, rfl⟩
  | 19, _ => exact ⟨_, rfl⟩
  | 20, _ => exact ⟨_, rfl⟩
  | 21, _ => exact ⟨_, rfl⟩
  | 22, _ => exact ⟨_, rfl⟩
  | 23, _ => exact ⟨_, rfl⟩
  | 24, _ => exact ⟨_, rfl⟩
  | 25, _ => exact ⟨_, rfl⟩
  | 26, _ => exact ⟨_, rfl⟩
  | 27, _ => exact ⟨_, rfl⟩
  | 28, _ => exact ⟨_, rfl⟩
  | k + 29, hk => exact absurd hk (by omega)
set_option maxRecDepth 100000 in
theorem lays_of {H : Type} {enc : TypeId × Value → H} {w : World} {base : Nat} {sp : Nat → Bool} {held : Bool} {fuel : Nat} {cs : List Value} {q : List MemPlace}
    (h : DataW.trod enc Tryz.prog w base sp held fuel 128 cs = some (Rows.laid_interleave_compile_layouts, q)) :
    ∀ k, k < 29 → cs[k * 2 + 1]? = some (.string ⟨(Cp.flds k).toArray⟩) := by
  obtain ⟨xs, m, _, hx, _, hlen, hf⟩ := DataW.trod_array Tryz.underlying128 h
  intro k hk
  have h1 : DataW.trod enc Tryz.prog w base sp held m 127 ((cs.drop (k * 2)).take 2) = xs[k]? := by
    have := hf k (by omega)
    rw [cLay] at this
    exact this
  simp only [Prod.mk.injEq] at hx
  obtain ⟨r, hr⟩ := laid_regs (H := H) k hk
  rw [hx.1] at hr
  simp only [List.getElem?_map] at hr
  cases hy : xs[k]? with
  | none => rw [hy] at hr; cases hr
  | some y =>
    rw [hy] at hr h1
    simp only [Option.map_some, Option.some.injEq] at hr
    obtain ⟨ys, n, _, hz, _, hlen2, hf2⟩ := DataW.trod_struct fLay h1
    have hz1 := congrArg Prod.fst hz
    rw [hr] at hz1
    injection hz1 with hz1
    cases hfl : (Tryz.prog.fieldsOf 127)[1]? with
    | none =>
      have ho := oLay
      rw [hfl] at ho
      cases ho
    | some f =>
      have ho := oLay
      rw [hfl] at ho
      simp only [Option.map_some, Option.some.injEq, Prod.mk.injEq] at ho
      have h2 := hf2 1 f hfl
      rw [ho.1, ho.2, show Tryz.prog.cellsOf 9 = 1 by kernel_rfl] at h2
      cases hyy : ys[1]? with
      | none =>
        have e := congrArg (fun l => l[1]?) hz1
        simp only [List.getElem?_cons_zero, List.getElem?_cons_succ, List.getElem?_map, hyy] at e
        cases e
      | some z =>
        have e := congrArg (fun l => l[1]?) hz1
        simp only [List.getElem?_cons_zero, List.getElem?_cons_succ, List.getElem?_map, hyy, Option.map_some, Option.some.injEq] at e
        rw [hyy] at h2
        obtain ⟨s, hs, hz2, _⟩ := DataW.trod_string Tryz.underlying9 h2
        rw [hz2] at e
        injection e with e
        injection e with e
        have hc := congrArg (fun l => l[0]?) hs
        simp [List.getElem?_drop] at hc
        rw [hc, e]
theorem lay_of {W : World} (h : laidMetH Tryz.prog Rows.compileLoopsRow.laid W) : Cp.LayF W := by
  rw [MakeChecks.laidMetH_plain _ _ _ (by kernel_rfl)] at h
  obtain ⟨ps, ⟨_, _, _, _, _, _, _, _, _, _, ⟨_, _, _, _, _, _, _, _, _, _, ⟨g0, t0, cs0, f0, p0, q0, hg0, ht0, hv0, hd0, ⟨g, t, cs, f, p, q, hg, ht, hv, hd, ⟨g2, t2, cs2, f2, p2, q2, hg2, ht2, hv2, hd2, ⟨g3, t3, cs3, f3, p3, q3, hg3, ht3, hv3, hd3, ⟨g4, t4, cs4, f4, p4, q4, hg4, ht4, hv4, hd4, _, _⟩, _⟩, _⟩, _⟩, _⟩, _⟩, _⟩, _, _⟩ := h
  obtain rfl := Option.some.inj (gLay.symm.trans hg4)
  obtain rfl := Option.some.inj (tLay.symm.trans ht4)
  have hk := lays_of hd4
  intro k hk28
  rw [World.var?_cell hg4 hv4 (k * 2 + 1)]
  simpa using hk k (by omega)
end Go.Proofs.YtncflfadgcaldaaGreatDoor

namespace Go.Proofs.YtncflfadgcaldaaGreatDoor
open Go.ChangeShapes Go.WideShapes Go.ChangeAt Go.WideMaps Go.WideElems Go.RowKit
open Go.ChangeMaps (setBlock shut_map_nil open_string shut_string keptBut_setBlock frozen?_setBlock heap_setBlock_same)
open Tok Par

set_option maxRecDepth 100000 in
theorem compileLoops_lifted (os : Os) (started : os.Started) (H : Type) (enc : TypeId × Value → H) :
    ReturnsInHanded {} Tryz.checked os 3 .any (fun w args => (Rows.compileLoopsSpec.pre enc Tryz.prog Tryz.f3 [] false w args ∧ laidMetH Tryz.prog Rows.compileLoopsRow.laid w) ∧ sizedMet enc Tryz.prog Tryz.f3 (OpenSpec.ofChange Rows.compileLoopsSpec) false w args)
      (Rows.compileLoopsSpec.post enc Tryz.prog Tryz.f3 false true false false) := by
  refine returnsInHanded_of_change_and (C := Tryz.checked) (X := fun w _ => laidMetH Tryz.prog Rows.compileLoopsRow.laid w) (fun _ _ _ hh h => h.of_heap hh) own started (by kernel_rfl) Tryz.func3
    (ChangeSpec.witness_shaped (enc := enc) (C := Tryz.checked) (os := os) (X := fun w _ => laidMetH Tryz.prog Rows.compileLoopsRow.laid w) false (World.doorLaid Tryz.prog 400 os) #[] 8 rfl (World.shaped_of_RefB (by kernel_rfl) (by kernel_rfl)) (by kernel_rfl) (by kernel_rfl) (by kernel_rfl) (door_met os _)) ?_
  intro W base args ds gs before hval0 hW _ _ hL _
  have hval : ∀ (j : Nat) t v, Tryz.f3.params[j]? = some t → args[j]? = some v → Value.okWide Tryz.prog W .any base t v := hval0
  have hW' := hW
  obtain ⟨p, q, hA0, hV, rfl, hfz, hnd⟩ := hW
  have hA : DataW.TrodAll enc Tryz.prog W 0 (fun _ => true) true Tryz.f3.params.toList args.toList ds p := hA0
  rw [Tryz.params3] at hA hval
  obtain ⟨rfl, rfl, rfl⟩ := trodAll_none hA
  obtain ⟨rfl, rfl⟩ := trodVars_none hV
  clear hA0 hval0
  simp only [List.append_nil] at hW'
  refine (compileLoops_any W (vars_of hL) (tab_of hL) (lay_of hL)).mono fun e W' ⟨he, hb⟩ => ?_
  subst he
  exact ⟨_, rfl, _, _, _, [], _, [], hW', trodAll_mk1 (shut_bool Tryz.underlying4 _), trodAll_mk0, rfl, hb.frame _, fun h => by cases h⟩

set_option maxHeartbeats 8000000 in
theorem compileLoops_holds : Rows.CompileLoopsSaid :=
  OpenClaim.holds_of_wide 3 Tryz.f3 rfl rfl rfl rfl rfl rfl rfl ⟨rfl, rfl, rfl, rfl, rfl⟩ rfl rfl rfl rfl rfl (by as_aux_lemma => kernel_rfl) Tryz.func3 (by
      unfold joinedFacts
      simp only [Bool.and_eq_true]
      and_intros
      all_goals (as_aux_lemma => kernel_rfl))
    (by as_aux_lemma => exact of_decide_eq_true (by kernel_rfl)) (by unfold Func.isWrapper; first | (rw [if_pos (by decide +kernel)]; kernel_rfl) | (rw [if_neg (by decide +kernel)]; exact ⟨rfl, rfl⟩))
    (fun os started H enc _ => compileLoops_lifted os started H enc)
set_option maxHeartbeats 8000000 in
theorem compileLoops_card : Rows.CompileLoopsCardSaid :=
  Claim7.holds_tied_plain_at .later [] Rows.compileLoopsCard.laidKinds true Rows.compileLoopsCard.stood.harness Rows.compileLoopsCard.stood.looks
    compileLoops_holds (fun _ h => by cases h) (by as_aux_lemma => kernel_rfl) (fun _ h => by cases h) compileLoops_row_tie rfl ⟨rfl, rfl⟩ (by as_aux_lemma => kernel_rfl) rfl
    (fun f fn hf hfn => by
      obtain rfl : f = 3 := Option.some.inj ((show Tryz.prog.funcNamed Rows.compileLoopsRow.func = some 3 by kernel_rfl).symm.trans hf) |>.symm
      obtain rfl : fn = Tryz.f3 := (Option.some.inj (Tryz.func3.symm.trans hfn)).symm
      exact ⟨by as_aux_lemma => kernel_rfl, fun j t ht => by
        rw [Tryz.params3] at ht
        simp at ht⟩)
    (by as_aux_lemma => kernel_rfl)
end Go.Proofs.YtncflfadgcaldaaGreatDoor
