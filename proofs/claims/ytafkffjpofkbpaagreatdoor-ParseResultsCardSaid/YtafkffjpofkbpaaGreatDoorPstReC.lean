/-
  ParseResults returns true for every text: what is parsed is shaped, and an error comes with a zero program and a positive line; no condition beyond what the row lists.
-/
import Derived.Test.YtafkffjpofkbpaaGreatDoorPstRe
import Derived.Test.YtafkffjpofkbpaaGreatDoorVars
namespace Go.Proofs.YtafkffjpofkbpaaGreatDoor
open Go.ChangeShapes Go.WideShapes Go.ChangeAt Go.WideMaps Go.WideElems Go.RowKit
open Go.ChangeMaps (setBlock shut_map_nil open_string shut_string keptBut_setBlock frozen?_setBlock heap_setBlock_same)
open Tok Par

theorem cell_piece {cs : List Value} {n k : Nat} {v : Value} (hk : k < 6) (h : (((cs.drop n).take 6).drop k).take 1 = [v]) : cs[n + k]? = some v := by
  have := congrArg (fun l => l[0]?) h
  simp [List.getElem?_drop, hk] at this
  exact this
theorem flds_six : ∀ r ∈ flds, r.length = 6 := by decide
set_option maxRecDepth 100000 in
theorem fields_all {H : Type} {enc : TypeId × Value → H} {w : World} {base : Nat} {sp : Nat → Bool} {held : Bool} {fuel : Nat} {cs : List Value} {q : List MemPlace}
    (h : DataW.trod enc Tryz.prog w base sp held fuel 140 cs = some (Rows.laid_interleave_parse_stmtFields, q)) :
    ∀ k j, k ≤ 15 → j ≤ 5 → cs[k * 6 + j]? = some (.bool (fl k j)) := by
  obtain ⟨xs, m, _, hx, _, hlen, hf⟩ := DataW.trod_array Tryz.underlying140 h
  intro k j hk hj
  have h1 : DataW.trod enc Tryz.prog w base sp held m 139 ((cs.drop (k * 6)).take 6) = xs[k]? := by
    have := hf k (by omega)
    rw [cFie] at this
    exact this
  simp only [Prod.mk.injEq] at hx
  have hx1 := hx.1
  rw [show (Rows.laid_interleave_parse_stmtFields : DataW H) = .agg (flds.map fun r => .agg (r.map fun b => .lit (.bool b))) from rfl] at hx1
  injection hx1 with hx1
  have e1 := congrArg (fun l => l[k]?) hx1
  obtain ⟨row, hrow⟩ : ∃ row, flds[k]? = some row := ⟨_, List.getElem?_eq_getElem (show k < 16 by omega)⟩
  simp only [List.getElem?_map, hrow, Option.map_some] at e1
  cases hy : xs[k]? with
  | none => rw [hy] at e1; cases e1
  | some y =>
    rw [hy] at e1 h1
    simp only [Option.map_some, Option.some.injEq] at e1
    obtain ⟨ys, n, _, hz, _, hlen2, hf2⟩ := DataW.trod_struct fFie h1
    have hz1 := congrArg Prod.fst hz
    rw [← e1] at hz1
    injection hz1 with hz1
    have hrl : row.length = 6 := flds_six row (List.mem_of_getElem? hrow)
    have hrj : row[j]? = some (fl k j) := by
      unfold fl
      rw [hrow]
      simp only [Option.bind_some]
      rw [List.getElem?_eq_getElem (show j < row.length by omega)]
      rfl
    have ho := oFie j (by omega)
    cases hfl : (Tryz.prog.fieldsOf 139)[j]? with
    | none => rw [hfl] at ho; cases ho
    | some f =>
      rw [hfl] at ho
      simp only [Option.map_some, Option.some.injEq, Prod.mk.injEq] at ho
      have h2 := hf2 j f hfl
      rw [ho.1, ho.2, show Tryz.prog.cellsOf 4 = 1 by kernel_rfl] at h2
      have hyk : (ys.map (·.1))[j]? = some (.lit (.bool (fl k j))) := by
        rw [← hz1, List.getElem?_map, hrj]
        rfl
      rw [List.getElem?_map] at hyk
      cases hyy : ys[j]? with
      | none => rw [hyy] at hyk; cases hyk
      | some z =>
        rw [hyy] at hyk h2
        simp only [Option.map_some, Option.some.injEq] at hyk
        obtain ⟨z1, z2⟩ := z
        have hyk : z1 = .lit (.bool (fl k j)) := hyk
        subst hyk
        exact cell_piece (by omega) (trod_bool (by kernel_rfl) h2)
theorem tab_of {W : World} (h : laidMetH Tryz.prog Rows.parseResultsRow.laid W) : TabF W := by
  rw [MakeChecks.laidMetH_plain _ _ _ (by kernel_rfl)] at h
  obtain ⟨ps, ⟨_, _, _, _, _, _, _, _, _, _, ⟨_, _, _, _, _, _, _, _, _, _, ⟨g0, t0, cs0, f0, p0, q0, hg0, ht0, hv0, hd0, ⟨g, t, cs, f, p, q, hg, ht, hv, hd, ⟨g2, t2, cs2, f2, p2, q2, hg2, ht2, hv2, hd2, ⟨g3, t3, cs3, f3, p3, q3, hg3, ht3, hv3, hd3, _, _⟩, _⟩, _⟩, _⟩, _⟩, _⟩, _, _⟩ := h
  obtain rfl := Option.some.inj (gFie.symm.trans hg3)
  obtain rfl := Option.some.inj (tFie.symm.trans ht3)
  have hk := fields_all hd3
  intro k j h1 h2
  rw [World.var?_cell hg3 hv3 (k * 6 + j)]
  simpa using hk k j h1 h2

set_option maxRecDepth 100000 in
theorem parseResults_lifted (os : Os) (started : os.Started) (H : Type) (enc : TypeId × Value → H) :
    ReturnsInHanded {} Tryz.checked os 4 .any (fun w args => (Rows.parseResultsSpec.pre enc Tryz.prog Tryz.f4 [] false w args ∧ laidMetH Tryz.prog Rows.parseResultsRow.laid w) ∧ sizedMet enc Tryz.prog Tryz.f4 (OpenSpec.ofChange Rows.parseResultsSpec) false w args)
      (Rows.parseResultsSpec.post enc Tryz.prog Tryz.f4 false true false false) := by
  refine returnsInHanded_of_change_and (C := Tryz.checked) (X := fun w _ => laidMetH Tryz.prog Rows.parseResultsRow.laid w) (fun _ _ _ hh h => h.of_heap hh) own started (by kernel_rfl) Tryz.func4
    (ChangeSpec.witness_shaped (enc := enc) (C := Tryz.checked) (os := os) (X := fun w _ => laidMetH Tryz.prog Rows.parseResultsRow.laid w) false (World.doorLaid Tryz.prog 400 os) #[.string ⟨#[]⟩] 8 rfl (World.shaped_of_RefB (by kernel_rfl) (by kernel_rfl)) (by kernel_rfl) (by kernel_rfl) (by kernel_rfl) (door_met os _)) ?_
  intro W base args ds gs before hval0 hW _ _ hL _
  have hval : ∀ (j : Nat) t v, Tryz.f4.params[j]? = some t → args[j]? = some v → Value.okWide Tryz.prog W .any base t v := hval0
  have hW' := hW
  obtain ⟨p, q, hA0, hV, rfl, hfz, hnd⟩ := hW
  have hA : DataW.TrodAll enc Tryz.prog W 0 (fun _ => true) true Tryz.f4.params.toList args.toList ds p := hA0
  rw [Tryz.params4] at hA hval
  obtain ⟨v0, d0, rfl, rfl, h0⟩ := trodAll_one hA
  obtain ⟨rfl, rfl⟩ := trodVars_none hV
  obtain ⟨s0, rfl, rfl, rfl, hs0⟩ := open_string Tryz.underlying9 (hval 0 9 v0 rfl rfl) h0
  clear hA0 hval0
  simp only [List.append_nil] at hW'
  refine (parseResults_any s0 W (vars_of hL) (tab_of hL) hs0).mono fun e W' ⟨he, hb⟩ => ?_
  subst he
  exact ⟨_, rfl, _, _, _, [], _, [], hW', trodAll_mk1 (shut_bool Tryz.underlying4 _), (trodAll_cons_mk (shut_string Tryz.underlying9 hs0) trodAll_mk0), rfl, hb.frame _, fun h => by cases h⟩

set_option maxHeartbeats 8000000 in
theorem parseResults_holds : Rows.ParseResultsSaid :=
  OpenClaim.holds_of_wide 4 Tryz.f4 rfl rfl rfl rfl rfl rfl rfl ⟨rfl, rfl, rfl, rfl, rfl⟩ rfl rfl rfl rfl rfl (by as_aux_lemma => kernel_rfl) Tryz.func4 (by
      unfold joinedFacts
      simp only [Bool.and_eq_true]
      and_intros
      all_goals (as_aux_lemma => kernel_rfl))
    (by as_aux_lemma => exact of_decide_eq_true (by kernel_rfl)) (by unfold Func.isWrapper; first | (rw [if_pos (by decide +kernel)]; kernel_rfl) | (rw [if_neg (by decide +kernel)]; exact ⟨rfl, rfl⟩))
    (fun os started H enc _ => parseResults_lifted os started H enc)
set_option maxHeartbeats 8000000 in
theorem parseResults_card : Rows.ParseResultsCardSaid :=
  Claim7.holds_tied_plain_at .later [] Rows.parseResultsCard.laidKinds true Rows.parseResultsCard.stood.harness true
    parseResults_holds (fun _ h => by cases h) (by as_aux_lemma => kernel_rfl) (fun _ h => by cases h) parseResults_row_tie rfl ⟨rfl, rfl⟩ (by as_aux_lemma => kernel_rfl) rfl
    (fun f fn hf hfn => by
      obtain rfl : f = 4 := Option.some.inj ((show Tryz.prog.funcNamed Rows.parseResultsRow.func = some 4 by kernel_rfl).symm.trans hf) |>.symm
      obtain rfl : fn = Tryz.f4 := (Option.some.inj (Tryz.func4.symm.trans hfn)).symm
      exact ⟨by as_aux_lemma => kernel_rfl, fun j t ht => by
        rw [Tryz.params4] at ht
        have hm : t ∈ [9] := by simpa using Array.mem_of_getElem? ht
        have hall : ([9].all fun u => !Tryz.prog.wantsStandIn u) = true := by kernel_rfl
        exact (show Tryz.prog.wantsStandIn t = false by simpa using List.all_eq_true.1 hall t hm)⟩)
    (by as_aux_lemma => kernel_rfl)
end Go.Proofs.YtafkffjpofkbpaaGreatDoor
