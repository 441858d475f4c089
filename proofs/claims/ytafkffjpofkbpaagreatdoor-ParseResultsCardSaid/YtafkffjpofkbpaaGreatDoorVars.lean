/-
  What the rows' conditions say of the variables of strconv and of package parse's table.
-/
import Derived.Test.YtafkffjpofkbpaaGreatDoorAwF
import Derived.Lib.LaidTab
import Derived.Test.YtafkffjpofkbpaaGreatDoorCards
import Derived.Test.YtafkffjpofkbpaaGreatDoorTie
import Derived.ProofKit
import Derived.LaidMore
import Derived.OpenShut
import Derived.Stop.Joined
import Derived.Below
import Derived.ChangeSame
import Derived.Carry
namespace Go.Proofs.YtafkffjpofkbpaaGreatDoor
open Go.ChangeShapes Go.WideShapes Go.ChangeAt Go.WideMaps Go.WideElems Go.RowKit
open Go.ChangeMaps (setBlock shut_map_nil open_string shut_string keptBut_setBlock frozen?_setBlock heap_setBlock_same)
open Tok Par

theorem own : ownKnob Tryz.prog.godebug = none := by kernel_rfl
theorem gErr : Tryz.prog.globalNamed "strconv.ErrRange" = some 6 := by kernel_rfl
theorem tErr : (Tryz.prog.globals[6]?).map (·.type) = some 122 := by kernel_rfl
theorem gSyn : Tryz.prog.globalNamed "strconv.ErrSyntax" = some 5 := by kernel_rfl
theorem tSyn : (Tryz.prog.globals[5]?).map (·.type) = some 122 := by kernel_rfl

theorem gFie : Tryz.prog.globalNamed "interleave/parse.stmtFields" = some 0 := by kernel_rfl
theorem tFie : (Tryz.prog.globals[0]?).map (·.type) = some 140 := by kernel_rfl
theorem cFie : Tryz.prog.cellsOf 139 = 6 := by kernel_rfl
theorem fFie : Tryz.prog.underlying 139 = some (.struct (Tryz.prog.fieldsOf 139)) := by kernel_rfl
theorem oFie : ∀ k, k < 6 → ((Tryz.prog.fieldsOf 139)[k]?).map (fun f => (f.type, f.offset)) = some (4, k) := by
  intro k hk
  rcases (show k = 0 ∨ k = 1 ∨ k = 2 ∨ k = 3 ∨ k = 4 ∨ k = 5 by omega) with rfl | rfl | rfl | rfl | rfl | rfl <;> kernel_rfl
theorem trod_bool {H : Type} {enc : TypeId × Value → H} {P : Program} {w : World} {base : Nat} {sp : Nat → Bool} {held : Bool} {fuel : Nat} {t : TypeId} {cs : List Value} {b : Bool} {q : List MemPlace} (ht : P.underlying t = some .bool)
    (h : DataW.trod enc P w base sp held fuel t cs = some (.lit (.bool b), q)) : cs = [.bool b] := by
  cases fuel with
  | zero => simp [DataW.trod] at h
  | succ m =>
    unfold DataW.trod at h
    rw [ht] at h
    split at h <;> simp_all
theorem cell_of_piece {cs : List Value} {k : Nat} {v : Value} (hk : k < 6) (h : (((cs.drop 6).take 6).drop k).take 1 = [v]) : cs[6 + k]? = some v := by
  have := congrArg (fun l => l[0]?) h
  simp [List.getElem?_drop, hk] at this
  exact this
set_option maxRecDepth 100000 in
theorem fields_of {H : Type} {enc : TypeId × Value → H} {w : World} {base : Nat} {sp : Nat → Bool} {held : Bool} {fuel : Nat} {cs : List Value} {q : List MemPlace}
    (h : DataW.trod enc Tryz.prog w base sp held fuel 140 cs = some (Rows.laid_interleave_parse_stmtFields, q)) :
    ∀ k b, [true, false, true, true, false, false][k]? = some b → cs[6 + k]? = some (.bool b) := by
  obtain ⟨xs, m, _, hx, _, hlen, hf⟩ := DataW.trod_array Tryz.underlying140 h
  have h1 : DataW.trod enc Tryz.prog w base sp held m 139 ((cs.drop 6).take 6) = xs[1]? := by
    have := hf 1 (by omega)
    rw [cFie] at this
    exact this
  simp only [Prod.mk.injEq] at hx
  have hx1 := hx.1
  unfold Rows.laid_interleave_parse_stmtFields at hx1
  injection hx1 with hx1
  have e1 := congrArg (fun l => l[1]?) hx1
  simp only [List.getElem?_cons_succ, List.getElem?_cons_zero, List.getElem?_map] at e1
  cases hy : xs[1]? with
  | none => rw [hy] at e1; cases e1
  | some y =>
    rw [hy] at e1 h1
    simp only [Option.map_some, Option.some.injEq] at e1
    obtain ⟨ys, n, _, hz, _, hlen2, hf2⟩ := DataW.trod_struct fFie h1
    have hz1 := congrArg Prod.fst hz
    rw [← e1] at hz1
    injection hz1 with hz1
    intro k b hk
    have hk6 : k < 6 := by
      have := List.getElem?_eq_some_iff.1 hk
      obtain ⟨hl, _⟩ := this
      simpa using hl
    have ho := oFie k hk6
    cases hfl : (Tryz.prog.fieldsOf 139)[k]? with
    | none => rw [hfl] at ho; cases ho
    | some f =>
      rw [hfl] at ho
      simp only [Option.map_some, Option.some.injEq, Prod.mk.injEq] at ho
      have h2 := hf2 k f hfl
      rw [ho.1, ho.2, show Tryz.prog.cellsOf 4 = 1 by kernel_rfl] at h2
      have hyk : (ys.map (·.1))[k]? = some (.lit (.bool b)) := by
        rw [← hz1]
        rcases (show k = 0 ∨ k = 1 ∨ k = 2 ∨ k = 3 ∨ k = 4 ∨ k = 5 by omega) with rfl | rfl | rfl | rfl | rfl | rfl <;> simp at hk ⊢ <;> exact hk
      rw [List.getElem?_map] at hyk
      cases hyy : ys[k]? with
      | none => rw [hyy] at hyk; cases hyk
      | some z =>
        rw [hyy] at hyk h2
        simp only [Option.map_some, Option.some.injEq] at hyk
        obtain ⟨z1, z2⟩ := z
        have hyk : z1 = .lit (.bool b) := hyk
        subst hyk
        exact cell_of_piece hk6 (trod_bool (by kernel_rfl) h2)

/-- The start's own heap meets the condition. -/
theorem door_met (os : Os) (args : Array Value) : laidMetH Tryz.prog Rows.parseResultsRow.laid ((World.doorLaid Tryz.prog 400 os).forCall (fun _ _ => 0) ⟨#[], args, []⟩).memory :=
  laidMetH_of_parts3 (fuel := 8) (laidMet_of_run' 8 (by kernel_rfl) (by kernel_rfl)) (by kernel_rfl) (by kernel_rfl)

theorem vars_of {W : World} (h : laidMetH Tryz.prog Rows.parseResultsRow.laid W) : Two W ∧ FieldsOf W := by
  rw [MakeChecks.laidMetH_plain _ _ _ (by kernel_rfl)] at h
  obtain ⟨ps, ⟨_, _, _, _, _, _, _, _, _, _, ⟨_, _, _, _, _, _, _, _, _, _, ⟨g0, t0, cs0, f0, p0, q0, hg0, ht0, hv0, hd0, ⟨g, t, cs, f, p, q, hg, ht, hv, hd, ⟨g2, t2, cs2, f2, p2, q2, hg2, ht2, hv2, hd2, ⟨g3, t3, cs3, f3, p3, q3, hg3, ht3, hv3, hd3, _, _⟩, _⟩, _⟩, _⟩, _⟩, _⟩, _, _⟩ := h
  obtain rfl := Option.some.inj (gErr.symm.trans hg)
  obtain rfl := Option.some.inj (tErr.symm.trans ht)
  obtain rfl := Option.some.inj (gSyn.symm.trans hg2)
  obtain rfl := Option.some.inj (tSyn.symm.trans ht2)
  obtain rfl := Option.some.inj (gFie.symm.trans hg3)
  obtain rfl := Option.some.inj (tFie.symm.trans ht3)
  obtain ⟨f', u, v, hcs, _, _⟩ := iface_of_trod Tryz.underlying122 hd
  obtain ⟨f2', u2, v2, hcs2, _, _⟩ := iface_of_trod Tryz.underlying122 hd2
  have hc := World.var?_cell hg hv 0
  have hc2 : W.cell? ⟨6, 0, none⟩ = some (.iface u v) := by
    rw [hc, Array.eq_one_of_toList hcs]
    rfl
  have hd := World.var?_cell hg2 hv2 0
  have hd2 : W.cell? ⟨5, 0, none⟩ = some (.iface u2 v2) := by
    rw [hd, Array.eq_one_of_toList hcs2]
    rfl
  have hk := fields_of hd3
  have hq : ∀ k b, [true, false, true, true, false, false][k]? = some b → W.cell? ⟨0, 6 + k, none⟩ = some (.bool b) := fun k b hb => by
    rw [World.var?_cell hg3 hv3 (6 + k)]
    simpa using hk k b hb
  exact ⟨⟨⟨block_lt_of_cell hc2, u, v, hc2⟩, block_lt_of_cell hd2, u2, v2, hd2⟩, hq 0 _ rfl, hq 1 _ rfl, hq 2 _ rfl, hq 3 _ rfl, hq 4 _ rfl, hq 5 _ rfl⟩
end Go.Proofs.YtafkffjpofkbpaaGreatDoor
