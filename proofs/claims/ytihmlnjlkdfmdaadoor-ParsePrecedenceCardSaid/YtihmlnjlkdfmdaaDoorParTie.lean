/-
  What the laws' proofs share: what the listed variables give, and the start that fits.
-/
import Derived.Test.YtihmlnjlkdfmdaaDoorParL
import Derived.Test.YtihmlnjlkdfmdaaDoorCards
import Derived.Test.YtihmlnjlkdfmdaaDoorTie
import Derived.ProofKit
import Derived.LaidMore
import Derived.OpenShut
import Derived.Stop.Joined
import Derived.Below
import Derived.ChangeSame
namespace Go.Proofs.YtihmlnjlkdfmdaaDoor
open Go.ChangeShapes Go.WideShapes Go.ChangeAt Go.WideMaps Go.WideElems Go.RowKit
open Go.ChangeMaps (setBlock shut_map_nil open_string shut_string keptBut_setBlock frozen?_setBlock heap_setBlock_same)
open Tok Par

theorem own : ownKnob Tryd.prog.godebug = none := by kernel_rfl
theorem gErr : Tryd.prog.globalNamed "strconv.ErrRange" = some 2 := by kernel_rfl
theorem tErr : (Tryd.prog.globals[2]?).map (·.type) = some 60 := by kernel_rfl
theorem gSyn : Tryd.prog.globalNamed "strconv.ErrSyntax" = some 1 := by kernel_rfl
theorem tSyn : (Tryd.prog.globals[1]?).map (·.type) = some 60 := by kernel_rfl

/-- The start's own heap meets the condition. -/
theorem door_met (os : Os) (args : Array Value) : laidMetH Tryd.prog Rows.parsePrecedenceRow.laid ((World.doorLaid Tryd.prog 400 os).forCall (fun _ _ => 0) ⟨#[], args, []⟩).memory :=
  laidMetH_of_parts3 (fuel := 8) (laidMet_of_run' 8 (by kernel_rfl) (by kernel_rfl)) (by kernel_rfl) (by kernel_rfl)

theorem vars_of {W : World} (h : laidMetH Tryd.prog Rows.parsePrecedenceRow.laid W) : Two W := by
  rw [MakeChecks.laidMetH_plain _ _ _ (by kernel_rfl)] at h
  obtain ⟨ps, ⟨_, _, _, _, _, _, _, _, _, _, ⟨_, _, _, _, _, _, _, _, _, _, ⟨_, _, _, _, _, _, _, _, _, _, ⟨g, t, cs, f, p, q, hg, ht, hv, hd, ⟨g2, t2, cs2, f2, p2, q2, hg2, ht2, hv2, hd2, _, _⟩, _⟩, _⟩, _⟩, _⟩, _, _⟩ := h
  obtain rfl := Option.some.inj (gErr.symm.trans hg)
  obtain rfl := Option.some.inj (tErr.symm.trans ht)
  obtain rfl := Option.some.inj (gSyn.symm.trans hg2)
  obtain rfl := Option.some.inj (tSyn.symm.trans ht2)
  obtain ⟨f', u, v, hcs, _, _⟩ := iface_of_trod Tryd.underlying60 hd
  obtain ⟨f2', u2, v2, hcs2, _, _⟩ := iface_of_trod Tryd.underlying60 hd2
  have hc := World.var?_cell hg hv 0
  have hc2 : W.cell? ⟨2, 0, none⟩ = some (.iface u v) := by
    rw [hc, Array.eq_one_of_toList hcs]
    rfl
  have hd := World.var?_cell hg2 hv2 0
  have hd2 : W.cell? ⟨1, 0, none⟩ = some (.iface u2 v2) := by
    rw [hd, Array.eq_one_of_toList hcs2]
    rfl
  exact ⟨⟨block_lt_of_cell hc2, u, v, hc2⟩, block_lt_of_cell hd2, u2, v2, hd2⟩
end Go.Proofs.YtihmlnjlkdfmdaaDoor
