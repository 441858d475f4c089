/-
  The walk of the laws' own check 'awake' (one fixed text is scanned), and of TokenNumbers.
-/
import Derived.Test.YtjinbmemflgkoaaDoorTokF
import Derived.Deep.AppendLies
namespace Go.Proofs.YtjinbmemflgkoaaDoor
open Go.RowKit
open Tok

namespace Tok
theorem scan_at {l : Bs} {ts : List T} {er ln : Nat} (s : ByteArray) (w : World) (hl : s.data.toList = l) (h : scan l = (ts, er, ln)) (hv : Vars w) (hs : s.size ≤ maxLen) :
    Calls Tryd.prog 11 #[.string s] w fun e w' => ∃ v, e = .returned (.tuple #[v, .int .i64 er, .int .i64 ln]) ∧
      w'.ownsRow w.heap.size 30 3 v ts.length (cells ts) ∧ Below w.heap.size w w' := by
  refine (scan_any s w hv hs).mono ?_
  rintro e w' ⟨v, he, ho, hb⟩
  rw [hl, h] at he ho
  exact ⟨v, he, ho, hb⟩
theorem toks_form {w : World} {B n : Nat} {v : Value} {ts : List T} (h : w.ownsRow B 30 3 v n (cells ts)) (hn : 0 < n) :
    ∃ g cap, v = .slice (some ⟨g, 0, none⟩) n cap ∧ B ≤ g ∧ g < w.heap.size ∧ ∀ j u, (cells ts)[j]? = some u → w.cell? ⟨g, j, none⟩ = some u := by
  obtain ⟨g, cap, hv, hb, hlt⟩ := h.form hn
  refine ⟨g, cap, hv, hb, hlt, fun j u hj => ?_⟩
  have := h.cells (g := g) (by rw [hv]; rfl) j u hj
  simpa [Addr.add_lit] using this
end Tok

set_option maxHeartbeats 1000000 in
theorem awake_any (w : World) (hv : Vars w) : Calls Tryd.prog 14 #[] w fun e w' => e = .returned (.bool true) ∧ Below w.heap.size w w' := by
  have c1 := Lib.hid (scan_at (l := [97, 61, 49]) (ts := [(1, [97], 1), (4, [61], 1), (2, [49], 1)]) (er := 0) (ln := 0) ⟨#[97, 61, 49]⟩ w rfl (by decide +kernel) hv (by decide +kernel))
  have hN : isName [97] = true := by decide +kernel
  have hK : isKw [118, 97, 114] = true := by decide +kernel
  clear hv
  go_enter Tryd.func14, Tryd.ntmps14
  go_wp2_with (first
    | (go_at_call 11; refine c1.out.mono ?_; rintro e w1 ⟨v, rfl, ho, hb⟩; obtain ⟨g, cap, rfl, hg1, hg2, hc⟩ := toks_form ho (by decide); have h1 := hc 1 _ rfl; have h2 := hc 3 _ rfl; clear hc ho)
    | (go_at_call 15; refine (isName_any _ _ (by decide +kernel)).mono ?_; rintro e w2 ⟨rfl, hb2⟩)
    | (go_at_call 17; refine (isKeyword_any _ _).mono ?_; rintro e w3 ⟨rfl, rfl⟩))
  go_ret
  exact ⟨ret_bool rfl, below_trans hb hb2⟩
end Go.Proofs.YtjinbmemflgkoaaDoor
