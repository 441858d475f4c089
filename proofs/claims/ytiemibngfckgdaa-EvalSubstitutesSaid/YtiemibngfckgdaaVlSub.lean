/-
  EvalSubstitutes returns true: replacing the variables of a made expression by their values does not change its value; for every slice of bytes (of more than 300 the law says true at once) and every slice of numbers, without a condition.
-/
import Derived.Test.YtiemibngfckgdaaVlF
import Derived.Test.YtiemibngfckgdaaVlH
import Derived.ProofKit
import Derived.LaidMore
import Derived.OpenShut
import Derived.Stop.Joined
import Derived.ChangeSame
import Derived.Carry
namespace Go.Proofs.Ytiemibngfckgdaa
open Go.ChangeShapes Go.WideShapes Go.ChangeAt Go.WideMaps Go.WideElems Go.RowKit
open Par
open Vl

namespace Vl
def names10 : List ByteArray := [⟨#[120]⟩, ⟨#[121]⟩, ⟨#[97]⟩, ⟨#[98]⟩, ⟨#[118]⟩, ⟨#[109]⟩, ⟨#[116]⟩, ⟨#[122, 122]⟩, ⟨#[102]⟩, ⟨#[120]⟩]
theorem names10_at (w : World) (t : TypeId) : StrsAt (w.alloc (.cells #[.string ⟨#[120]⟩, .string ⟨#[121]⟩, .string ⟨#[97]⟩, .string ⟨#[98]⟩, .string ⟨#[118]⟩, .string ⟨#[109]⟩, .string ⟨#[116]⟩, .string ⟨#[122, 122]⟩, .string ⟨#[102]⟩, .string ⟨#[120]⟩] t)) (.slice (some ⟨w.heap.size, 0, none⟩) 10 10) names10 := by
  refine ⟨_, _, rfl, fun k hk => ⟨w.heap.size, 0, rfl, by simp, ?_⟩⟩
  rw [World.cell?_alloc_at _ _ _ _ (by simp), Nat.zero_add]
  have hk : k < 10 := hk
  rcases (show k = 0 ∨ k = 1 ∨ k = 2 ∨ k = 3 ∨ k = 4 ∨ k = 5 ∨ k = 6 ∨ k = 7 ∨ k = 8 ∨ k = 9 by omega) with rfl | rfl | rfl | rfl | rfl | rfl | rfl | rfl | rfl | rfl <;> rfl
theorem names10_ok : ∀ s ∈ names10, s.size ≤ maxLen := by
  intro s hs
  unfold names10 at hs
  simp only [List.mem_cons, List.not_mem_nil, or_false] at hs
  unfold maxLen
  rcases hs with rfl | rfl | rfl | rfl | rfl | rfl | rfl | rfl | rfl | rfl <;> decide
theorem strs_nil (w : World) : StrsAt w (.slice none 0 0) [] := ⟨none, 0, rfl, fun k hk => absurd hk (by simp)⟩
theorem ints_nil (w : World) : IntsAt w (.slice none 0 0) [] := ⟨none, 0, rfl, fun k hk => absurd hk (by simp)⟩
theorem env_nil : env [] [] = fun _ => none := rfl
end Vl

set_option maxRecDepth 100000 in
theorem names_any (w : World) : Calls Try.prog 17 #[] w fun e w' => ∃ v, e = .returned v ∧ Below w.heap.size w w' ∧ StrsAt w' v names10 := by
  go_enter Try.func17, Try.ntmps17
  go_wp2_with fail
  go_ret
  exact ⟨_, rfl, (Below.refl _ _).alloc (Nat.le_refl _) _, names10_at _ _⟩

set_option maxHeartbeats 4000000 in
set_option maxRecDepth 100000 in
theorem evalSubstitutes_any (A : Option Addr) (len cap : Nat) (xs : List Nat) (u : Value) (zs : List Int) (w : World) (hx : BytesOf w A len xs) (hu : IntsAt w u zs) (hz : zs.length ≤ maxLen) (hw : ∀ z ∈ zs, (Lit.int .i64 z).wf = true) :
    Calls Try.prog 9 #[.slice A len cap, u] w fun e w' => e = .returned (.bool true) ∧ Below w.heap.size w w' := by
  have hlen := hx.2.1
  unfold maxLen at hlen
  by_cases hl : 300 < len
  · have hli : (300 : Int) < (len : Int) := by omega
    clear hx hu hz hw hlen
    go_enter Try.func9, Try.ntmps9
    go_wp2_with fail
    go_ret
    exact ⟨rfl, Below.refl _ _⟩
  · have hli : ¬ (300 : Int) < (len : Int) := by omega
    have HX := Lib.hid hx
    have HU := Lib.hid hu
    have CM := Lib.hid (madeExpr_any w A len cap xs hx)
    have CE := Lib.hid (fun w n0 op n nm a l c e h ho hk v hv hu => exprV_any w n0 op n nm a l c e h ho hk v u names10 zs hv hu (by decide) hz hw names10_ok)
    have CN := Lib.hid (fun w n0 op n nm a l c e h ho hk => exprV_any w n0 op n nm a l c e h ho hk (.slice none 0 0) (.slice none 0 0) [] [] (strs_nil w) (ints_nil w) (by decide) (by unfold maxLen; simp) (fun _ h => nomatch h) (fun _ h => nomatch h))
    have CP := Lib.hid (fun e hk w n0 op n nm a l c v h hv hu => put_any v u names10 zs (by decide) hz e.ht e (Nat.le_refl _) hk w n0 op n nm a l c h hv hu)
    clear hx hu hz hw hlen
    go_enter Try.func9, Try.ntmps9
    go_wp2_with (first
      | (go_at_call 14; refine CM.out.mono ?_; rintro e w1 ⟨op, n, nm, a, ln, cp, rfl, hb1, x, hxf, hxb, hxr⟩)
      | (go_at_call 17; refine (names_any _).mono ?_; rintro e w2 ⟨v, rfl, hb2, hv2⟩))
    have hb12 := hb1.trans (hb2.mono hb1.size)
    have hok : x.nok := nok_bnd x (by omega)
    have hK : K x ≤ 100000 := Nat.le_trans (K_bnd x) (by omega)
    have hal := (Below.refl w2.heap.size w2).alloc (Nat.le_refl _) (.cells #[.int .i64 op, .int .i64 n, .string nm, .slice a ln cp] 29)
    have hB := Box4.new w2 (.int .i64 op) (.int .i64 n) (.string nm) (.slice a ln cp) 29
    have hrA := (hxr.pbelow hb2).pbelow hal
    have hvA := hv2.below hal
    have hbA : Below w.heap.size w _ := hb12.trans (hal.mono hb12.size)
    have hneA := w2.heap.size
    generalize w2.alloc (.cells #[.int .i64 op, .int .i64 n, .string nm, .slice a ln cp] 29) = wA at hal hB hrA hvA hbA ⊢
    have HRA := Lib.hid hrA
    have HVA := Lib.hid hvA
    have HBA := Lib.hid hbA
    have HB := Lib.hid hB
    have HOK := Lib.hid hok
    have HPK := Lib.hid (nok_put (env names10 zs) x hok)
    have HPE := Lib.hid (ev_put (env names10 zs) x)
    have HKP := Lib.hid (K_put (env names10 zs) x)
    have HUA := Lib.hid (HU.out.below hbA)
    obtain ⟨r, hr⟩ : ∃ r, ev (env names10 zs) x = r := ⟨_, rfl⟩
    rw [hr] at HPE
    have C1 := CE.out wA _ op n nm a ln cp x HRA.out HOK.out (by omega) v HVA.out HUA.out
    rw [hr] at C1
    have HC1 := Lib.hid C1
    clear hb12 hal hrA hvA hbA hB hok hr C1 hb1 hb2 hv2 hxr hxf
    go_wp2_with (first
      | (go_at_call 15; refine HC1.out.mono ?_; rintro e w3 ⟨rfl, hb3⟩; have b3 := HB.out.below hb3; obtain ⟨y0, y1, y2, y3, _, _, _, _⟩ := b3))
    refine (CP.out x hK w3 _ op n nm a ln cp v (HRA.out.pbelow hb3) (HVA.out.below hb3) (HUA.out.below hb3)).mono ?_
    rintro e w4 ⟨op2, n2, nm2, a2, ln2, cp2, rfl, hb4, hr4⟩
    have C2 := CN.out w4 _ op2 n2 nm2 a2 ln2 cp2 _ hr4 HPK.out (by rw [HKP.out]; omega)
    rw [show ev (env [] []) (putE (env names10 zs) x) = r from HPE.out] at C2
    have HC2 := Lib.hid C2
    clear C2 hr4 y0 y1 y2 y3
    go_wp2_with (first
      | (go_at_call 15; refine HC2.out.mono ?_; rintro e w5 ⟨rfl, hb5⟩)
      | (go_at_call 12; refine (awake_any _).mono ?_; rintro e w' ⟨rfl, rfl⟩))
    go_ret
    have h1 := HBA.out.size
    have h2 := hb3.size
    have h3 := hb4.size
    exact ⟨by simp, HBA.out.trans (((hb3.trans (hb4.mono h2)).trans (hb5.mono (by omega))).mono h1)⟩

theorem own : ownKnob Try.prog.godebug = none := by kernel_rfl
theorem laidOut : laidOutB Try.prog = true := by kernel_rfl
theorem bytes_of_trod {H : Type} {enc : TypeId × Value → H} {W : World} {fuel : Nat} {a : Option Addr} {len cap : Nat} {x : DataW H × List MemPlace}
    (hf : DataW.trod enc Try.prog W 0 (fun _ => true) true fuel 26 (Value.slice a len cap).cells.toList = some x) : ∃ xs, BytesOf W a len xs := by
  have hc5 : Try.prog.cellsOf 5 = 1 := by kernel_rfl
  rcases open_ints Try.underlying26 Try.underlying5 hc5 hf with ⟨hcs, _⟩ | ⟨ad, len', cap', zs, hcs, _, hl, hm, hz, _, hcell, hwz⟩
  · simp [Value.cells] at hcs
    obtain ⟨rfl, rfl, rfl⟩ := hcs
    exact ⟨[], rfl, by unfold maxLen; omega, fun k hk => absurd hk (by simp)⟩
  · simp [Value.cells] at hcs
    obtain ⟨rfl, rfl, rfl⟩ := hcs
    simp only [if_true] at hz
    refine ⟨(zs.take len).map Int.toNat, by simp; omega, by omega, fun k hk => ?_⟩
    simp only [List.length_map, List.length_take] at hk
    have hkz : k < zs.length := by omega
    have hb := bounds_u8 (hwz _ (List.getElem_mem hkz))
    obtain ⟨b, off, rfl, hc⟩ := ints_at hcell (by omega)
    have hck := hc k hkz
    have hg : zs.getD k 0 = zs[k] := by simp [hkz]
    have hn : ((zs[k].toNat : Nat) : Int) = zs[k] := by omega
    refine ⟨by simp; omega, b, off, rfl, block_lt_of_cell hck, ?_⟩
    rw [hck, hg, List.getElem_map, List.getElem_take, hn]
theorem ints_of_trod {H : Type} {enc : TypeId × Value → H} {W : World} {fuel : Nat} {a : Option Addr} {len cap : Nat} {x : DataW H × List MemPlace}
    (hf : DataW.trod enc Try.prog W 0 (fun _ => true) true fuel 31 (Value.slice a len cap).cells.toList = some x) : ∃ zs : List Int, IntsAt W (.slice a len cap) zs ∧ zs.length ≤ maxLen ∧ ∀ z ∈ zs, (Lit.int .i64 z).wf = true := by
  have hc5 : Try.prog.cellsOf 2 = 1 := by kernel_rfl
  rcases open_ints Try.underlying31 Try.underlying2 hc5 hf with ⟨hcs, _⟩ | ⟨ad, len', cap', zs, hcs, _, hl, hm, hz, _, hcell, hwz⟩
  · simp [Value.cells] at hcs
    obtain ⟨rfl, rfl, rfl⟩ := hcs
    exact ⟨[], ⟨_, _, rfl, fun k hk => absurd hk (by simp)⟩, by unfold maxLen; simp, fun _ h => nomatch h⟩
  · simp [Value.cells] at hcs
    obtain ⟨rfl, rfl, rfl⟩ := hcs
    simp only [if_true] at hz
    refine ⟨zs.take len, ⟨_, _, by rw [List.length_take, Nat.min_eq_left (by omega)], fun k hk => ?_⟩, by rw [List.length_take]; omega, fun z hz2 => hwz z (List.mem_of_mem_take hz2)⟩
    rw [List.length_take] at hk
    have hkz : k < zs.length := by omega
    obtain ⟨b, off, rfl, hc⟩ := ints_at hcell (by omega)
    have hck := hc k hkz
    have hg : zs.getD k 0 = zs[k] := by simp [hkz]
    refine ⟨b, off, rfl, block_lt_of_cell hck, ?_⟩
    rw [hck, hg, List.getElem_take]

set_option maxRecDepth 100000 in
theorem evalSubstitutes_lifted (os : Os) (started : os.Started) (H : Type) (enc : TypeId × Value → H) :
    ReturnsInHanded {} Try.checked os 9 .any (Rows.evalSubstitutesSpec.pre6 enc Try.prog Try.f9 Rows.evalSubstitutesRow.domain false) (Rows.evalSubstitutesSpec.post enc Try.prog Try.f9 false true false false) := by
  refine returnsInHanded_of_change (C := Try.checked) own started (by kernel_rfl) Try.func9
    (ChangeSpec.witness6 (enc := enc) (C := Try.checked) false ⟨#[], #[.slice none 0 0, .slice none 0 0], []⟩ 8 (by kernel_rfl) (by kernel_rfl) (by kernel_rfl) (by kernel_rfl)) ?_
  intro W base args ds gs before hval0 hW hcnd _
  have hval : ∀ (j : Nat) t v, Try.f9.params[j]? = some t → args[j]? = some v → Value.okWide Try.prog W .any base t v := hval0
  have hW' := hW
  obtain ⟨p, q, hA0, hV, rfl, hfz, hnd⟩ := hW
  have hA : DataW.TrodAll enc Try.prog W 0 (fun _ => true) true Try.f9.params.toList args.toList ds p := hA0
  rw [Try.params9] at hA hval
  obtain ⟨v0, v1, d0, d1, p0, p1, rfl, rfl, rfl, h0, h1⟩ := trodAll_two hA
  obtain ⟨rfl, rfl⟩ := trodVars_none hV
  obtain ⟨a0, len0, cap0, rfl⟩ := okWide_slice Try.underlying26 (hval 0 26 v0 rfl rfl)
  have k0 := h0
  have lt0 : ∀ x ∈ p0, x.block < W.heap.size := fun x hx => hW'.lt x (by simp [hx])
  obtain ⟨fuel0, hf0⟩ := h0
  obtain ⟨xs0, hxs0⟩ := bytes_of_trod hf0
  obtain ⟨a1, len1, cap1, rfl⟩ := okWide_slice Try.underlying31 (hval 1 31 v1 rfl rfl)
  have k1 := h1
  have lt1 : ∀ x ∈ p1, x.block < W.heap.size := fun x hx => hW'.lt x (by simp [hx])
  obtain ⟨fuel1, hf1⟩ := h1
  obtain ⟨zs1, hz1, hz2, hz3⟩ := ints_of_trod hf1
  clear hA0 hval0
  simp only [List.append_nil] at hW'
  refine (evalSubstitutes_any a0 len0 cap0 xs0 _ zs1 W hxs0 hz1 hz2 hz3).mono fun e W' ⟨he, hb⟩ => ?_
  subst he
  exact ⟨_, rfl, _, _, _, [], _, [], hW', trodAll_mk1 (shut_bool Try.underlying4 _), (trodAll_cons_mk (Below.trod laidOut (by kernel_rfl) (of_decide_eq_true (by kernel_rfl)) k0 hb lt0) (trodAll_cons_mk (Below.trod laidOut (by kernel_rfl) (of_decide_eq_true (by kernel_rfl)) k1 hb lt1) trodAll_mk0)), rfl, hb.frame _, fun h => by cases h⟩

theorem evalSubstitutes_holds : Rows.EvalSubstitutesSaid :=
  OpenClaim.holds_of_wide 9 Try.f9 rfl rfl rfl rfl rfl rfl rfl ⟨rfl, rfl, rfl, rfl, rfl⟩ rfl rfl rfl rfl rfl (by kernel_rfl) Try.func9 (by kernel_rfl)
    (of_decide_eq_true (by kernel_rfl)) (by unfold Func.isWrapper; first | (rw [if_pos (by decide +kernel)]; kernel_rfl) | (rw [if_neg (by decide +kernel)]; exact ⟨rfl, rfl⟩))
    (fun os started H enc _ => evalSubstitutes_lifted os started H enc)
#print axioms evalSubstitutes_holds
end Go.Proofs.Ytiemibngfckgdaa
