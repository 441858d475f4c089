/-
  TokenSigns returns true for every slice of bytes: signs that are separated by spaces are scanned as themselves; no condition beyond what the row lists.
-/
import Derived.Test.YtjinbmemflgkoaaDoorTokSame
import Derived.Test.YtjinbmemflgkoaaDoorTokLaws3
import Derived.Test.YtjinbmemflgkoaaDoorRefA
namespace Go.Proofs.YtjinbmemflgkoaaDoor
open Go.ChangeShapes Go.WideShapes Go.ChangeAt Go.WideMaps Go.WideElems Go.RowKit
open Go.ChangeMaps (setBlock shut_map_nil open_string shut_string keptBut_setBlock frozen?_setBlock heap_setBlock_same)
open Tok

namespace Tok
/-- A slice of bytes: its numbers, the cells known. -/
def BytesAt (W : World) (A : Option Addr) (len : Nat) (xs : List Nat) : Prop :=
  xs.length = len ∧ len ≤ maxLen ∧ ∀ k, (h : k < xs.length) → xs[k] ≤ 255 ∧ ∃ b off, A = some ⟨b, off, none⟩ ∧ b < W.heap.size ∧ W.cell? ⟨b, off + k, none⟩ = some (.int .u8 (xs[k] : Nat))
theorem BytesAt.below {W W' : World} {A : Option Addr} {len : Nat} {xs : List Nat} (h : BytesAt W A len xs) (hb : Below W.heap.size W W') : BytesAt W' A len xs := by
  refine ⟨h.1, h.2.1, fun k hk => ?_⟩
  obtain ⟨h1, b, off, ha, hlt, hc⟩ := h.2.2 k hk
  exact ⟨h1, b, off, ha, Nat.lt_of_lt_of_le hlt hb.size, (hb.cell (p := ⟨b, off + k, none⟩) hlt).trans hc⟩
theorem bytes_at_of {H : Type} {enc : TypeId × Value → H} {W : World} {fuel : Nat} {a : Option Addr} {len cap : Nat} {x : DataW H × List MemPlace}
    (hf : DataW.trod enc Tryd.prog W 0 (fun _ => true) true fuel 32 (Value.slice a len cap).cells.toList = some x) : ∃ xs, BytesAt W a len xs := by
  have hc5 : Tryd.prog.cellsOf 5 = 1 := by kernel_rfl
  rcases open_ints Tryd.underlying32 Tryd.underlying5 hc5 hf with ⟨hcs, _⟩ | ⟨ad, len', cap', zs, hcs, _, hl, hm, hz, _, hcell, hwz⟩
  · simp [Value.cells] at hcs
    obtain ⟨rfl, rfl, rfl⟩ := hcs
    exact ⟨[], rfl, by unfold maxLen; omega, fun k hk => absurd hk (by simp)⟩
  · simp [Value.cells] at hcs
    obtain ⟨rfl, rfl, rfl⟩ := hcs
    simp only [if_true] at hz
    refine ⟨(zs.take len).map Int.toNat, by simp; omega, by omega, fun k hk => ?_⟩
    simp only [List.length_map, List.length_take] at hk
    have hkz : k < zs.length := by omega
    have hb := bounds_u8 (hwz _ (List.getElem_mem hkz))
    obtain ⟨b, off, rfl, hc⟩ := ints_at hcell (by omega)
    have hck := hc k hkz
    have hg : zs.getD k 0 = zs[k] := by simp [hkz]
    have hn : ((zs[k].toNat : Nat) : Int) = zs[k] := by omega
    refine ⟨by simp; omega, b, off, rfl, block_lt_of_cell hck, ?_⟩
    rw [hck, hg, List.getElem_map, List.getElem_take, hn]
theorem signs_len : signs.length = 23 := rfl
/-- The sign that a byte chooses. -/
def pick (x : Nat) : Bs := signs[x % 23]'(by rw [signs_len]; omega)
theorem pick_mem (x : Nat) : pick x ∈ signs := List.getElem_mem _
theorem signText_snoc (gs : List Bs) (g : Bs) : signText (gs ++ [g]) = signText gs ++ (g ++ [32]) := by simp [signText]
theorem signText_le : ∀ gs : List Bs, (∀ g ∈ gs, g ∈ signs) → (signText gs).length ≤ 3 * gs.length
  | [], _ => by simp [signText]
  | g :: t, h => by
    have h0 : ∀ g ∈ signs, g.length ≤ 2 := by decide
    have h1 := h0 g (h g (by simp))
    have h2 := signText_le t (fun x hx => h x (by simp [hx]))
    have e : signText (g :: t) = (g ++ [32]) ++ signText t := by simp [signText]
    rw [e, List.length_append, List.length_append, List.length_singleton, List.length_cons]
    omega
def SignsTo (xs : List Nat) (n : Nat) (iv sv : Value) : Prop := ∃ (k : Nat) (r : ByteArray), k ≤ n ∧ iv = .int .i64 k ∧ sv = .string r ∧ r.data.toList = signText ((xs.take k).map pick)
end Tok

theorem laidOut : laidOutB Tryd.prog = true := by kernel_rfl

set_option maxRecDepth 100000 in
set_option maxHeartbeats 2000000 in
theorem tokenSigns_any (A : Option Addr) (len cap : Nat) (xs : List Nat) (w : World) (hv : Vars w) (hx : BytesAt w A len xs) : Calls Tryd.prog 8 #[.slice A len cap] w fun e w' => e = .returned (.bool true) ∧ Below w.heap.size w w' := by
  have HV := Lib.hid hv
  have hlen := hx.2.1
  unfold maxLen at hlen
  have HX := Lib.hid hx
  clear hv hx
  by_cases h1 : len ≤ 200
  · go_enter Tryd.func8, Tryd.ntmps8
    go_wp2_with fail
    have hst : IsStrs (w.alloc (.cells #[.string ⟨#[124, 124]⟩, .string ⟨#[38, 38]⟩, .string ⟨#[61, 61]⟩, .string ⟨#[33, 61]⟩, .string ⟨#[60, 61]⟩, .string ⟨#[62, 61]⟩, .string ⟨#[60]⟩, .string ⟨#[62]⟩, .string ⟨#[43]⟩, .string ⟨#[45]⟩, .string ⟨#[42]⟩, .string ⟨#[47]⟩, .string ⟨#[37]⟩, .string ⟨#[33]⟩, .string ⟨#[61]⟩, .string ⟨#[40]⟩, .string ⟨#[41]⟩, .string ⟨#[91]⟩, .string ⟨#[93]⟩, .string ⟨#[123]⟩, .string ⟨#[125]⟩, .string ⟨#[44]⟩, .string ⟨#[59]⟩] 9)) w.heap.size signs := IsStrs.of_new _ signs _ _ rfl
    have hb1 : Below w.heap.size w (w.alloc (.cells #[.string ⟨#[124, 124]⟩, .string ⟨#[38, 38]⟩, .string ⟨#[61, 61]⟩, .string ⟨#[33, 61]⟩, .string ⟨#[60, 61]⟩, .string ⟨#[62, 61]⟩, .string ⟨#[60]⟩, .string ⟨#[62]⟩, .string ⟨#[43]⟩, .string ⟨#[45]⟩, .string ⟨#[42]⟩, .string ⟨#[47]⟩, .string ⟨#[37]⟩, .string ⟨#[33]⟩, .string ⟨#[61]⟩, .string ⟨#[40]⟩, .string ⟨#[41]⟩, .string ⟨#[91]⟩, .string ⟨#[93]⟩, .string ⟨#[123]⟩, .string ⟨#[125]⟩, .string ⟨#[44]⟩, .string ⟨#[59]⟩] 9)) := (Below.refl _ _).alloc (Nat.le_refl _) _
    generalize w.alloc (.cells #[.string ⟨#[124, 124]⟩, .string ⟨#[38, 38]⟩, .string ⟨#[61, 61]⟩, .string ⟨#[33, 61]⟩, .string ⟨#[60, 61]⟩, .string ⟨#[62, 61]⟩, .string ⟨#[60]⟩, .string ⟨#[62]⟩, .string ⟨#[43]⟩, .string ⟨#[45]⟩, .string ⟨#[42]⟩, .string ⟨#[47]⟩, .string ⟨#[37]⟩, .string ⟨#[33]⟩, .string ⟨#[61]⟩, .string ⟨#[40]⟩, .string ⟨#[41]⟩, .string ⟨#[91]⟩, .string ⟨#[93]⟩, .string ⟨#[123]⟩, .string ⟨#[125]⟩, .string ⟨#[44]⟩, .string ⟨#[59]⟩] 9) = w1 at hst hb1 ⊢
    have HV1 := Lib.hid (HV.out.below hb1)
    have HX1 := Lib.hid (HX.out.below hb1)
    have HS := Lib.hid hst
    have HB1 := Lib.hid hb1
    clear hst hb1
    generalize w.heap.size = g at HS ⊢
    go_loop [5, 4] (fun iv sv => SignsTo xs len iv sv) (fun iv _ => len - (intOf iv).toNat)
    case atStart => exact ⟨0, ⟨#[]⟩, by omega, rfl, rfl, rfl⟩
    case round =>
      obtain ⟨k, r, hk, rfl, rfl, hr⟩ := hrel
      have HR := Lib.hid hr
      clear hr
      by_cases hlt : k < len
      · have hkx : k < xs.length := by have := HX1.out.1; omega
        obtain ⟨hx255, b, off, rfl, hbl, hc⟩ := HX1.out.2.2 k hkx
        have hq : xs[k] % 23 < signs.length := by rw [signs_len]; omega
        have hcs := HS.out.2 (xs[k] % 23) hq
        have hle := signText_le ((xs.take k).map pick) (fun g hg => by
          obtain ⟨x, _, rfl⟩ := List.mem_map.1 hg
          exact pick_mem x)
        have hrs := size_list r
        rw [← HR.out, hrs, List.length_map, List.length_take] at hle
        have hsn : signText ((xs.take (k + 1)).map pick) = signText ((xs.take k).map pick) ++ (pick xs[k] ++ [32]) := by
          rw [List.take_succ_eq_append_getElem hkx, List.map_append, List.map_singleton, signText_snoc]
        have hy2 : ∀ g ∈ signs, g.length ≤ 2 := by decide
        have hyl := hy2 _ (pick_mem xs[k])
        have hps : signs[xs[k] % 23] = pick xs[k] := rfl
        rw [hps] at hcs
        have hys : (⟨(pick xs[k]).toArray⟩ : ByteArray).size = (pick xs[k]).length := by show (pick xs[k]).toArray.size = _; simp
        have HST := Lib.hid (show signText ((xs.take (k + 1)).map pick) = ((r ++ ⟨(pick xs[k]).toArray⟩) ++ ⟨#[32]⟩).data.toList by
          rw [append_data, append_data, HR.out, hsn, List.append_assoc])
        have hsum : r.size + (⟨(pick xs[k]).toArray⟩ : ByteArray).size ≤ 700 := by omega
        clear hle hrs hsn hy2 hyl hps hys
        generalize (⟨(pick xs[k]).toArray⟩ : ByteArray) = y at *
        generalize xs[k] = x at *
        obtain ⟨q, hqd⟩ : ∃ q, q = x % 23 := ⟨_, rfl⟩
        rw [← hqd] at hcs hq
        have hrem : (x : Int) % 23 = (q : Int) := by omega
        have hrem2 : (x : Int).tmod 23 = (q : Int) := by rw [Int.tmod_eq_emod_of_nonneg (by omega)]; omega
        have hq23 : q < 23 := by omega
        clear hqd hq hkx
        have hk0 : (0 : Int) ≤ k := by omega
        go_wp2_with fail
        go_round
        case rel => exact ⟨k + 1, _, by omega, by go_num, rfl, HST.out.symm⟩
        case measure => simp [intOf]; omega
      · have hxl : xs.length = len := HX1.out.1
        have hmem : ∀ g ∈ xs.map pick, g ∈ signs := fun g hg => by
          obtain ⟨x, _, rfl⟩ := List.mem_map.1 hg
          exact pick_mem x
        have hle := signText_le (xs.map pick) hmem
        rw [List.length_map, hxl] at hle
        have hrd : r.data.toList = signText (xs.map pick) := by rw [HR.out, List.take_of_length_le (by omega)]
        have hsc : scan (signText (xs.map pick)) = ((xs.map pick).map (fun g => ((4, g, 1) : T)), 0, 0) := by
          rw [scan_run _ (by omega), run_signs (xs.map pick) [] hmem]
          simp
        have hrs := size_list r
        rw [hrd] at hrs
        have c2 := Lib.hid (scan_at r w1 hrd hsc HV1.out (by unfold maxLen; omega))
        clear hrd hsc hrs hmem hle hxl hk
        go_wp2_with fail
        refine c2.out.mono ?_
        rintro e w2 ⟨v2, rfl, ho2, hb2⟩
        have HV2 := Lib.hid (HV1.out.below hb2)
        have HT2 := Lib.hid (Toks.of_own ho2)
        have HX2 := Lib.hid (HX1.out.below hb2)
        have HS2 := Lib.hid (HS.out.below hb2)
        clear ho2
        obtain ⟨ad2, cap2, e2, _⟩ := HT2.out
        rw [List.length_map, List.length_map, HX2.out.1] at e2
        have HE2 := Lib.hid e2
        rw [e2]
        clear e2
        go_wp2_with fail
        go_loopw [9] (fun iv wr => ∃ k : Nat, k ≤ len ∧ iv = .int .i64 k ∧ Below w2.heap.size w2 wr) (fun iv _ => len - (intOf iv).toNat)
        case atStart => exact ⟨0, by omega, rfl, Below.refl _ _⟩
        case round =>
          obtain ⟨k, hk, rfl, hbel⟩ := hrel
          by_cases hlt : k < len
          · have hkx : k < xs.length := by have := HX2.out.1; omega
            have hkm : k < ((xs.map pick).map (fun g => ((4, g, 1) : T))).length := by rw [List.length_map, List.length_map]; exact hkx
            obtain ⟨hx255, b, off, rfl, hbl, hc⟩ := HX2.out.2.2 k hkx
            have hq : xs[k] % 23 < signs.length := by rw [signs_len]; omega
            have hcs := HS2.out.2 (xs[k] % 23) hq
            have hps : signs[xs[k] % 23] = pick xs[k] := rfl
            rw [hps] at hcs
            obtain ⟨g2, c2', e2, hg2, q0, q1, q2⟩ := Toks.at_ HT2.out k hkm
            rw [List.getElem_map, List.getElem_map] at q0 q1
            have i2 := HE2.out.symm.trans e2
            obtain rfl := (Value.slice.inj i2).1
            have hgs := HS2.out.1
            have f0 := (hbel.cell (p := ⟨g2, k * 3, none⟩) hg2).trans q0
            have f1 := (hbel.cell (p := ⟨g2, k * 3 + 1, none⟩) hg2).trans q1
            have d0 := (hbel.cell (p := ⟨b, off + k, none⟩) hbl).trans hc
            have d1 := (hbel.cell (p := ⟨g, xs[k] % 23, none⟩) hgs).trans hcs
            clear q0 q1 q2 i2 e2 hps hcs hc
            simp only at f0 f1
            generalize (⟨(pick xs[k]).toArray⟩ : ByteArray) = y at *
            generalize xs[k] = x at *
            obtain ⟨q, hqd⟩ : ∃ q, q = x % 23 := ⟨_, rfl⟩
            rw [← hqd] at d1
            have hrem : (x : Int) % 23 = (q : Int) := by omega
            have hrem2 : (x : Int).tmod 23 = (q : Int) := by rw [Int.tmod_eq_emod_of_nonneg (by omega)]; omega
            have hq23 : q < 23 := by omega
            clear hqd hq hkx hkm
            have hk0 : (0 : Int) ≤ k := by omega
            go_wp2_with fail
            go_quiet (fail)
            go_wp2_with fail
            go_roundw
            case rel => exact ⟨k + 1, by omega, by go_num, below_drewN hbel _⟩
            case measure => simp [intOf]; omega
          · have HV3 := Lib.hid (HV2.out.below hbel)
            go_wp2_with (go_at_call 14; refine (awake_any _ HV3.out).mono ?_; rintro e w4 ⟨rfl, hb4⟩)
            go_ret
            exact ⟨ret_bool rfl, below_trans (below_trans (below_trans HB1.out hb2) hbel) hb4⟩
  · go_enter Tryd.func8, Tryd.ntmps8
    go_wp2_with fail
    go_ret
    exact ⟨ret_bool rfl, Below.refl _ _⟩

set_option maxRecDepth 100000 in
theorem tokenSigns_lifted (os : Os) (started : os.Started) (H : Type) (enc : TypeId × Value → H) :
    ReturnsInHanded {} Tryd.checked os 8 .any (fun w args => (Rows.tokenSignsSpec.pre enc Tryd.prog Tryd.f8 [] false w args ∧ laidMetH Tryd.prog Rows.tokenSignsRow.laid w) ∧ sizedMet enc Tryd.prog Tryd.f8 (OpenSpec.ofChange Rows.tokenSignsSpec) false w args)
      (Rows.tokenSignsSpec.post enc Tryd.prog Tryd.f8 false true false false) := by
  refine returnsInHanded_of_change_and (C := Tryd.checked) (X := fun w _ => laidMetH Tryd.prog Rows.tokenSignsRow.laid w) (fun _ _ _ hh h => h.of_heap hh) own started (by kernel_rfl) Tryd.func8
    (ChangeSpec.witness_shaped (enc := enc) (C := Tryd.checked) (os := os) (X := fun w _ => laidMetH Tryd.prog Rows.tokenSignsRow.laid w) false (World.doorLaid Tryd.prog 400 os) #[.slice none 0 0] 8 rfl (World.shaped_of_RefB (by kernel_rfl) (by kernel_rfl)) (by kernel_rfl) (by kernel_rfl) (by kernel_rfl) (door_met os _)) ?_
  intro W base args ds gs before hval0 hW _ _ hL _
  have hval : ∀ (j : Nat) t v, Tryd.f8.params[j]? = some t → args[j]? = some v → Value.okWide Tryd.prog W .any base t v := hval0
  have hW' := hW
  obtain ⟨p, q, hA0, hV, rfl, hfz, hnd⟩ := hW
  have hA : DataW.TrodAll enc Tryd.prog W 0 (fun _ => true) true Tryd.f8.params.toList args.toList ds p := hA0
  rw [Tryd.params8] at hA hval
  obtain ⟨v0, d0, rfl, rfl, h0⟩ := trodAll_one hA
  obtain ⟨rfl, rfl⟩ := trodVars_none hV
  obtain ⟨a0, len0, cap0, rfl⟩ := okWide_slice Tryd.underlying32 (hval 0 32 v0 rfl rfl)
  have k0 := h0
  have lt0 : ∀ x ∈ p, x.block < W.heap.size := fun x hx => hW'.lt x (by simp [hx])
  obtain ⟨fuel0, hf0⟩ := h0
  obtain ⟨xs0, hxs0⟩ : ∃ xs, BytesAt W a0 len0 xs := bytes_at_of hf0
  clear hA0 hval0
  simp only [List.append_nil] at hW'
  refine (tokenSigns_any a0 len0 cap0 xs0 W (vars_of hL) hxs0).mono fun e W' ⟨he, hb⟩ => ?_
  subst he
  exact ⟨_, rfl, _, _, _, [], _, [], hW', trodAll_mk1 (shut_bool Tryd.underlying4 _), (trodAll_cons_mk (Below.trod laidOut (by kernel_rfl) (of_decide_eq_true (by kernel_rfl)) k0 hb lt0) trodAll_mk0), rfl, hb.frame _, fun h => by cases h⟩

theorem tokenSigns_holds : Rows.TokenSignsSaid :=
  OpenClaim.holds_of_wide 8 Tryd.f8 rfl rfl rfl rfl rfl rfl rfl ⟨rfl, rfl, rfl, rfl, rfl⟩ rfl rfl rfl rfl rfl (by kernel_rfl) Tryd.func8 (by kernel_rfl)
    (of_decide_eq_true (by kernel_rfl)) (by unfold Func.isWrapper; first | (rw [if_pos (by decide +kernel)]; kernel_rfl) | (rw [if_neg (by decide +kernel)]; exact ⟨rfl, rfl⟩))
    (fun os started H enc _ => tokenSigns_lifted os started H enc)
theorem tokenSigns_card : Rows.TokenSignsCardSaid :=
  Claim7.holds_tied_plain_at .later [] Rows.tokenSignsCard.laidKinds true Rows.tokenSignsCard.stood.harness true
    tokenSigns_holds (fun _ h => by cases h) (by kernel_rfl) (fun _ h => by cases h) tokenSigns_row_tie rfl ⟨rfl, rfl⟩ (by kernel_rfl) rfl
    (fun f fn hf hfn => by
      obtain rfl : f = 8 := Option.some.inj ((show Tryd.prog.funcNamed Rows.tokenSignsRow.func = some 8 by kernel_rfl).symm.trans hf) |>.symm
      obtain rfl : fn = Tryd.f8 := (Option.some.inj (Tryd.func8.symm.trans hfn)).symm
      exact ⟨by kernel_rfl, fun j t ht => by
        rw [Tryd.params8] at ht
        have hm : t ∈ [32] := by simpa using Array.mem_of_getElem? ht
        have hall : ([32].all fun u => !Tryd.prog.wantsStandIn u) = true := by kernel_rfl
        exact (show Tryd.prog.wantsStandIn t = false by simpa using List.all_eq_true.1 hall t hm)⟩)
    (by kernel_rfl)
end Go.Proofs.YtjinbmemflgkoaaDoor
