/-
  package eval's Expr over an expression in new blocks: its value as the document gives it.
-/
import Derived.Test.YtiemibngfckgdaaVlD
import Derived.Test.YtiemibngfckgdaaVlE
import Derived.Maps.OwnOps
import Derived.Deep.LoopGhost
namespace Go.Proofs.Ytiemibngfckgdaa
open Go.RowKit
open Go.Maps
open Par
open Vl

namespace Vl
theorem wpList_look_ptr {P : Program} (w : World) {ops : Array Oper} {rest : List Oper} {o : Oper} {a : Act} {Q : Exit → Act → World → Prop} (hg : o.guard = none) (m x : Operand) (t : TypeId) (hop : o.op = Op.lookup t m x true)
    (mv key v : Value) (hm : a.eval m = mv) (hx : a.eval x = key) (hrun : (Instr.lookup t mv key true).run P w = .ok v w) (hK : wpList P ops Q rest (a.put o.dst v) w) : wpList P ops Q (o :: rest) a w := by
  refine wpList_plain hg fun K' hK' => ?_
  unfold Oper.wp
  simp [execOp, hop, hm, hx, hrun, Result.andThen]
  exact hK' _ _ hK
theorem wpList_store_ptr {P : Program} (w : World) {ops : Array Oper} {rest : List Oper} {o : Oper} {a : Act} {Q : Exit → Act → World → Prop} (hg : o.guard = none) (m x v : Operand) (t : TypeId) (hop : o.op = Op.mapUpdate t m x v)
    (mv key u : Value) (hm : a.eval m = mv) (hx : a.eval x = key) (hv : a.eval v = u) (R : World → Prop) (hrun : ∃ w', (Instr.mapUpdate t mv key u).run P w = .ok () w' ∧ R w')
    (hK : ∀ w', R w' → wpList P ops Q rest (a.put o.dst undef) w') : wpList P ops Q (o :: rest) a w := by
  refine wpList_plain hg fun K' hK' => ?_
  obtain ⟨w', hrun, hR⟩ := hrun
  unfold Oper.wp
  simp [execOp, hop, hm, hx, hv, hrun, Result.andThen]
  exact hK' _ _ (hK w' hR)
theorem Try.infoVi : (Try.prog.info? 59).map (fun i => (i.zero, i.size, i.bytes)) = some (some (.agg #[.pointer none, .int .i64 0, .int .i64 0, .int .i64 0]), 4, 32) := by kernel_rfl
theorem Try.infoEx : (Try.prog.info? 29).map (fun i => (i.zero, i.size, i.bytes)) = some (some (.agg #[.int .i64 0, .int .i64 0, .string ⟨#[]⟩, .slice none 0 0]), 4, 56) := by kernel_rfl
theorem zeroRes (w : World) : (zeroValue 55).run Try.prog w = .ok (.agg #[.int .i64 0, .bool false]) w := by kernel_rfl
theorem lookR {w : World} {b : Nat} {L : List (Addr × Value)} (h : MapR.At w b L) (a : Addr) (hs : ∀ p ∈ L, (sameAddr a p.1).run Try.prog w = .ok (decide (p.1 = a)) w) :
    (Instr.lookup 56 (.map (some b)) (.pointer (some a)) true).run Try.prog w = .ok (.tuple #[(MapR.get L a).getD (.agg #[.int .i64 0, .bool false]), .bool (MapR.get L a).isSome]) w := by
  obtain ⟨i0, hi, _, hz1, _⟩ := info_parts Try.infoEx
  exact MapR.run_look Try.underlying56 Try.underlying53 hi (by rw [hz1]; decide) (zeroRes w) h a hs
theorem storeR {w : World} {b : Nat} {L : List (Addr × Value)} (h : MapR.At w b L) (a : Addr) (c : Value) (hs : ∀ p ∈ L, (sameAddr a p.1).run Try.prog w = .ok (decide (p.1 = a)) w) :
    ∃ w', (Instr.mapUpdate 56 (.map (some b)) (.pointer (some a)) c).run Try.prog w = .ok () w' ∧ MapR.At w' b (MapR.put L a c) ∧ w.grownBy w' (some b) := by
  obtain ⟨i0, hi, _, hz1, _⟩ := info_parts Try.infoEx
  exact MapR.run_store Try.underlying56 Try.underlying53 hi (by rw [hz1]; decide) h a c hs
theorem MapOf.lt {w : World} {b n : Nat} {f : ByteArray → Option Int} (h : MapOf w b n f) : b < w.heap.size := by
  obtain ⟨D, h1, _⟩ := h
  exact h1.lt
theorem cell_four_new (w : World) (a b c d : Value) (t : TypeId) : ∀ j u, [a, b, c, d][j]? = some u → (w.alloc (.cells #[a, b, c, d] t)).cell? ((⟨w.heap.size, 0, none⟩ : Addr).add j) = some u := by
  intro j u hj
  match j, hj with
  | 0, hj => simp at hj; subst hj; simp [Addr.add]
  | 1, hj => simp at hj; subst hj; simp [Addr.add]
  | 2, hj => simp at hj; subst hj; simp [Addr.add]
  | 3, hj => simp at hj; subst hj; simp [Addr.add]
  | j + 4, hj => simp at hj
theorem at_box {w w2 : World} {n0 : Nat} {op n : Int} {nm : ByteArray} {a : Option Addr} {len cap : Nat} {e : E} {t : TypeId} (h : RdE w (PF n0 w) e (.agg #[.int .i64 op, .int .i64 n, .string nm, .slice a len cap])) (hok : e.nok)
    (b : Below (w.alloc (.cells #[.int .i64 op, .int .i64 n, .string nm, .slice a len cap] t)).heap.size (w.alloc (.cells #[.int .i64 op, .int .i64 n, .string nm, .slice a len cap] t)) w2) : AtE w2 ⟨w.heap.size, 0, none⟩ e := by
  refine AtE.below ?_ b
  refine ⟨n0, w.heap.size, 0, _, _, _, _, rfl, plain_new rfl, ?_, ?_, ?_, ?_, h.pbelow ((Below.refl _ _).alloc (Nat.le_refl _) _), hok⟩
  all_goals
    rw [World.cell?_alloc_at _ _ _ _ (by simp)]
    rfl
theorem lm_start {w2 w3 : World} {p : Addr} {e : E} {R : List (Addr × Value)} {t : TypeId} (ht : t = 59) (hM : MapR.At w3 w2.heap.size R) (hg : (w2.alloc (.map #[] 0)).grownBy w3 (some w2.heap.size)) :
    LM w2 R [(p, e, [])] (.slice (some ⟨w3.heap.size, 0, none⟩) 1 1) (w3.alloc (.cells #[.pointer (some p), .int .i64 0, .int .i64 0, .int .i64 0] t)) := by
  subst ht
  have hs : w2.heap.size + 1 ≤ w3.heap.size := by have := hg.size; simp at this; exact this
  refine ⟨⟨rfl, .inr ⟨w3.heap.size, 1, _, rfl, hs, heap_alloc_new w3 _, Nat.le_refl _, by unfold maxLen; omega, rfl, rfl⟩⟩, hM.below ((Below.refl _ _).alloc (Nat.le_refl _) _), ?_⟩
  have h1 : Below w2.heap.size w2 w3 := ⟨hg.os, hg.tape, hg.output, by omega, fun i hi => (hg.block i (by simp; omega) (by intro e; cases e; omega)).trans (Below.heap_alloc _ _ _ hi)⟩
  exact h1.trans ((Below.refl _ _).alloc (by omega) _)
end Vl

theorem add_calls {w2 : World} {R : List (Addr × Value)} {st : List Vs} {a : Addr} {e : E} {vs : List Int} {g cap : Nat} {wr : World} (h : LM w2 R (st ++ [(a, e, vs)]) (.slice (some ⟨g, 0, none⟩) (st.length + 1) cap) wr) (hv : vs.length < 2) (v : Int) :
    Calls Try.prog 27 #[.pointer (some ⟨g, st.length * 4, none⟩), .int .i64 v] wr fun x w' => x = .returned (.tuple #[]) ∧ LM w2 R (st ++ [(a, e, vs ++ [v])]) (.slice (some ⟨g, 0, none⟩) (st.length + 1) cap) w' := by
  obtain ⟨g', cap', hsv, _, _, _, hf, ⟨_, c1, c2, c3⟩, _⟩ := h.top
  cases hsv
  refine (addv_any wr g (st.length * 4) vs.length v _ _ hv c1 c2 c3 hf).mono ?_
  rintro x w' ⟨rfl, w1, hb, rfl⟩
  exact ⟨rfl, h.add hv v hb⟩

namespace Vl
end Vl

set_option maxHeartbeats 8000000 in
set_option maxRecDepth 100000 in
theorem exprV_any (w : World) (n0 : Nat) (op n : Int) (nm : ByteArray) (a : Option Addr) (len cap : Nat) (e : E) (h : RdE w (PF n0 w) e (.agg #[.int .i64 op, .int .i64 n, .string nm, .slice a len cap])) (hok : e.nok) (hK : K e ≤ 1000000)
    (v u : Value) (ns : List ByteArray) (zs : List Int) (hv : StrsAt w v ns) (hu : IntsAt w u zs) (hl : ns.length ≤ 1000) (hz : zs.length ≤ maxLen) (hw : ∀ z ∈ zs, (Lit.int .i64 z).wf = true) (hs : ∀ s ∈ ns, s.size ≤ maxLen) :
    Calls Try.prog 15 #[.agg #[.int .i64 op, .int .i64 n, .string nm, .slice a len cap], v, u] w fun x w' => x = .returned (.tuple #[.int .i64 ((ev (env ns zs) e).getD 0), .bool (ev (env ns zs) e).isSome]) ∧ Below w.heap.size w w' := by
  have hmm := @run_makeMap Try.prog
  obtain ⟨i0, hi, hz0, hz1, hz2⟩ := info_parts Try.infoVi
  obtain ⟨f, hf⟩ : ∃ f, env ns zs = f := ⟨_, rfl⟩
  have CVa := Lib.hid (fun w hv hu => variables_any w v u ns zs hv hu hl hz hw hs)
  rw [hf] at CVa ⊢
  have HV := Lib.hid hv
  have HU := Lib.hid hu
  have HE := Lib.hid h
  have HOK := Lib.hid hok
  clear hv hu h hok hl hz hw hs hf
  go_enter Try.func15, Try.ntmps15
  go_wp2_with (go_at_call 24; refine (CVa.out _ (HV.out.below ((Below.refl _ _).alloc (Nat.le_refl _) _)) (HU.out.below ((Below.refl _ _).alloc (Nat.le_refl _) _))).mono ?_; rintro x w2 ⟨b, rfl, hb1, hb2, hm2⟩; obtain ⟨w3, hst3, hM3, hg3⟩ := storeR (MapR.At.made w2) ⟨w.heap.size, 0, none⟩ (.agg #[.int .i64 0, .bool false]) (by intro p hp; cases hp); have HG3 := Lib.hid hg3; have HM3 := Lib.hid hM3; have HB2 := Lib.hid hb2; have HM2 := Lib.hid hm2; have hb2m := hm2.lt; clear hg3 hM3 hb2 hm2)
  have HAT : Hid (AtE w2 ⟨w.heap.size, 0, none⟩ e) := Lib.hid (at_box HE.out HOK.out HB2.out)
  have HSTART := Lib.hid (lm_start (p := ⟨w.heap.size, 0, none⟩) (e := e) rfl HM3.out HG3.out)
  have HLI := Lib.hid (Li.start (f := f) HAT.out)
  clear hst3 hmm
  go_loopg [10] (meas (frs [((⟨w.heap.size, 0, none⟩ : Addr), e, ([] : List Int))])) (fun gk sv wr => ∃ R st, Li w2 f e R st ∧ st ≠ [] ∧ meas (frs st) = gk ∧ gk ≤ 1000000 ∧ LM w2 R st sv wr)
  case atStart =>
    refine ⟨_, _, HLI.out, by simp, rfl, ?_, HSTART.out⟩
    show meas [(e, [])] ≤ _
    simp only [meas, W1_new, List.map_nil, List.sum_nil]
    have := K_kids e
    omega
  case round =>
    obtain ⟨R, st, hinv, hne, hms, hgM, hmem⟩ := hrel
    rcases List.eq_nil_or_concat st with rfl | ⟨st1, x, rfl⟩
    · exact absurd rfl hne
    rw [List.concat_eq_append] at hinv hms hmem
    clear hne hi hz0 hz1 hz2
    obtain ⟨i0, hi, hz0, hz1, hz2⟩ := info_parts Try.infoVi
    obtain ⟨xa, ⟨xo, xn, xm, xl⟩, vs⟩ := x
    obtain ⟨hat, hvl, hv2⟩ := hinv.at_ _ (List.mem_append_right _ (List.mem_singleton_self _))
    simp only [kids] at hat hvl hv2
    obtain ⟨ga, oa, bb, cp, rfl, hga, d0, d1, d2, d3, hnm, hkids⟩ := hat.open_
    obtain ⟨g, cap2, rfl, hc2, hg1, hglt, hfz, ⟨c0, c1, c2, c3⟩, hmem1⟩ := hmem.top
    have hbel := hmem.bel
    have hwl := hmem.lt
    have e0 := (hbel.cell (p := ⟨ga, oa, none⟩) hga).trans d0
    have e1 := (hbel.cell (p := ⟨ga, oa + 1, none⟩) hga).trans d1
    have e2 := (hbel.cell (p := ⟨ga, oa + 2, none⟩) hga).trans d2
    have e3 := (hbel.cell (p := ⟨ga, oa + 3, none⟩) hga).trans d3
    have hgar : ga < wr.heap.size := Nat.lt_trans hga hwl
    have hmf := HM2.out.below hbel
    have hmb : st1.length + 1 ≤ 1000000 := by
      have h1 := meas_len (frs (st1 ++ [(⟨ga, oa, none⟩, E.mk xo xn xm xl, vs)]))
      rw [hms] at h1
      simp [frs] at h1
      omega
    obtain ⟨m, hme⟩ : ∃ m, m = st1.length := ⟨_, rfl⟩
    rw [← hme] at c0 c1 c2 c3 hc2 hmb ⊢
    have HME := Lib.hid hme
    clear hme
    have hw1 : IntKind.i64.wrap ((m : Int) + 1 - 1) = (m : Int) := by rw [Int.add_sub_cancel]; exact IntWalk.i64_in _ (by omega)
    have hw2 : IntKind.i64.wrap (m : Int) = (m : Int) := IntWalk.i64_in _ (by omega)
    have FIN : Hid (∀ W, Below wr.heap.size wr W → Below w.heap.size w W) := Lib.hid (fun W hb => by
      have h1 : Below w.heap.size w w2 := ((Below.refl _ _).alloc (Nat.le_refl _) _).trans (HB2.out.mono (by simp))
      have h2 : w.heap.size ≤ w2.heap.size := by have := HB2.out.size; simp at this; omega
      exact (h1.trans (hbel.mono h2)).trans (hb.mono (by omega)))
    have HINV := Lib.hid hinv
    have HMEM := Lib.hid hmem
    have HMEM1 := Lib.hid hmem1
    have HMS := Lib.hid hms
    by_cases hc : vs.length = xl.length
    · have CC := Lib.hid (complete_any wr g (m * 4) ga oa vs.length xl.length cp bb c0 c3 e3 true (by simp [hc]))
      have CV0 := fun W (hb : Below wr.heap.size wr W) => value_any W g (m * 4) ga oa b ns.length vs f xo xn xm hv2 ((hb.cell (p := ⟨g, m * 4, none⟩) hglt).trans c0) ((hb.cell (p := ⟨g, m * 4 + 1, none⟩) hglt).trans c1) ((hb.cell (p := ⟨g, m * 4 + 2, none⟩) hglt).trans c2) ((hb.cell (p := ⟨g, m * 4 + 3, none⟩) hglt).trans c3)
        ((hb.cell (p := ⟨ga, oa, none⟩) hgar).trans e0) ((hb.cell (p := ⟨ga, oa + 1, none⟩) hgar).trans e1) ((hb.cell (p := ⟨ga, oa + 2, none⟩) hgar).trans e2) hnm (hmf.below hb)
      cases hr : app f xo xn xm vs with
      | none =>
        simp only [hr, Option.getD_none, Option.isSome_none] at CV0
        have CV := Lib.hid CV0
        have HEV : Hid (ev f e = none) := Lib.hid (by rw [← hinv.run, frs_snoc]; exact run_fail hc hr)
        clear CV0 hinv hmem hmem1 hms hkids hat d0 d1 d2 d3 c0 c1 c2 c3 e0 e1 e2 e3 hmf hbel hfz hr
        go_wp2_with (first
          | (go_at_call 25; refine CC.out.mono ?_; rintro x w4 ⟨rfl, hb4⟩)
          | (go_at_call 26; refine (CV.out _ hb4).mono ?_; rintro x w5 ⟨rfl, hb5⟩))
        refine bodyPost_ret (v := .tuple #[.int .i64 0, .bool false]) ?_ rfl ⟨?_, FIN.out _ (hb4.trans (hb5.mono hb4.size))⟩
        · simp [results, Try.results15, go_sem]
        · rw [HEV.out]
          rfl
      | some z =>
        simp only [hr, Option.getD_some, Option.isSome_some] at CV0
        have CV := Lib.hid CV0
        rcases List.eq_nil_or_concat st1 with rfl | ⟨st2, y, rfl⟩
        · have HEV : Hid (ev f e = some z) := Lib.hid (by rw [← hinv.run]; exact (run_one hc).trans hr)
          obtain rfl : m = 0 := HME.out
          clear CV0 hinv hmem hmem1 hms hkids hat d0 d1 d2 d3 c0 c1 c2 c3 e0 e1 e2 e3 hmf hbel hfz hr
          go_wp2_with (first
            | (go_at_call 25; refine CC.out.mono ?_; rintro x w4 ⟨rfl, hb4⟩)
            | (go_at_call 26; refine (CV.out _ hb4).mono ?_; rintro x w5 ⟨rfl, hb5⟩))
          refine bodyPost_ret (v := .tuple #[.int .i64 z, .bool true]) ?_ rfl ⟨?_, FIN.out _ (hb4.trans (hb5.mono hb4.size))⟩
          · simp [results, Try.results15, go_sem]
          · rw [HEV.out]
            rfl
        · rw [List.concat_eq_append] at HINV HMEM HMEM1 HMS HME hinv
          obtain ⟨ya, yt, us⟩ := y
          obtain ⟨hli, hlt, hus⟩ := hinv.pop hc hr
          have HLI2 := Lib.hid hli
          have HLT : Hid _ := Lib.hid hlt
          obtain ⟨k, hk⟩ : ∃ k, k = st2.length := ⟨_, rfl⟩
          have hmk : m = k + 1 := by rw [hk, HME.out]; simp
          have HMK := Lib.hid hmk
          have LEN := Lib.hid (show (st2 ++ [(ya, yt, us)]).length = st2.length + 1 by simp)
          have hw3 : IntKind.i64.wrap ((m : Int) - 1) = (k : Int) := by rw [hmk]; exact (congrArg _ (by omega)).trans (IntWalk.i64_in (k : Int) (by omega))
          have hkm : (k : Int) < (m : Int) := by omega
          have hm1 : ¬ (m : Int) + 1 = 1 := by omega
          have hm2 : ((m : Int) + 1 == 1) = false := by rw [beq_eq_false_iff_ne]; omega
          have hm3 : ¬ m = 0 := by omega
          have ST := Lib.hid (fun W (hb : Below wr.heap.size wr W) => storeR (hmem.map.below hb) ⟨ga, oa, none⟩ (.agg #[.int .i64 z, .bool true]) (hinv.cmp (hbel.trans (hb.mono hbel.size)) hat.plain))
          have C0 := Lib.hid c0
          have HK := Lib.hid hk
          clear CV0 hinv hmem hmem1 hms hkids hat d0 d1 d2 d3 c0 c1 c2 c3 e0 e1 e2 e3 hmf hbel hfz hr hli hlt hk hmk
          go_wp2_with (first
            | (go_at_call 25; refine CC.out.mono ?_; rintro x w4 ⟨rfl, hb4⟩)
            | (go_at_call 26; refine (CV.out _ hb4).mono ?_; rintro x w5 ⟨rfl, hb5⟩; have hb45 := hb4.trans (hb5.mono hb4.size); have k0 := (hb45.cell (p := ⟨g, m * 4, none⟩) hglt).trans C0.out)
            | (at_mapUpdate; refine wpList_store_ptr _ rfl _ _ _ 56 rfl _ _ _ rfl rfl rfl _ (ST.out _ hb45) ?_; rintro w6 ⟨hM6, hg6⟩; have hm6 := (HMEM1.out.below hb45).store hg6 hM6; rw [LEN.out] at hm6; have hA := add_calls hm6 hus z; rw [← HK.out] at hA; have HA := Lib.hid hA; clear hM6 hg6 k0 hm6 hA)
            | (go_at_call 27; refine HA.out.mono ?_; rintro x w7 ⟨rfl, hm7⟩; have HM7 := Lib.hid hm7; clear hm7))
          obtain ⟨mm, hmm2⟩ : ∃ mm, mm = meas (frs (st2 ++ [(ya, yt, us ++ [z])])) := ⟨_, rfl⟩
          have hmmlt : mm < gk := by rw [hmm2]; exact Nat.lt_of_lt_of_eq HLT.out HMS.out
          have HMM := Lib.hid hmm2.symm
          clear hmm2
          go_roundg mm
          case measure => exact hmmlt
          case rel =>
            refine ⟨_, _, HLI2.out, by simp, HMM.out, by omega, ?_⟩
            rw [HMK.out]
            exact HM7.out
    · have CC := Lib.hid (complete_any wr g (m * 4) ga oa vs.length xl.length cp bb c0 c3 e3 false (by rw [beq_eq_false_iff_ne]; omega))
      have hlt : vs.length < xl.length := by omega
      by_cases h2 : vs.length = 2
      · have CF := Lib.hid (fun W (hb : Below wr.heap.size wr W) => full_any W g (m * 4) vs.length ((hb.cell (p := ⟨g, m * 4 + 3, none⟩) hglt).trans c3) true (by rw [h2]; rfl))
        have HEV : Hid (ev f e = none) := Lib.hid (by rw [← hinv.run, frs_snoc]; exact run_full h2 (by omega))
        clear hinv hmem hmem1 hms hkids hat d0 d1 d2 d3 c0 c1 c2 c3 e0 e1 e2 e3 hmf hbel hfz h2 hc
        go_wp2_with (first
          | (go_at_call 25; refine CC.out.mono ?_; rintro x w4 ⟨rfl, hb4⟩)
          | (go_at_call 28; refine (CF.out _ hb4).mono ?_; rintro x w5 ⟨rfl, hb5⟩))
        refine bodyPost_ret (v := .tuple #[.int .i64 0, .bool false]) ?_ rfl ⟨?_, FIN.out _ (hb4.trans (hb5.mono hb4.size))⟩
        · simp [results, Try.results15, go_sem]
        · rw [HEV.out]
          rfl
      · have CF := Lib.hid (fun W (hb : Below wr.heap.size wr W) => full_any W g (m * 4) vs.length ((hb.cell (p := ⟨g, m * 4 + 3, none⟩) hglt).trans c3) false (by rw [beq_eq_false_iff_ne]; omega))
        have h22 : vs.length < 2 := by omega
        obtain ⟨g2, rfl, hkat⟩ := hkids (by omega)
        have hp := hkat vs.length hlt
        have CN := Lib.hid (fun W (hb : Below wr.heap.size wr W) => nextv_any W g (m * 4) ga oa vs.length xl.length cp g2 ((hb.cell (p := ⟨g, m * 4, none⟩) hglt).trans c0) ((hb.cell (p := ⟨g, m * 4 + 3, none⟩) hglt).trans c3) ((hb.cell (p := ⟨ga, oa + 3, none⟩) hgar).trans e3) hlt)
        have LK0 := fun W (hb : Below wr.heap.size wr W) => lookR (hmem.map.below hb) ⟨g2, vs.length * 4, none⟩ (hinv.cmp (hbel.trans (hb.mono hbel.size)) hp.plain)
        have HM1 : Hid (∀ W, Below wr.heap.size wr W → LM w2 R (st1 ++ [(⟨ga, oa, none⟩, .mk xo xn xm xl, vs)]) (.slice (some ⟨g, 0, none⟩) (st1.length + 1) cap2) W) := Lib.hid (fun W hb => hmem.below hb)
        cases hg : MapR.get R ⟨g2, vs.length * 4, none⟩ with
        | some val =>
          obtain ⟨z, hz, rfl⟩ := hinv.free hlt hp hg
          simp only [hg, Option.getD_some, Option.isSome_some] at LK0
          have LK := Lib.hid LK0
          obtain ⟨hli, hlt2⟩ := hinv.add hlt h22 hz
          have HLI2 := Lib.hid hli
          have HLT : Hid _ := Lib.hid hlt2
          clear LK0 hinv hmem hmem1 hms hkids hat d0 d1 d2 d3 c0 c1 c2 c3 e0 e1 e2 e3 hmf hbel hfz h2 hc hkat hp hg hli hlt2 hz
          go_wp2_with (first
            | (go_at_call 25; refine CC.out.mono ?_; rintro x w4 ⟨rfl, hb4⟩)
            | (go_at_call 28; refine (CF.out _ hb4).mono ?_; rintro x w5 ⟨rfl, hb5⟩; have hb45 := hb4.trans (hb5.mono hb4.size))
            | (go_at_call 29; refine (CN.out _ hb45).mono ?_; rintro x w6 ⟨rfl, hb6⟩; have hb46 := hb45.trans (hb6.mono hb45.size))
            | (at_lookup; refine wpList_look_ptr _ rfl _ _ 56 rfl _ _ _ rfl rfl (LK.out _ hb46) ?_)
            | (go_at_call 27; have hA := add_calls (HM1.out _ (hb46.trans ((Below.refl _ w6).alloc (Nat.le_refl _) (.cells #[.int .i64 z, .bool true] 55) |>.mono hb46.size))) h22 z; rw [← HME.out] at hA; refine hA.mono ?_; rintro x w7 ⟨rfl, hm7⟩; have HM7 := Lib.hid hm7; clear hm7 hA))
          obtain ⟨mm, hmm2⟩ : ∃ mm, mm = meas (frs (st1 ++ [((⟨ga, oa, none⟩ : Addr), E.mk xo xn xm xl, vs ++ [z])])) := ⟨_, rfl⟩
          have hmmlt : mm < gk := by rw [hmm2]; exact Nat.lt_of_lt_of_eq HLT.out HMS.out
          have HMM := Lib.hid hmm2.symm
          clear hmm2
          go_roundg mm
          case measure => exact hmmlt
          case rel => exact ⟨_, _, HLI2.out, by simp, HMM.out, by omega, HM7.out⟩
        | none =>
          simp only [hg, Option.getD_none, Option.isSome_none] at LK0
          have LK := Lib.hid LK0
          obtain ⟨hli, hlt2⟩ := hinv.push hlt h22 hp
          have HLI2 := Lib.hid hli
          have HLT : Hid _ := Lib.hid hlt2
          have ST := Lib.hid (fun W (hb : Below wr.heap.size wr W) => storeR (hmem.map.below hb) ⟨g2, vs.length * 4, none⟩ (.agg #[.int .i64 0, .bool false]) (hinv.cmp (hbel.trans (hb.mono hbel.size)) hp.plain))
          have LEN := Lib.hid (show (st1 ++ [((⟨ga, oa, none⟩ : Addr), E.mk xo xn xm xl, vs)]).length = m + 1 by rw [HME.out]; simp)
          clear LK0 hinv hmem hmem1 hms hkids hat d0 d1 d2 d3 c0 c1 c2 c3 e0 e1 e2 e3 hmf hbel hfz h2 hc hkat hp hg hli hlt2
          go_wp2_with (first
            | (go_at_call 25; refine CC.out.mono ?_; rintro x w4 ⟨rfl, hb4⟩)
            | (go_at_call 28; refine (CF.out _ hb4).mono ?_; rintro x w5 ⟨rfl, hb5⟩; have hb45 := hb4.trans (hb5.mono hb4.size))
            | (go_at_call 29; refine (CN.out _ hb45).mono ?_; rintro x w6 ⟨rfl, hb6⟩; have hb46 := hb45.trans (hb6.mono hb45.size))
            | (at_lookup; refine wpList_look_ptr _ rfl _ _ 56 rfl _ _ _ rfl rfl (LK.out _ hb46) ?_; have HB47 := Lib.hid (hb46.trans ((Below.refl _ w6).alloc (Nat.le_refl _) (.cells #[.int .i64 0, .bool false] 55) |>.mono hb46.size)))
            | (at_mapUpdate; refine wpList_store_ptr _ rfl _ _ _ 56 rfl _ _ _ rfl rfl rfl _ (ST.out _ HB47.out) ?_; rintro w7 ⟨hM7, hg7⟩; have hm7 := (HM1.out _ HB47.out).store hg7 hM7; have ho7 := hm7.own; rw [LEN.out, ← HME.out] at ho7; rw [← HME.out] at hm7; have HM7 := Lib.hid hm7; have HO7 := Lib.hid ho7; have hwl7 := hm7.lt; clear hM7 hg7 hm7 ho7)
            | (at_builtin; refine wpList_append_own _ rfl (.tmp 79) (.tmp 82) 60 rfl (w2.heap.size + 1) 59 i0 (.agg #[.pointer none, .int .i64 0, .int .i64 0, .int .i64 0]) 4 32 Try.underlying60 hi hz0 hz1 hz2 rfl (by decide) _ _ _ rfl (HO7.out.alloc _) ⟨w7.heap.size, 0, none⟩ 1 1 [.pointer (some ⟨g2, vs.length * 4, none⟩), .int .i64 0, .int .i64 0, .int .i64 0] rfl rfl (cell_four_new _ _ _ _ _ _) (by intro u hu; simp only [List.mem_cons, List.not_mem_nil, or_false] at hu; rcases hu with rfl | rfl | rfl | rfl <;> rfl) (by unfold maxLen; omega) (by omega) (by simp; omega) ?_; intro v8 w8 hown8 hgrow8 hnil8; have HM8 : Hid (LM w2 _ ((st1 ++ [((⟨ga, oa, none⟩ : Addr), E.mk xo xn xm xl, vs)]) ++ [((⟨g2, vs.length * 4, none⟩ : Addr), xl[vs.length], ([] : List Int))]) v8 w8) := Lib.hid (LM.push HM7.out _ (by rw [LEN.out]; exact hown8) hgrow8); clear hown8 hgrow8 hnil8))
          obtain ⟨mm, hmm2⟩ : ∃ mm, mm = meas (frs ((st1 ++ [((⟨ga, oa, none⟩ : Addr), E.mk xo xn xm xl, vs)]) ++ [((⟨g2, vs.length * 4, none⟩ : Addr), xl[vs.length], ([] : List Int))])) := ⟨_, rfl⟩
          have hmmlt : mm < gk := by rw [hmm2]; exact Nat.lt_of_lt_of_eq HLT.out HMS.out
          have HMM := Lib.hid hmm2.symm
          clear hmm2
          go_roundg mm
          case measure => exact hmmlt
          case rel => exact ⟨_, _, HLI2.out, by simp, HMM.out, by omega, HM8.out⟩
end Go.Proofs.Ytiemibngfckgdaa
