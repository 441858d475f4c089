/-
  Package silent: Settle.
-/
import Derived.Test.YtdibfpjhmfkbkaaSlT
namespace Go.Proofs.Ytdibfpjhmfkbkaa
open Go.RowKit
open Vl

set_option maxHeartbeats 8000000 in
set_option maxRecDepth 100000 in
theorem settle_any (w : World) (M : Nat) (U : List Int) (R : Int) (vi vr vt : Value) (l : List Sl.I) (s : Sl.S) (hc : Sl.CodeAt w vi l) (hr : Sl.IntsAt [] w vr s.regs) (ht : Sl.RowsAt [] w vt s.taint)
    (hF : Sl.Fair M U s) (hM : M * 16 ≤ 140737488355328) (hR : s.regs.length * 24 ≤ 140737488355328) :
    Calls Try.prog 8 #[.agg #[.int .i64 R, vi], .agg #[.int .i64 s.pc, vr, vt, .int .i64 s.ev]] w fun x w' => Sl.TPost (Sl.settle R l s) x w' ∧ Below w.heap.size w w' := by
  have HC := Lib.hid hc
  obtain ⟨Ai, capi, rfl, hci1, hci2, _⟩ := hc
  have HR := Lib.hid hr
  obtain ⟨Ar, capr, rfl, hr1, hr2⟩ := Sl.IntsAt.form hr
  have HT := Lib.hid ht
  obtain ⟨At, capt, rfl, ht1, ht2⟩ := Sl.RowsAt.form ht
  obtain ⟨n, hn⟩ : ∃ n, n = s.regs.length := ⟨_, rfl⟩
  obtain ⟨m, hm⟩ : ∃ n, n = s.taint.length := ⟨_, rfl⟩
  obtain ⟨L, hL⟩ : ∃ n, n = l.length := ⟨_, rfl⟩
  rw [← hn] at HR hR hr1 ⊢
  rw [← hm] at HT ht1 ⊢
  rw [← hL] at HC hci1 ⊢
  have HN := Lib.hid hn
  have HMM := Lib.hid hm
  have HL := Lib.hid hL
  clear hr ht hn hm hL
  by_cases h1 : ¬ (n : Int) = R
  · have HV : Hid (Sl.settle R l s = none) := Lib.hid (by unfold Sl.settle; rw [if_neg]; rw [← HN.out]; exact fun h => h1 h.1)
    go_enter Try.func8, Try.ntmps8
    go_wp2_with fail
    refine bodyPost_ret (v := .tuple #[.agg #[.int .i64 0, .slice none 0 0, .slice none 0 0, .int .i64 0], .bool false]) ?_ rfl ⟨?_, ?_⟩
    · simp [results, Try.results8, go_sem]
    · rw [HV.out]
      exact ⟨_, _, rfl, Sl.Vals.nil _ _, ⟨[], Sl.Vals.nil _ _, rfl, fun k u zs h => by simp at h⟩⟩
    · repeat (first | exact Below.refl _ _ | refine Below.setCell ?_ (by show w.heap.size ≤ _; omega) _ | refine Below.alloc ?_ (by simp; try omega) _)
  by_cases h2 : ¬ (m : Int) = R
  · have h1' : (n : Int) = R := by simpa using h1
    have HV : Hid (Sl.settle R l s = none) := Lib.hid (by unfold Sl.settle; rw [if_neg]; rw [← HMM.out]; exact fun h => h2 h.2)
    go_enter Try.func8, Try.ntmps8
    go_wp2_with fail
    refine bodyPost_ret (v := .tuple #[.agg #[.int .i64 0, .slice none 0 0, .slice none 0 0, .int .i64 0], .bool false]) ?_ rfl ⟨?_, ?_⟩
    · simp [results, Try.results8, go_sem]
    · rw [HV.out]
      exact ⟨_, _, rfl, Sl.Vals.nil _ _, ⟨[], Sl.Vals.nil _ _, rfl, fun k u zs h => by simp at h⟩⟩
    · repeat (first | exact Below.refl _ _ | refine Below.setCell ?_ (by show w.heap.size ≤ _; omega) _ | refine Below.alloc ?_ (by simp; try omega) _)
  have h1' : (n : Int) = R := by simpa using h1
  have h2' : (m : Int) = R := by simpa using h2
  subst h1'
  have hmn : m = n := by omega
  subst hmn
  obtain ⟨wb, hwb⟩ : ∃ x, x = ((w.alloc (.cells #[.int .i64 (m : Int), .slice Ai L capi] 28)).alloc (.cells #[.int .i64 s.pc, .slice Ar m capr, .slice At m capt, .int .i64 s.ev] 32)).alloc (.cells #[.int .i64 0, .slice none 0 0, .slice none 0 0, .int .i64 0] 32) := ⟨_, rfl⟩
  have hbw : Below w.heap.size w wb := by rw [hwb]; exact (((Below.refl _ _).alloc (Nat.le_refl _) _).alloc (by simp) _).alloc (by simp; omega) _
  have hsz : wb.heap.size = w.heap.size + 3 := by rw [hwb]; simp
  have hb0 : ∀ j u, ([.int .i64 (m : Int), .slice Ai L capi] : List Value)[j]? = some u → wb.cell? ⟨w.heap.size, j, none⟩ = some u := fun j u hj => by
    rw [hwb]
    simp only [World.cell?, World.alloc, Array.getElem?_push]
    simp [show ¬ w.heap.size = w.heap.size + 1 + 1 by omega]
    simpa using hj
  have hb1 : ∀ j u, ([.int .i64 s.pc, .slice Ar m capr, .slice At m capt, .int .i64 s.ev] : List Value)[j]? = some u → wb.cell? ⟨w.heap.size + 1, j, none⟩ = some u := fun j u hj => by
    rw [hwb]
    simp only [World.cell?, World.alloc, Array.getElem?_push]
    simp
    simpa using hj
  have hb2 : ∀ j u, ([.int .i64 0, .slice none 0 0, .slice none 0 0, .int .i64 0] : List Value)[j]? = some u → wb.cell? ⟨w.heap.size + 2, j, none⟩ = some u := fun j u hj => by
    rw [hwb]
    simp only [World.cell?, World.alloc, Array.getElem?_push]
    simp
    simpa using hj
  have HB2 := Lib.hid hb2
  have hf1 : ∀ j, wb.frozen? ⟨w.heap.size + 1, j, none⟩ = false := fun j => by
    rw [hwb]
    simp only [World.frozen?, World.alloc, Array.getElem?_push]
    simp
  have hf2 : ∀ j, wb.frozen? ⟨w.heap.size + 2, j, none⟩ = false := fun j => by
    rw [hwb]
    simp only [World.frozen?, World.alloc, Array.getElem?_push]
    simp
  have HBW := Lib.hid hbw
  have HRb := Lib.hid (Sl.IntsAt.below HR.out hbw)
  have HTb := Lib.hid (Sl.RowsAt.below HT.out hbw)
  have HCb := Lib.hid (Sl.CodeAt.below HC.out hbw)
  have HWB := Lib.hid hwb
  have HB0 := Lib.hid hb0
  have HB1 := Lib.hid hb1
  have HF1 := Lib.hid hf1
  have HF2 := Lib.hid hf2
  have HSZ := Lib.hid hsz
  clear hbw hwb hb0 hb1 hf1 hf2 hsz hb2
  go_enter Try.func8, Try.ntmps8
  go_wp2_with fail
  rw [← HWB.out]
  have hBl : w.heap.size + 1 < wb.heap.size := by rw [HSZ.out]; omega
  have CI := Lib.hid (fun x (hx : Sl.IntsAt [] x (.slice Ar m capr) s.regs) => copyI64_any x [] _ _ hx (by rw [← HN.out]; omega))
  obtain ⟨tvs, htv0, htl, hti⟩ := HT.out
  have htv := Sl.Vals.below htv0 HBW.out
  have HTV := Lib.hid htv
  have HTI := Lib.hid hti
  have htl2 : tvs.length = m := by rw [htl]; exact HMM.out.symm
  have CR := Lib.hid (fun x (hx : Sl.Vals [] x (.slice At m capt) tvs) => copyRows_any x [] _ _ hx (fun u hu => by
    obtain ⟨k, hk, rfl⟩ := List.getElem_of_mem hu
    obtain ⟨A, c, e, _⟩ := Sl.IntsAt.form (hti k tvs[k] (s.taint[k]'(by omega)) (by simp [hk]) (by simp))
    rw [e]
    rfl) (by rw [htl2]; omega))
  have HTL := Lib.hid htl2
  have x1 := HB1.out 1 _ rfl
  have x2 := HB1.out 2 _ rfl
  have f1 := HF1.out 1
  have f2 := HF1.out 2
  clear htv hti htl htl2 htv0
  go_region_with (first
    | ((go_at_call 15; refine (CI.out (World.drew wb) HRb.out).mono ?_; rintro x w2 ⟨v1, rfl, ho1, hb1⟩; obtain ⟨A1, c1, rfl⟩ := own_form4 ho1; have k2 := (hb1.cell (p := ⟨w.heap.size + 1, 2, none⟩) hBl).trans x2; have k1 := (hb1.cell (p := ⟨w.heap.size + 1, 1, none⟩) hBl).trans x1; have q1 := (hb1.frozen (p := ⟨w.heap.size + 1, 1, none⟩) hBl).trans f1; have q2 := (hb1.frozen (p := ⟨w.heap.size + 1, 2, none⟩) hBl).trans f2; have HO1 := Lib.hid ho1; have HX1 := Lib.hid hb1; clear ho1 hb1))
    | ((go_at_call 16; refine (CR.out _ (Sl.Vals.below (w := World.drew wb) HTV.out HX1.out)).mono ?_; rintro x w3 ⟨v2, rfl, ho2, hb2⟩; obtain ⟨A2, c2, rfl⟩ := own_form4 ho2; have hBl2 := block_lt_of_cell k1; have m2 := (hb2.cell (p := ⟨w.heap.size + 1, 2, none⟩) hBl2).trans k2; have m1 := (hb2.cell (p := ⟨w.heap.size + 1, 1, none⟩) hBl2).trans k1; have r1 := (hb2.frozen (p := ⟨w.heap.size + 1, 1, none⟩) hBl2).trans q1; have r2 := (hb2.frozen (p := ⟨w.heap.size + 1, 2, none⟩) hBl2).trans q2; have HO2 := Lib.hid ho2; have HX2 := Lib.hid hb2; clear ho2 hb2)))
  all_goals
    obtain ⟨N, hst, hn1, hn2, hbx⟩ := Sl.st_start (s := s) HSZ.out HBW.out (HB1.out 0 _ rfl) m1 m2 (HB1.out 3 _ rfl) HF1.out HO1.out HX1.out HO2.out HX2.out (by rw [← HN.out, ← HMM.out]) (by rw [HTL.out]; exact HMM.out) HTI.out
    obtain ⟨wS, hwS⟩ : ∃ x, x = (w3.setCell ⟨w.heap.size + 1, 1, none⟩ (.slice A1 s.regs.length c1)).setCell ⟨w.heap.size + 1, 2, none⟩ (.slice A2 tvs.length c2) := ⟨_, rfl⟩
    rw [← hwS] at hst ⊢
    have hbS : ∀ b, b < wb.heap.size → b ≠ w.heap.size + 1 → wS.heap[b]? = wb.heap[b]? := fun b h1 h2 => by
      rw [hwS, Below.heap_setCell _ _ _ _ (by show b ≠ w.heap.size + 1; exact h2), Below.heap_setCell _ _ _ _ (by show b ≠ w.heap.size + 1; exact h2)]
      exact hbx.block b h1
    have hBS : Below w.heap.size w wS := by
      rw [hwS]
      exact ((HBW.out.trans (hbx.mono HBW.out.size)).setCell (p := ⟨w.heap.size + 1, 1, none⟩) (by show w.heap.size ≤ w.heap.size + 1; omega) _).setCell (p := ⟨w.heap.size + 1, 2, none⟩) (by show w.heap.size ≤ w.heap.size + 1; omega) _
    have HST := Lib.hid hst
    have HN1 := Lib.hid hn1
    have HN2 := Lib.hid hn2
    have HBS := Lib.hid hBS
    have Z0 : Hid (∀ j u, ([.int .i64 (m : Int), .slice Ai L capi] : List Value)[j]? = some u → wS.cell? ⟨w.heap.size, j, none⟩ = some u) := Lib.hid (fun j u hj => (World.cell?_of_block (a := ⟨w.heap.size, j, none⟩) (hbS w.heap.size (by rw [HSZ.out]; omega) (by omega))).trans (HB0.out j u hj))
    have Z2 : Hid (∀ j u, ([.int .i64 0, .slice none 0 0, .slice none 0 0, .int .i64 0] : List Value)[j]? = some u → wS.cell? ⟨w.heap.size + 2, j, none⟩ = some u) := Lib.hid (fun j u hj => (World.cell?_of_block (a := ⟨w.heap.size + 2, j, none⟩) (hbS (w.heap.size + 2) (by rw [HSZ.out]; omega) (by omega))).trans (HB2.out j u hj))
    have ZF : Hid (∀ j, wS.frozen? ⟨w.heap.size + 2, j, none⟩ = false) := Lib.hid (fun j => (World.frozen?_of_block (a := ⟨w.heap.size + 2, j, none⟩) (hbS (w.heap.size + 2) (by rw [HSZ.out]; omega) (by omega))).trans (HF2.out j))
    have HV : Hid (Sl.settle (m : Int) l s = Sl.go l L s) := Lib.hid (by unfold Sl.settle; rw [if_pos ⟨by rw [← HN.out], by rw [← HMM.out]⟩, HL.out])
    clear hst hn1 hn2 hbx hwS hbS hBS m1 m2 r1 r2 k1 k2 q1 q2 x1 x2 f1 f2 hBl hBl2 HO1 HO2 HX1 HX2 CI CR HTV HTI HB0 HB1 HF1 HF2 HRb HTb HCb HWB HB2
    go_wp2_with fail
    go_loopw [6] (fun i wr => ∃ k : Nat, k ≤ L ∧ i = .int .i64 k ∧ (∃ s' tvs', Sl.StAt w.heap.size (w.heap.size + 1) (w.heap.size + 2) (.slice A1 s.regs.length c1) (.slice A2 tvs.length c2) tvs' N s' wr ∧ Sl.Fair M U s' ∧ Sl.go l (L - k) s' = Sl.go l L s) ∧ Sl.Far N wS wr) (fun i _ => L - (intOf i).toNat)
    case atStart => exact ⟨0, by omega, by first | rfl | trivial, ⟨s, tvs, HST.out, hF, rfl⟩, Sl.Far.refl _ _⟩
    case round =>
      obtain ⟨k, hk, rfl, ⟨s', tvs', hst, hfr, hgo⟩, hfar⟩ := hrel
      have hlo : ∀ b ∈ N, w.heap.size ≤ b := hst.low
      have HF := Lib.hid hfar
      have HS := Lib.hid hst
      have HFR := Lib.hid hfr
      have HGO := Lib.hid hgo
      have HBR := Lib.hid (HBS.out.trans (hfar.below hlo HBS.out.size))
      have z0 := (World.cell?_of_block (a := ⟨w.heap.size, 1, none⟩) (hfar.block w.heap.size (block_lt_of_cell (Z0.out 1 _ rfl)) HN2.out)).trans (Z0.out 1 _ rfl)
      have p0 := hst.c0
      have p1 := hst.c1
      have p2 := hst.c2
      have p3 := hst.c3
      have y0 : ∀ j u, ([.int .i64 0, .slice none 0 0, .slice none 0 0, .int .i64 0] : List Value)[j]? = some u → wr.cell? ⟨w.heap.size + 2, j, none⟩ = some u := fun j u hj => (World.cell?_of_block (a := ⟨w.heap.size + 2, j, none⟩) (hfar.block (w.heap.size + 2) (block_lt_of_cell (Z2.out j u hj)) HN1.out)).trans (Z2.out j u hj)
      have yf : ∀ j, wr.frozen? ⟨w.heap.size + 2, j, none⟩ = false := fun j => (World.frozen?_of_block (a := ⟨w.heap.size + 2, j, none⟩) (hfar.block (w.heap.size + 2) (block_lt_of_cell (Z2.out 0 _ rfl)) HN1.out)).trans (ZF.out j)
      have Y0 := Lib.hid y0
      have YF := Lib.hid yf
      clear hst hfr hgo hfar hlo y0 yf
      by_cases hin : Sl.ins s'.pc L = false
      · have HI := Lib.hid hin
        have HX : Hid (Sl.settle (m : Int) l s = none) := Lib.hid (by rw [HV.out, ← HGO.out]; exact Sl.go_out (by rw [← HL.out]; exact hin) _)
        have y0 := Y0.out 0 _ rfl
        have y1 := Y0.out 1 _ rfl
        have y2 := Y0.out 2 _ rfl
        have y3 := Y0.out 3 _ rfl
        have f0 := YF.out 0
        have f1 := YF.out 1
        have f2 := YF.out 2
        have f3 := YF.out 3
        clear hin
        go_wp2_with (go_at_call 17; (with_reducible refine (isIndex_to _ _ _ _ HI.out).mono ?_); rintro x w5 ⟨rfl, rfl⟩)
        refine bodyPost_ret (v := .tuple #[.agg #[.int .i64 0, .slice none 0 0, .slice none 0 0, .int .i64 0], .bool false]) ?_ rfl ⟨?_, ?_⟩
        · simp [results, Try.results8, go_sem, y0, y1, y2, y3]
        · rw [HX.out]
          exact ⟨_, _, rfl, Sl.Vals.nil _ _, ⟨[], Sl.Vals.nil _ _, rfl, fun k u zs h => by simp at h⟩⟩
        · exact (((HBR.out.setCell (p := ⟨w.heap.size + 1 + 1, 0, none⟩) (by show w.heap.size ≤ w.heap.size + 1 + 1; omega) _).setCell (p := ⟨w.heap.size + 1 + 1, 1, none⟩) (by show w.heap.size ≤ w.heap.size + 1 + 1; omega) _).setCell (p := ⟨w.heap.size + 1 + 1, 2, none⟩) (by show w.heap.size ≤ w.heap.size + 1 + 1; omega) _).setCell (p := ⟨w.heap.size + 1 + 1, 3, none⟩) (by show w.heap.size ≤ w.heap.size + 1 + 1; omega) _
      · have hin' : Sl.ins s'.pc L = true := by simpa using hin
        have HI := Lib.hid hin'
        obtain ⟨kp, hkp, hkl⟩ := Sl.ins_nat hin'
        have hkl2 : kp < l.length := by rw [← HL.out]; exact hkl
        obtain ⟨Ac, capc, hvc, _, _, hcc⟩ := Sl.CodeAt.below HC.out HBR.out
        obtain ⟨bc, offc, hac, hbc, hcells⟩ := hcc kp hkl2
        have hAA := (Value.slice.inj hvc).1
        rw [hac] at hAA
        clear hvc hcc hac
        subst hAA
        obtain ⟨ii, hii⟩ : ∃ ii, ii = l[kp] := ⟨_, rfl⟩
        have hgd : l.getD s'.pc.toNat Sl.zI = ii := by rw [hkp, hii]; simp [hkl2]
        rw [← hii] at hcells
        have HGD := Lib.hid hgd
        have HKP := Lib.hid hkp
        rw [hkp] at p0
        have hki : (kp : Int) < L := by omega
        have HIL : Hid (Sl.ins s'.pc l.length = true) := Lib.hid (by rw [← HL.out]; exact hin')
        have HIK : Hid (Sl.ins (kp : Int) L = true) := Lib.hid (by rw [← hkp]; exact hin')
        have HPC : Hid (wrap64 (s'.pc + 1) = s'.pc + 1) := Lib.hid (by rw [hkp]; unfold maxLen at hci2; unfold wrap64; omega)
        clear hin hin' hii hgd hkp
        obtain ⟨iop, ia, ib, ic, inn, isi⟩ := ii
        have q0 := hcells 0 _ rfl
        have q1 := hcells 1 _ rfl
        have q2 := hcells 2 _ rfl
        have q3 := hcells 3 _ rfl
        have q4 := hcells 4 _ rfl
        have q5 := hcells 5 _ rfl
        rw [Nat.add_zero] at q0
        obtain ⟨wi, hwi⟩ : ∃ x, x = wr.alloc (.cells #[.int .i64 iop, .int .i64 ia, .int .i64 ib, .int .i64 ic, .int .i64 inn, .int .i64 isi] 39) := ⟨_, rfl⟩
        have hbi : Below wr.heap.size wr wi := by rw [hwi]; exact (Below.refl _ _).alloc (Nat.le_refl _) _
        have HSI := Lib.hid (HS.out.below hbi)
        have HBI := Lib.hid (HBR.out.trans (hbi.mono HBR.out.size))
        have HFI := Lib.hid (HF.out.trans (Sl.Far.of_below (N := N) hbi))
        have HWI := Lib.hid hwi
        have g2 := HSI.out.c2
        have zi := (hbi.cell (p := ⟨w.heap.size, 1, none⟩) (block_lt_of_cell z0)).trans z0
        have YI : Hid (∀ j u, ([.int .i64 0, .slice none 0 0, .slice none 0 0, .int .i64 0] : List Value)[j]? = some u → wi.cell? ⟨w.heap.size + 2, j, none⟩ = some u) := Lib.hid (fun j u hj => (hbi.cell (p := ⟨w.heap.size + 2, j, none⟩) (block_lt_of_cell (Y0.out j u hj))).trans (Y0.out j u hj))
        have YIF : Hid (∀ j, wi.frozen? ⟨w.heap.size + 2, j, none⟩ = false) := Lib.hid (fun j => (hbi.frozen (p := ⟨w.heap.size + 2, j, none⟩) (show w.heap.size + 2 < wr.heap.size from block_lt_of_cell (Y0.out 0 _ rfl))).trans (YF.out j))
        rw [hwi] at g2 zi
        clear hcells hbi hwi
        by_cases hsi : Sl.sil iop = false
        · have HSL := Lib.hid hsi
          clear hsi
          go_wp2_with (first
            | ((go_at_call 17; (with_reducible refine (isIndex_to _ _ _ _ HIK.out).mono ?_); rintro x w5 ⟨rfl, rfl⟩))
            | ((go_at_call 18; (with_reducible refine (isSilent_to _ _ _ HSL.out).mono ?_); rintro x w5 ⟨rfl, rfl⟩))
            | ((go_at_call 19; rw [← HWI.out]; refine (separate_any wi N M U w.heap.size (w.heap.size + 1) (w.heap.size + 2) s' _ _ tvs' HSI.out HFR.out hM).mono ?_; rintro x w6 ⟨rfl, ⟨tvs6, hst6⟩, hfar6⟩
                have y0 := (World.cell?_of_block (a := ⟨w.heap.size + 2, 0, none⟩) (hfar6.block (w.heap.size + 2) (block_lt_of_cell (YI.out 0 _ rfl)) HN1.out)).trans (YI.out 0 _ rfl)
                have y1 := (World.cell?_of_block (a := ⟨w.heap.size + 2, 1, none⟩) (hfar6.block (w.heap.size + 2) (block_lt_of_cell (YI.out 0 _ rfl)) HN1.out)).trans (YI.out 1 _ rfl)
                have y2 := (World.cell?_of_block (a := ⟨w.heap.size + 2, 2, none⟩) (hfar6.block (w.heap.size + 2) (block_lt_of_cell (YI.out 0 _ rfl)) HN1.out)).trans (YI.out 2 _ rfl)
                have y3 := (World.cell?_of_block (a := ⟨w.heap.size + 2, 3, none⟩) (hfar6.block (w.heap.size + 2) (block_lt_of_cell (YI.out 0 _ rfl)) HN1.out)).trans (YI.out 3 _ rfl)
                have yf : ∀ j, w6.frozen? ⟨w.heap.size + 2, j, none⟩ = false := fun j => (World.frozen?_of_block (a := ⟨w.heap.size + 2, j, none⟩) (hfar6.block (w.heap.size + 2) (block_lt_of_cell (YI.out 0 _ rfl)) HN1.out)).trans (YIF.out j)
                have f0 := yf 0
                have f1 := yf 1
                have f2 := yf 2
                have f3 := yf 3
                have t0 := hst6.c0
                have t1 := hst6.c1
                have t2 := hst6.c2
                have t3 := hst6.c3
                have HST6 := Lib.hid hst6
                have HB6 := Lib.hid (HBI.out.trans (hfar6.below hst6.low HBI.out.size))
                have HX : Hid (Sl.settle (m : Int) l s = some s') := Lib.hid (by rw [HV.out, ← HGO.out]; exact Sl.go_event HIL.out (by rw [HGD.out]; exact HSL.out) _)
                clear hst6 hfar6 yf)))
          refine bodyPost_ret (v := .tuple #[.agg #[.int .i64 s'.pc, .slice A1 s.regs.length c1, .slice A2 tvs.length c2, .int .i64 s'.ev], .bool true]) ?_ rfl ⟨?_, ?_⟩
          · simp [results, Try.results8, go_sem, y0, y1, y2, y3]
          · rw [HX.out]
            exact Sl.t_post HST6.out HN1.out
          · exact (((HB6.out.setCell (p := ⟨w.heap.size + 1 + 1, 0, none⟩) (by show w.heap.size ≤ w.heap.size + 1 + 1; omega) _).setCell (p := ⟨w.heap.size + 1 + 1, 1, none⟩) (by show w.heap.size ≤ w.heap.size + 1 + 1; omega) _).setCell (p := ⟨w.heap.size + 1 + 1, 2, none⟩) (by show w.heap.size ≤ w.heap.size + 1 + 1; omega) _).setCell (p := ⟨w.heap.size + 1 + 1, 3, none⟩) (by show w.heap.size ≤ w.heap.size + 1 + 1; omega) _
        · have hsi' : Sl.sil iop = true := by simpa using hsi
          have HSL := Lib.hid hsi'
          clear hsi hsi' p1 p2 p3 g2
          by_cases hkL : k = L
          · subst hkL
            have HX : Hid (Sl.settle (m : Int) l s = none) := Lib.hid (by rw [HV.out, ← HGO.out, Nat.sub_self]; exact Sl.go_end HIL.out (by rw [HGD.out]; exact HSL.out))
            have y0 := YI.out 0 _ rfl
            have y1 := YI.out 1 _ rfl
            have y2 := YI.out 2 _ rfl
            have y3 := YI.out 3 _ rfl
            have f0 := YIF.out 0
            have f1 := YIF.out 1
            have f2 := YIF.out 2
            have f3 := YIF.out 3
            rw [HWI.out] at y0 y1 y2 y3 f0 f1 f2 f3
            have HBI2 := Lib.hid HBI.out
            rw [HWI.out] at HBI2
            go_wp2_with (first
              | ((go_at_call 17; (with_reducible refine (isIndex_to _ _ _ _ HIK.out).mono ?_); rintro x w5 ⟨rfl, rfl⟩))
              | ((go_at_call 18; (with_reducible refine (isSilent_to _ _ _ HSL.out).mono ?_); rintro x w5 ⟨rfl, rfl⟩)))
            refine bodyPost_ret (v := .tuple #[.agg #[.int .i64 0, .slice none 0 0, .slice none 0 0, .int .i64 0], .bool false]) ?_ rfl ⟨?_, ?_⟩
            · simp [results, Try.results8, go_sem, y0, y1, y2, y3]
            · rw [HX.out]
              exact ⟨_, _, rfl, Sl.Vals.nil _ _, ⟨[], Sl.Vals.nil _ _, rfl, fun k u zs h => by simp at h⟩⟩
            · exact (((HBI2.out.setCell (p := ⟨w.heap.size + 1 + 1, 0, none⟩) (by show w.heap.size ≤ w.heap.size + 1 + 1; omega) _).setCell (p := ⟨w.heap.size + 1 + 1, 1, none⟩) (by show w.heap.size ≤ w.heap.size + 1 + 1; omega) _).setCell (p := ⟨w.heap.size + 1 + 1, 2, none⟩) (by show w.heap.size ≤ w.heap.size + 1 + 1; omega) _).setCell (p := ⟨w.heap.size + 1 + 1, 3, none⟩) (by show w.heap.size ≤ w.heap.size + 1 + 1; omega) _
          · have hkj : ¬ ((k : Int) = L) := by omega
            have HKL := Lib.hid (show k < L by omega)
            have hkl4 : k < L := HKL.out
            have hL63 : L ≤ 9223372036854775807 := by unfold maxLen at hci2; omega
            have HX : Hid (Sl.go l L s = (Sl.stp ⟨iop, ia, ib, ic, inn, isi⟩ s').bind (Sl.go l (L - (k + 1)))) := Lib.hid (by
              rw [← HGO.out, ← HGD.out, show L - k = (L - (k + 1)) + 1 by omega]
              exact Sl.go_step HIL.out (by rw [HGD.out]; exact HSL.out) _)
            have CE := Lib.hid (execute_any wi N M U w.heap.size (w.heap.size + 1) (w.heap.size + 2) s' ⟨iop, ia, ib, ic, inn, isi⟩ _ _ tvs' HSI.out HFR.out hM HSL.out HPC.out)
            obtain ⟨o, ho⟩ : ∃ o, Sl.stp ⟨iop, ia, ib, ic, inn, isi⟩ s' = o := ⟨_, rfl⟩
            rw [ho] at CE HX
            have HO := Lib.hid ho
            clear ho
            cases o with
            | none =>
              go_wp2_with (first
                | ((go_at_call 17; (with_reducible refine (isIndex_to _ _ _ _ HIK.out).mono ?_); rintro x w5 ⟨rfl, rfl⟩))
                | ((go_at_call 18; (with_reducible refine (isSilent_to _ _ _ HSL.out).mono ?_); rintro x w5 ⟨rfl, rfl⟩))
                | ((go_at_call 20; rw [← HWI.out]; refine CE.out.mono ?_; rintro x w6 ⟨⟨rfl, _⟩, hfar6⟩
                    have y0 := (World.cell?_of_block (a := ⟨w.heap.size + 2, 0, none⟩) (hfar6.block (w.heap.size + 2) (block_lt_of_cell (YI.out 0 _ rfl)) HN1.out)).trans (YI.out 0 _ rfl)
                    have y1 := (World.cell?_of_block (a := ⟨w.heap.size + 2, 1, none⟩) (hfar6.block (w.heap.size + 2) (block_lt_of_cell (YI.out 0 _ rfl)) HN1.out)).trans (YI.out 1 _ rfl)
                    have y2 := (World.cell?_of_block (a := ⟨w.heap.size + 2, 2, none⟩) (hfar6.block (w.heap.size + 2) (block_lt_of_cell (YI.out 0 _ rfl)) HN1.out)).trans (YI.out 2 _ rfl)
                    have y3 := (World.cell?_of_block (a := ⟨w.heap.size + 2, 3, none⟩) (hfar6.block (w.heap.size + 2) (block_lt_of_cell (YI.out 0 _ rfl)) HN1.out)).trans (YI.out 3 _ rfl)
                    have yf : ∀ j, w6.frozen? ⟨w.heap.size + 2, j, none⟩ = false := fun j => (World.frozen?_of_block (a := ⟨w.heap.size + 2, j, none⟩) (hfar6.block (w.heap.size + 2) (block_lt_of_cell (YI.out 0 _ rfl)) HN1.out)).trans (YIF.out j)
                    have f0 := yf 0
                    have f1 := yf 1
                    have f2 := yf 2
                    have f3 := yf 3
                    have HB6 := Lib.hid (HBI.out.trans (hfar6.below HSI.out.low HBI.out.size))
                    clear hfar6 yf)))
              have HX2 : Hid (Sl.settle (m : Int) l s = none) := Lib.hid (by rw [HV.out, HX.out]; rfl)
              refine bodyPost_ret (v := .tuple #[.agg #[.int .i64 0, .slice none 0 0, .slice none 0 0, .int .i64 0], .bool false]) ?_ rfl ⟨?_, ?_⟩
              · simp [results, Try.results8, go_sem, y0, y1, y2, y3]
              · rw [HX2.out]
                exact ⟨_, _, rfl, Sl.Vals.nil _ _, ⟨[], Sl.Vals.nil _ _, rfl, fun k u zs h => by simp at h⟩⟩
              · exact (((HB6.out.setCell (p := ⟨w.heap.size + 1 + 1, 0, none⟩) (by show w.heap.size ≤ w.heap.size + 1 + 1; omega) _).setCell (p := ⟨w.heap.size + 1 + 1, 1, none⟩) (by show w.heap.size ≤ w.heap.size + 1 + 1; omega) _).setCell (p := ⟨w.heap.size + 1 + 1, 2, none⟩) (by show w.heap.size ≤ w.heap.size + 1 + 1; omega) _).setCell (p := ⟨w.heap.size + 1 + 1, 3, none⟩) (by show w.heap.size ≤ w.heap.size + 1 + 1; omega) _
            | some s2 =>
              go_wp2_with (first
                | ((go_at_call 17; (with_reducible refine (isIndex_to _ _ _ _ HIK.out).mono ?_); rintro x w5 ⟨rfl, rfl⟩))
                | ((go_at_call 18; (with_reducible refine (isSilent_to _ _ _ HSL.out).mono ?_); rintro x w5 ⟨rfl, rfl⟩))
                | ((go_at_call 20; rw [← HWI.out]; refine CE.out.mono ?_; rintro x w6 ⟨⟨rfl, hs2⟩, hfar6⟩)))
              go_roundw
              case rel =>
                obtain ⟨tvs2, hst2⟩ := hs2 s2 rfl
                exact ⟨k + 1, HKL.out, by go_num, ⟨s2, tvs2, hst2, Sl.stp_fair HFR.out HO.out, HX.out.symm⟩, HFI.out.trans hfar6⟩
              case measure => have := HKL.out; simp [intOf]; omega
end Go.Proofs.Ytdibfpjhmfkbkaa
