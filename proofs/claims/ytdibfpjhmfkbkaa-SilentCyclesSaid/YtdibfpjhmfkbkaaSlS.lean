/-
  Package silent: what result returns.
-/
import Derived.Test.YtdibfpjhmfkbkaaSlR
namespace Go.Proofs.Ytdibfpjhmfkbkaa
open Go.RowKit
open Vl

theorem una_gen (w : World) (op a : Int) (x : Option Int) (h : una op a = x) : Calls Try.prog 47 #[.int .i64 op, .int .i64 a] w fun e w' => e = .returned (.tuple #[.int .i64 (x.getD 0), .bool x.isSome]) ∧ w' = w := by
  subst h
  exact unary_any w op a
theorem bin_gen (w : World) (op a b : Int) (x : Option Int) (h : bin op a b = x) : Calls Try.prog 48 #[.int .i64 op, .int .i64 a, .int .i64 b] w fun e w' => e = .returned (.tuple #[.int .i64 (x.getD 0), .bool x.isSome]) ∧ w' = w := by
  subst h
  exact binary_any w op a b

theorem own_form3 {w : World} {base n : Nat} {e : TypeId} {v : Value} {xs : List Value} (h : w.ownsRow base e 1 v n xs) : ∃ A n c, v = .slice A n c := by
  rcases h.2 with ⟨rfl, rfl⟩ | ⟨g, cap, cur, rfl, _⟩
  · exact ⟨_, _, _, rfl⟩
  · exact ⟨_, _, _, rfl⟩
attribute [local go_sem] Gd.Goes Gd.goesUpon Oper.looksAt Op.operands Call.operands Gd.Knows Gd.look Gd.push Gd.eqv Gd.getD_bool

set_option maxHeartbeats 8000000 in
set_option maxRecDepth 100000 in
theorem result_any (w : World) (N : List Nat) (M : Nat) (U : List Int) (B : Nat) (s : Sl.S) (i : Sl.I) (vr vt : Value) (tvs : List Value) (c1 : w.cell? ⟨B, 1, none⟩ = some vr) (c2 : w.cell? ⟨B, 2, none⟩ = some vt)
    (hr : Sl.IntsAt [] w vr s.regs) (ht : Sl.Vals [] w vt tvs) (hl : tvs.length = s.taint.length) (hlt : s.taint.length = s.regs.length) (hti : ∀ (k : Nat) (u : Value) (zs : List Int), tvs[k]? = some u → s.taint[k]? = some zs → Sl.IntsAt N w u zs)
    (hF : Sl.Fair M U s) (hM : M * 16 ≤ 140737488355328) (hN : ∀ b ∈ N, b < w.heap.size) (hs : Sl.sil i.op = true) (h5 : ¬ i.op = 5) :
    Calls Try.prog 29 #[.pointer (some ⟨B, 0, none⟩), .agg #[.int .i64 i.op, .int .i64 i.a, .int .i64 i.b, .int .i64 i.c, .int .i64 i.n, .int .i64 i.site]] w fun x w' => Sl.RPost N (Sl.val2 i s) x w' ∧ Below w.heap.size w w' := by
  have hmf : ∀ (fn : Fn) (first cap : Array Value) (w : World), (Instr.makeFunc fn first cap).run Try.prog w = .ok (.func fn first cap) w := fun _ _ _ _ => rfl
  obtain ⟨op, a, b, c, n, site⟩ := i
  simp only at hs h5 ⊢
  obtain ⟨Ar, capr, rfl, hr1, hr2⟩ := Sl.IntsAt.form hr
  obtain ⟨At, capt, rfl, ht1, ht2⟩ := Sl.Vals.form ht
  obtain ⟨m, hm⟩ : ∃ m, m = s.regs.length := ⟨_, rfl⟩
  rw [← hm] at hr1 c1 hlt
  rw [hl, hlt] at ht1 c2
  have hBl : B < w.heap.size := block_lt_of_cell c1
  have HR := Lib.hid hr
  have HT := Lib.hid ht
  have HTI := Lib.hid hti
  rw [← hm] at HR
  rw [hl, hlt] at HT
  obtain ⟨wb, hwb⟩ : ∃ x, x = (w.alloc (.cells #[.pointer (some ⟨B, 0, none⟩)] 49)).alloc (.cells #[.int .i64 op, .int .i64 a, .int .i64 b, .int .i64 c, .int .i64 n, .int .i64 site] 39) := ⟨_, rfl⟩
  have hbw : Below w.heap.size w wb := by rw [hwb]; exact ((Below.refl _ _).alloc (Nat.le_refl _) _).alloc (by simp) _
  have HBW := Lib.hid hbw
  have hp : wb.cell? ⟨w.heap.size, 0, none⟩ = some (.pointer (some ⟨B, 0, none⟩)) := by
    rw [hwb, Below.cell ((Below.refl _ _).alloc (Nat.le_refl _) _) (p := ⟨w.heap.size, 0, none⟩) (by simp)]
    simp
  have hi : ∀ j u, ([.int .i64 op, .int .i64 a, .int .i64 b, .int .i64 c, .int .i64 n, .int .i64 site] : List Value)[j]? = some u → wb.cell? ⟨w.heap.size + 1, j, none⟩ = some u := fun j u hj => by
    rw [hwb]
    exact (World.cell?_alloc_at _ _ _ _ (by simp)).trans (by simpa using hj)
  have i0 := hi 0 _ rfl
  have i1 := hi 1 _ rfl
  have i2 := hi 2 _ rfl
  have i3 := hi 3 _ rfl
  have i4 := hi 4 _ rfl
  have d1 := (hbw.cell (p := ⟨B, 1, none⟩) hBl).trans c1
  have d2 := (hbw.cell (p := ⟨B, 2, none⟩) hBl).trans c2
  have HRb := Lib.hid (Sl.IntsAt.below HR.out hbw)
  have HTb := Lib.hid (Sl.Vals.below HT.out hbw)
  have CE := Lib.hid (fun (r : Int) (q : Bool) (hq : Sl.ins r m = q) => exists_at wb w.heap.size B r _ m capr q hq hp d1)
  have HM := Lib.hid hm
  have HL := Lib.hid hl
  have HLT := Lib.hid hlt
  clear hr ht hti hbw hi c1 c2 hm hl hlt
  have HWB := Lib.hid hwb
  clear hwb
  by_cases ha : Sl.ins a m = false
  · have HV : Hid (Sl.val2 ⟨op, a, b, c, n, site⟩ s = none) := Lib.hid (by unfold Sl.val2; rw [← HM.out, ha]; simp)
    have HA := Lib.hid ha
    clear ha
    go_enter Try.func29, Try.ntmps29
    go_wp2_with (go_at_call 46; rw [← HWB.out]; (with_reducible refine (CE.out _ _ HA.out).mono ?_); rintro x w2 ⟨rfl, rfl⟩)
    refine bodyPost_ret (v := .tuple #[.int .i64 0, .slice none 0 0, .bool false]) ?_ rfl ⟨?_, HBW.out⟩
    · simp [results, Try.results29, go_sem]
    · rw [HV.out]
      exact ⟨_, _, rfl, ⟨_, _, _, rfl⟩, fun p e => by cases e⟩
  · have ha1 : Sl.ins a m = true := by simpa using ha
    have HA := Lib.hid ha1
    have hm0 : 0 < m := by
      obtain ⟨ka, _, hka⟩ := Sl.ins_nat ha1
      omega
    obtain ⟨b1, o1, cr, hv, _, _, _, hb1, hc1⟩ := Sl.Vals.open_ HRb.out (by rw [List.length_map, ← HM.out]; exact hm0)
    have e1 := (Value.slice.inj hv).1
    clear hv
    subst e1
    obtain ⟨b2, o2, ct, hv, _, _, _, hb2, hc2⟩ := Sl.Vals.open_ HTb.out (by rw [HL.out, HLT.out]; exact hm0)
    have e1 := (Value.slice.inj hv).1
    clear hv
    subst e1
    have RC : Hid (∀ k : Nat, k < m → wb.cell? ⟨b1, o1 + k, none⟩ = some (.int .i64 (s.rg (k : Int)))) := Lib.hid (fun k hk => hc1 k _ (by
      have hk2 : k < s.regs.length := by rw [← HM.out]; exact hk
      simp [Sl.S.rg, hk2]))
    have TC : Hid (∀ k : Nat, k < m → ∃ A n c, wb.cell? ⟨b2, o2 + k, none⟩ = some (.slice A n c) ∧ Sl.IntsAt N wb (.slice A n c) (s.tn (k : Int))) := Lib.hid (fun k hk => by
      have hk2 : k < tvs.length := by rw [HL.out, HLT.out]; exact hk
      have hk3 : k < s.taint.length := by rw [HLT.out]; exact hk
      have hI := HTI.out k tvs[k] s.taint[k] (by simp [hk2]) (by simp [hk3])
      obtain ⟨A, c, hf, _, _⟩ := Sl.IntsAt.form hI
      have hcc := hc2 k tvs[k] (by simp [hk2])
      have hI2 := Sl.IntsAt.below hI HBW.out
      rw [hf] at hcc hI2
      refine ⟨A, _, c, hcc, ?_⟩
      have : s.tn (k : Int) = s.taint[k] := by simp [Sl.S.tn, hk3]
      rw [this]
      exact hI2)
    have HS := Lib.hid hs
    clear hc1 hc2 hs ha ha1 HRb HTb
    have h4 := of_decide_eq_true (show decide (1 ≤ op ∧ op ≤ 5) = true from HS.out)
    rcases (show op = 1 ∨ op = 2 ∨ op = 3 ∨ op = 4 by omega) with rfl | rfl | rfl | rfl
    · have HV : Hid (Sl.val2 ⟨1, a, b, c, n, site⟩ s = some (n, [])) := Lib.hid (by unfold Sl.val2; rw [← HM.out, HA.out]; simp [Sl.val])
      go_enter Try.func29, Try.ntmps29
      go_wp2_with (go_at_call 46; rw [← HWB.out]; (with_reducible refine (CE.out _ _ HA.out).mono ?_); rintro x w2 ⟨rfl, rfl⟩)
      refine bodyPost_ret (v := .tuple #[.int .i64 n, .slice none 0 0, .bool true]) ?_ rfl ⟨?_, HBW.out⟩
      · simp [results, Try.results29, go_sem]
      · rw [HV.out]; refine ⟨_, _, rfl, ⟨_, _, _, rfl⟩, ?_⟩; intro p e; cases e; exact ⟨rfl, Sl.Vals.nil _ _⟩
    · by_cases hb : Sl.ins b m = false
      · have HB := Lib.hid hb
        have HV : Hid (Sl.val2 ⟨2, a, b, c, n, site⟩ s = none) := Lib.hid (by unfold Sl.val2; rw [← HM.out, HA.out]; simp [Sl.val, ← HM.out, hb])
        clear hb
        go_enter Try.func29, Try.ntmps29
        go_wp2_with (first | ((go_at_call 46; rw [← HWB.out]; (with_reducible refine (CE.out _ _ HA.out).mono ?_); rintro x w2 ⟨rfl, rfl⟩)) | ((go_at_call 46; (with_reducible refine (CE.out _ _ HB.out).mono ?_); rintro x w2 ⟨rfl, rfl⟩)))
        refine bodyPost_ret (v := .tuple #[.int .i64 0, .slice none 0 0, .bool false]) ?_ rfl ⟨?_, HBW.out⟩
        · simp [results, Try.results29, go_sem]
        · rw [HV.out]; exact ⟨_, _, rfl, ⟨_, _, _, rfl⟩, fun p e => by cases e⟩
      · have hb' : Sl.ins b m = true := by simpa using hb
        have HB := Lib.hid hb'
        obtain ⟨kb, rfl, hkb⟩ := Sl.ins_nat hb'
        have HV : Hid (Sl.val2 ⟨2, a, kb, c, n, site⟩ s = some (s.rg kb, s.tn kb)) := Lib.hid (by unfold Sl.val2; rw [← HM.out, HA.out]; simp [Sl.val, ← HM.out, hb'])
        have r1 := RC.out kb hkb
        obtain ⟨Ab, nb, cb, t1, hIb⟩ := TC.out kb hkb
        have HIb := Lib.hid hIb
        have hki : (kb : Int) < m := by omega
        clear hb hb' hIb
        go_enter Try.func29, Try.ntmps29
        go_wp2_with (first | ((go_at_call 46; rw [← HWB.out]; (with_reducible refine (CE.out _ _ HA.out).mono ?_); rintro x w2 ⟨rfl, rfl⟩)) | ((go_at_call 46; (with_reducible refine (CE.out _ _ HB.out).mono ?_); rintro x w2 ⟨rfl, rfl⟩)))
        go_quiet (fail)
        go_wp2_with fail
        refine bodyPost_ret (v := .tuple #[.int .i64 (s.rg kb), .slice Ab nb cb, .bool true]) ?_ rfl ⟨?_, Sl.below_drewN HBW.out _⟩
        · simp [results, Try.results29, go_sem]
        · rw [HV.out]; refine ⟨_, _, rfl, ⟨_, _, _, rfl⟩, ?_⟩; intro p e; cases e; exact ⟨rfl, Sl.Vals.drewN HIb.out _⟩
    · by_cases hb : Sl.ins b m = false
      · have HB := Lib.hid hb
        have HV : Hid (Sl.val2 ⟨3, a, b, c, n, site⟩ s = none) := Lib.hid (by unfold Sl.val2; rw [← HM.out, HA.out]; simp [Sl.val, ← HM.out, hb])
        clear hb
        go_enter Try.func29, Try.ntmps29
        go_wp2_with (first | ((go_at_call 46; rw [← HWB.out]; (with_reducible refine (CE.out _ _ HA.out).mono ?_); rintro x w2 ⟨rfl, rfl⟩)) | ((go_at_call 46; (with_reducible refine (CE.out _ _ HB.out).mono ?_); rintro x w2 ⟨rfl, rfl⟩)))
        refine bodyPost_ret (v := .tuple #[.int .i64 0, .slice none 0 0, .bool false]) ?_ rfl ⟨?_, HBW.out⟩
        · simp [results, Try.results29, go_sem]
        · rw [HV.out]; exact ⟨_, _, rfl, ⟨_, _, _, rfl⟩, fun p e => by cases e⟩
      · have hb' : Sl.ins b m = true := by simpa using hb
        have HB := Lib.hid hb'
        obtain ⟨kb, rfl, hkb⟩ := Sl.ins_nat hb'
        obtain ⟨u, hu⟩ : ∃ u, una n (s.rg kb) = u := ⟨_, rfl⟩
        have HU := Lib.hid hu
        have HV : Hid (Sl.val2 ⟨3, a, kb, c, n, site⟩ s = u.map fun v => (v, s.tn kb)) := Lib.hid (by unfold Sl.val2; rw [← HM.out, HA.out]; simp [Sl.val, ← HM.out, hb', hu])
        have r1 := RC.out kb hkb
        obtain ⟨Ab, nb, cb, t1, hIb⟩ := TC.out kb hkb
        have HIb := Lib.hid hIb
        have hki : (kb : Int) < m := by omega
        clear hb hb' hIb hu
        go_enter Try.func29, Try.ntmps29
        go_wp2_with (first | ((go_at_call 46; rw [← HWB.out]; (with_reducible refine (CE.out _ _ HA.out).mono ?_); rintro x w2 ⟨rfl, rfl⟩)) | ((go_at_call 46; (with_reducible refine (CE.out _ _ HB.out).mono ?_); rintro x w2 ⟨rfl, rfl⟩)))
        go_quiet ((go_at_call 47; exact Calls.quiet_of_same (una_gen _ _ _ _ HU.out)))
        go_wp2_with fail
        go_quiet (fail)
        go_wp2_with fail
        refine bodyPost_ret (v := .tuple #[.int .i64 (u.getD 0), .slice Ab nb cb, .bool u.isSome]) ?_ rfl ⟨?_, Sl.below_drewN (Sl.below_drewN HBW.out _) _⟩
        · simp [results, Try.results29, go_sem]
        · rw [HV.out]; cases u with
            | none => exact ⟨_, _, rfl, ⟨_, _, _, rfl⟩, fun p e => by cases e⟩
            | some v => refine ⟨_, _, rfl, ⟨_, _, _, rfl⟩, ?_⟩; intro p e; cases e; exact ⟨rfl, Sl.Vals.drewN (Sl.Vals.drewN HIb.out _) _⟩
    · by_cases hb : Sl.ins b m = false
      · have HB := Lib.hid hb
        have HV : Hid (Sl.val2 ⟨4, a, b, c, n, site⟩ s = none) := Lib.hid (by unfold Sl.val2; rw [← HM.out, HA.out]; simp [Sl.val, ← HM.out, hb])
        clear hb
        go_enter Try.func29, Try.ntmps29
        go_wp2_with (first | ((go_at_call 46; rw [← HWB.out]; (with_reducible refine (CE.out _ _ HA.out).mono ?_); rintro x w2 ⟨rfl, rfl⟩)) | ((go_at_call 46; (with_reducible refine (CE.out _ _ HB.out).mono ?_); rintro x w2 ⟨rfl, rfl⟩)))
        refine bodyPost_ret (v := .tuple #[.int .i64 0, .slice none 0 0, .bool false]) ?_ rfl ⟨?_, HBW.out⟩
        · simp [results, Try.results29, go_sem]
        · rw [HV.out]; exact ⟨_, _, rfl, ⟨_, _, _, rfl⟩, fun p e => by cases e⟩
      · have hb' : Sl.ins b m = true := by simpa using hb
        have HB := Lib.hid hb'
        by_cases hc : Sl.ins c m = false
        · have HC := Lib.hid hc
          have HV : Hid (Sl.val2 ⟨4, a, b, c, n, site⟩ s = none) := Lib.hid (by unfold Sl.val2; rw [← HM.out, HA.out]; simp [Sl.val, ← HM.out, hb', hc])
          clear hb hb' hc
          go_enter Try.func29, Try.ntmps29
          go_wp2_with (first | ((go_at_call 46; rw [← HWB.out]; (with_reducible refine (CE.out _ _ HA.out).mono ?_); rintro x w2 ⟨rfl, rfl⟩)) | ((go_at_call 46; (with_reducible refine (CE.out _ _ HB.out).mono ?_); rintro x w2 ⟨rfl, rfl⟩)) | ((go_at_call 46; (with_reducible refine (CE.out _ _ HC.out).mono ?_); rintro x w2 ⟨rfl, rfl⟩)))
          refine bodyPost_ret (v := .tuple #[.int .i64 0, .slice none 0 0, .bool false]) ?_ rfl ⟨?_, HBW.out⟩
          · simp [results, Try.results29, go_sem]
          · rw [HV.out]; exact ⟨_, _, rfl, ⟨_, _, _, rfl⟩, fun p e => by cases e⟩
        · have hc' : Sl.ins c m = true := by simpa using hc
          have HC := Lib.hid hc'
          obtain ⟨kb, rfl, hkb⟩ := Sl.ins_nat hb'
          obtain ⟨kc, rfl, hkc⟩ := Sl.ins_nat hc'
          obtain ⟨u, hu⟩ : ∃ u, bin n (s.rg kb) (s.rg kc) = u := ⟨_, rfl⟩
          have HU := Lib.hid hu
          have HV : Hid (Sl.val2 ⟨4, a, kb, kc, n, site⟩ s = u.map fun v => (v, Sl.uni (s.tn kb) (s.tn kc))) := Lib.hid (by unfold Sl.val2; rw [← HM.out, HA.out]; simp [Sl.val, ← HM.out, hb', hc', hu])
          have r1 := RC.out kb hkb
          obtain ⟨Ab, nb, cb, t1, hIb⟩ := TC.out kb hkb
          have r2 := RC.out kc hkc
          obtain ⟨Ac, nc, cc, t2, hIc⟩ := TC.out kc hkc
          have hlu : ((s.tn kb).length + (s.tn kc).length) * 8 ≤ 140737488355328 := by
            have h1 := (Sl.tn_fair hF kb).1
            have h2 := (Sl.tn_fair hF kc).1
            omega
          have hki : (kb : Int) < m := by omega
          have hkj : (kc : Int) < m := by omega
          have CU := Lib.hid (fun (q : Nat) (x : World) (hx : Below (wb.drewN q).heap.size (wb.drewN q) x) => union_any x N _ _ _ _ (Sl.IntsAt.below (w := wb.drewN q) hIb hx) (Sl.IntsAt.below (w := wb.drewN q) hIc hx) hlu)
          have HNN : Hid (∀ g, w.heap.size ≤ g → g ∉ N) := Lib.hid (fun g hg hn => by have := hN g hn; omega)
          clear hb hb' hIb hc hc' hIc hu hlu
          go_enter Try.func29, Try.ntmps29
          go_wp2_with (first | ((go_at_call 46; rw [← HWB.out]; (with_reducible refine (CE.out _ _ HA.out).mono ?_); rintro x w2 ⟨rfl, rfl⟩)) | ((go_at_call 46; (with_reducible refine (CE.out _ _ HB.out).mono ?_); rintro x w2 ⟨rfl, rfl⟩)) | ((go_at_call 46; (with_reducible refine (CE.out _ _ HC.out).mono ?_); rintro x w2 ⟨rfl, rfl⟩)))
          go_quiet ((go_at_call 48; exact Calls.quiet_of_same (bin_gen _ _ _ _ _ HU.out)))
          go_wp2_with fail
          obtain ⟨wd, hwd⟩ : ∃ x, x = wb.drewN nq := ⟨_, rfl⟩
          have e2 : wd.cell? ⟨B, 2, none⟩ = some (.slice (some ⟨b2, o2, none⟩) m capt) := by rw [hwd]; exact d2
          have e3 : wd.cell? ⟨w.heap.size, 0, none⟩ = some (.pointer (some ⟨B, 0, none⟩)) := by rw [hwd]; exact hp
          have e4 : wd.cell? ⟨w.heap.size + 1, 2, none⟩ = some (.int .i64 kb) := by rw [hwd]; exact i2
          have e5 : wd.cell? ⟨w.heap.size + 1, 3, none⟩ = some (.int .i64 kc) := by rw [hwd]; exact i3
          have e6 : wd.cell? ⟨b2, o2 + kb, none⟩ = some (.slice Ab nb cb) := by rw [hwd]; exact t1
          have e7 : wd.cell? ⟨b2, o2 + kc, none⟩ = some (.slice Ac nc cc) := by rw [hwd]; exact t2
          have CU2 := Lib.hid (CU.out nq)
          have HBD := Lib.hid (Sl.below_drewN HBW.out nq)
          rw [← hwd] at CU2 HBD ⊢
          clear CU
          have q2 : ∀ x, Below wd.heap.size wd x → x.cell? ⟨B, 2, none⟩ = some (.slice (some ⟨b2, o2, none⟩) m capt) := fun x hx => (hx.cell (p := ⟨B, 2, none⟩) (block_lt_of_cell e2)).trans e2
          have q3 : ∀ x, Below wd.heap.size wd x → x.cell? ⟨w.heap.size, 0, none⟩ = some (.pointer (some ⟨B, 0, none⟩)) := fun x hx => (hx.cell (p := ⟨w.heap.size, 0, none⟩) (block_lt_of_cell e3)).trans e3
          have q4 : ∀ x, Below wd.heap.size wd x → x.cell? ⟨w.heap.size + 1, 2, none⟩ = some (.int .i64 kb) := fun x hx => (hx.cell (p := ⟨w.heap.size + 1, 2, none⟩) (block_lt_of_cell e4)).trans e4
          have q5 : ∀ x, Below wd.heap.size wd x → x.cell? ⟨w.heap.size + 1, 3, none⟩ = some (.int .i64 kc) := fun x hx => (hx.cell (p := ⟨w.heap.size + 1, 3, none⟩) (block_lt_of_cell e5)).trans e5
          have q6 : ∀ x, Below wd.heap.size wd x → x.cell? ⟨b2, o2 + kb, none⟩ = some (.slice Ab nb cb) := fun x hx => (hx.cell (p := ⟨b2, o2 + kb, none⟩) (block_lt_of_cell e6)).trans e6
          have q7 : ∀ x, Below wd.heap.size wd x → x.cell? ⟨b2, o2 + kc, none⟩ = some (.slice Ac nc cc) := fun x hx => (hx.cell (p := ⟨b2, o2 + kc, none⟩) (block_lt_of_cell e7)).trans e7
          clear hwd e2 e3 e4 e5 e6 e7
          refine Gd.wp_region_below 142 (by kernel_rfl) rfl (by kernel_rfl) ?_
          repeat (first
            | (apply Gd.step_eqv
               · intro a x hC hk
                 try simp [go_sem] at hk
                 simp [go_sem, hk, q2, q3, q4, q5, q6, q7, hki, hkj, hC]
                 exact ⟨rfl, Below.refl _ _⟩)
            | (apply Gd.step_cond (Sl.gU N (Sl.uni (s.tn kb) (s.tn kc))) (Sl.gU_stable _ _)
               · intro a x hC hk
                 try simp [go_sem] at hk
                 simp [go_sem, hk]
                 (go_at_call 6; refine (CU2.out x hC).mono ?_; rintro e w9 ⟨v9, rfl, h9, hb9⟩; refine ⟨v9, rfl, ⟨own_form3 h9, Sl.Vals.of_own h9 (fun g hg => HNN.out g ?_)⟩, hb9⟩; exact Nat.le_trans (Nat.le_trans HBD.out.size hC.size) (h9.lt g hg).1))
            | (apply Gd.step_cond (Sl.gU N (Sl.uni (s.tn kb) (s.tn kc))) (Sl.gU_stable _ _)
               · intro a x hC hk
                 try simp [go_sem] at hk
                 simp [go_sem]
                 exact ⟨hk, Below.refl _ _⟩))
          intro x hC
          simp only [Gd.push, List.reverse_cons, List.reverse_nil, List.nil_append, List.cons_append, Gd.Fin, Gd.eqv, forall_eq]
          intro v15 _ v16 hv16
          simp [Act.put]
          obtain ⟨⟨A9, n9, c9, rfl⟩, hI9⟩ := hv16
          have H9 := Lib.hid hI9
          have HCC := Lib.hid hC
          clear hI9 hC q2 q3 q4 q5 q6 q7
          go_wp2_with fail
          refine bodyPost_ret (v := .tuple #[.int .i64 (u.getD 0), .slice A9 n9 c9, .bool u.isSome]) ?_ rfl ⟨?_, Below.trans HBD.out (HCC.out.mono HBD.out.size)⟩
          · simp [results, Try.results29, go_sem]
          · rw [HV.out]; cases u with
            | none => exact ⟨_, _, rfl, ⟨_, _, _, rfl⟩, fun p e => by cases e⟩
            | some v => refine ⟨_, _, rfl, ⟨_, _, _, rfl⟩, ?_⟩; intro p e; cases e; exact ⟨rfl, H9.out⟩
end Go.Proofs.Ytdibfpjhmfkbkaa
