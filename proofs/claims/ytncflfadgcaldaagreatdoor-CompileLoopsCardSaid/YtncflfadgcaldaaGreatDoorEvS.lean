/-
  The walk over all nodes of statements (parse.everyNode): true just if every node fits.
-/
import Derived.Test.YtncflfadgcaldaaGreatDoorEvB
namespace Go.Proofs.YtncflfadgcaldaaGreatDoor
open Go.RowKit
open Par

/-- The lists of statements directly below one. -/
def PartsPost (F : Ev.Forest) (a : Addr) (W : World) (e : Ending) (w' : World) : Prop :=
  ∃ b u1 u2 K1 K2, e = .returned (.slice (some ⟨b, 0, none⟩) 2 2) ∧ Below W.heap.size W w' ∧ w'.heap[b]? = some (.cells #[u1, u2] 54) ∧ Ev.Leads 11 u1 K1 ∧ Ev.Leads 11 u2 K2 ∧ F.kids a = K1 ++ K2
theorem blk_cell {W : World} {b : Nat} {cs : Array Value} {t : TypeId} (h : W.heap[b]? = some (.cells cs t)) (o : Nat) : W.cell? ⟨b, o, none⟩ = cs[o]? := by
  simp [World.cell?, h]
theorem blk_kept {wr w5 : World} {B T T2 n b : Nat} {sv : Value} {xs : List Value} {cs : Array Value} {o : Obj} (hb : wr.heap[b]? = some (.cells cs T2)) (hown : wr.ownsRow B T 1 sv n xs) (hT : T ≠ T2) (hg : (wr.alloc o).grownBy w5 sv.ownBlock) : w5.heap[b]? = some (.cells cs T2) := by
  have hlt : b < wr.heap.size := (Array.getElem?_eq_some_iff.1 hb).1
  have hal : (wr.alloc o).heap[b]? = wr.heap[b]? := Below.heap_alloc _ _ _ hlt
  have hne : sv.ownBlock ≠ some b := by
    intro e
    rcases hown.2 with ⟨rfl, _⟩ | ⟨g, cap, cur, rfl, _, hgg, _⟩
    · simp [Value.ownBlock] at e
    · simp [Value.ownBlock] at e
      subst e
      rw [hgg] at hb
      injection hb with hb
      injection hb with _ h2 _
      exact hT h2
  rw [hg.block b (by simp; omega) (fun e => hne e.symm), hal, hb]

set_option maxHeartbeats 16000000 in
set_option maxRecDepth 100000 in
theorem everyS_any (w : World) (F : Ev.Forest) (v : Value) (rs : List Addr) (hr : Ev.Leads 11 v rs) (hD : ∀ a ∈ rs, F.D a) (hP : ∀ a, F.D a → PlainAt w a.block) (hm : Ev.meas F [] rs ≤ 1000000)
    (CF : ∀ a, F.D a → ∀ W, Below w.heap.size w W → Calls Tryz.prog 71 #[.pointer (some a)] W fun e w' => e = .returned (.bool (F.fit a)) ∧ Below W.heap.size W w')
    (CP : ∀ a, F.D a → ∀ W, Below w.heap.size w W → Calls Tryz.prog 72 #[.pointer (some a)] W (PartsPost F a W)) :
    Calls Tryz.prog 70 #[v, .func (.func 71) #[] #[], .func (.func 72) #[] #[]] w (Ev.PostEv F rs w) := by
  obtain ⟨i0, hi, hz0, hz1, hz2⟩ := info_parts Tryz.infoPS
  have hmm := @run_makeMap Tryz.prog
  have hlen := Ev.len_meas (L := []) rs hD
  have HR := Lib.hid hr
  obtain ⟨A, cap, rfl, hr2⟩ := hr
  clear hr2
  obtain ⟨n, hn⟩ : ∃ n, n = rs.length := ⟨_, rfl⟩
  have HN := Lib.hid hn
  rw [← hn] at hlen ⊢
  have hn6 : n ≤ 1000000 := by omega
  have HD := Lib.hid hD
  have HP := Lib.hid hP
  have HM := Lib.hid hm
  have HCF := Lib.hid CF
  have HCP := Lib.hid CP
  clear hn hD hP hm CF CP hlen
  show Calls _ _ _ _ _
  go_enter Tryz.func70, Tryz.ntmps70
  go_wp2_with fail
  go_loopg [8, 17] n (fun gk sv iv wr => ∃ k : Nat, k + gk = n ∧ iv = .int .i64 k ∧ Ev.Mem w 146 [] (rs.take k) sv wr)
  case atStart => exact ⟨0, by omega, rfl, Ev.Mem.start w _⟩
  case round =>
    obtain ⟨k, hk, rfl, hmem⟩ := hrel
    have htl : (rs.take k).length = k := by rw [List.length_take, ← HN.out]; omega
    have hown := hmem.own
    obtain ⟨A', cap', hsv⟩ := hmem.form
    rw [htl] at hown hsv
    subst hsv
    by_cases hlt : k < n
    · obtain ⟨g, cap2, hv2, hel⟩ := HR.out.at_ (k := k) (by rw [← HN.out]; exact hlt)
      obtain ⟨rfl, _, rfl⟩ := Value.slice.inj hv2
      have hsz := hmem.lt
      have HMEM := Lib.hid hmem
      have HT := Lib.hid (show rs.take (k + 1) = rs.take k ++ [⟨g, k * 11, none⟩] by
        rw [List.take_succ_eq_append_getElem (by rw [← HN.out]; exact hlt), hel])
      have HO := Lib.hid hown
      clear hmem hown htl hel hv2
      go_wp2_with (at_builtin; refine wpList_append_own _ rfl (.tmp 20) (.tmp 24) 114 rfl (w.heap.size + 1) 146 i0 (.pointer none) 1 8 Tryz.underlying114 hi hz0 hz1 hz2 rfl (by decide) _ _ _ rfl (HO.out.alloc _) ⟨wr.heap.size, 0, none⟩ 1 1 [.pointer (some ⟨g, k * 11, none⟩)] rfl rfl (by intro j u hj; match j, hj with | 0, hj => simp at hj; subst hj; simp [Addr.add] | j + 1, hj => simp at hj) (by intro u hu; simp at hu; subst hu; rfl) (by unfold maxLen; omega) (by omega) (by simp; omega) ?_; intro v4 w4 hown4 hgrow4 hnil4)
      go_roundg (gk - 1)
      case measure => omega
      case rel =>
        refine ⟨k + 1, by omega, by go_num, ?_⟩
        rw [HT.out]
        refine Ev.Mem.push HMEM.out _ ?_ hgrow4
        rw [List.length_take, ← HN.out, Nat.min_eq_left (Nat.le_of_lt hlt)]
        exact hown4
    · have hkn : k = n := by omega
      subst hkn
      have hm0 : Ev.Mem w 146 [] rs (.slice A' k cap') wr := by
        have e : rs.take k = rs := List.take_of_length_le (by rw [← HN.out]; exact Nat.le_refl _)
        rw [e] at hmem
        exact hmem
      have HM0 := Lib.hid hm0
      clear hm0 hmem hown htl
      go_wp2_with fail
      obtain ⟨wq, hwq⟩ : ∃ wq, wq = wr := ⟨_, rfl⟩
      subst hwq
      go_loopg [8] (Ev.meas F [] rs) (fun gk sv wr => ∃ L st, Ev.Inv F rs L st ∧ Ev.meas F L st = gk ∧ gk ≤ 1000000 ∧ Ev.Reach F rs st ∧ Ev.Mem w 146 L st sv wr)
      case atStart => exact ⟨[], rs, Ev.start HD.out, rfl, HM.out, fun h => h, HM0.out⟩
      case round =>
        obtain ⟨L, st, hinv, hms, hgM, hrch, hmem⟩ := hrel
        rcases List.eq_nil_or_concat st with rfl | ⟨st1, a, rfl⟩
        · obtain ⟨A2, cap2, rfl⟩ := hmem.form
          have HI := Lib.hid hinv
          have HMM := Lib.hid hmem
          clear hinv hmem hrch hms
          go_wp2_with fail
          go_ret
          exact ⟨true, rfl, ⟨fun _ => Ev.done HI.out, fun _ => rfl⟩, HMM.out.bel⟩
        · rw [List.concat_eq_append] at hinv hms hrch hmem
          obtain ⟨g, cap2, rfl, hc2, hcell, hmem1⟩ := hmem.top
          obtain ⟨m, hme⟩ : ∃ m, m = st1.length := ⟨_, rfl⟩
          have hDa := hinv.dom a (by simp)
          have hcmp := Ev.cmp (P := Tryz.prog) hinv HP.out hmem.bel hDa
          have LK := lookS hmem.map a hcmp
          have hml : m + 1 ≤ 1000000 := by
            have h1 := Ev.len_meas (L := L) _ hinv.dom
            simp at h1
            omega
          rw [← hme] at hcell hc2 ⊢
          have HME := Lib.hid hme
          have hw1 : IntKind.i64.wrap ((m : Int) + 1 - 1) = (m : Int) := by rw [Int.add_sub_cancel]; exact IntWalk.i64_in _ (by omega)
          have hw2 : IntKind.i64.wrap (m : Int) = (m : Int) := IntWalk.i64_in _ (by omega)
          by_cases hv : MapP.get L a = 0
          · rw [hv] at LK
            have hcl := Ev.closed hinv hv
            by_cases hf : F.fit a = true
            · obtain ⟨hi2, hlt2⟩ := Ev.visit hinv hv hf
              have hrv := hrch.visit (fun c => MapP.get (MapP.put L a 1) c == 0)
              have hk4 := Ev.kids_meas hinv hv
              have hk6 : (F.kids a).length ≤ 1000000 := by omega
              clear hk4
              have CFa := Lib.hid (HCF.out a hDa wr hmem.bel)
              rw [hf] at CFa
              have HMEM := Lib.hid hmem
              have HI0 := Lib.hid hinv
              have HDa := Lib.hid hDa
              have HRV := Lib.hid hrv
              have HI2 := Lib.hid hi2
              have HCL := Lib.hid hcl
              have HHF := Lib.hid hf
              have hlt3 : Ev.meas F (MapP.put L a 1) ((st1 ++ [a]) ++ (F.kids a).filter (fun c => MapP.get (MapP.put L a 1) c == 0)) < gk := by omega
              have hln := Ev.len_meas (L := MapP.put L a 1) _ hi2.dom
              have HLT := Lib.hid hlt3
              have HLN := Lib.hid (show ((st1 ++ [a]) ++ (F.kids a).filter (fun c => MapP.get (MapP.put L a 1) c == 0)).length ≤ 1000000 by omega)
              obtain ⟨mm, hmm2⟩ : ∃ mm, mm = Ev.meas F (MapP.put L a 1) ((st1 ++ [a]) ++ (F.kids a).filter (fun c => MapP.get (MapP.put L a 1) c == 0)) := ⟨_, rfl⟩
              rw [← hmm2] at HLT
              have HMM := Lib.hid hmm2.symm
              clear hmm2
              have hgm2 : mm < 1000000 := by have := HLT.out; omega
              clear hmem hmem1 hinv hrch hrv hi2 hlt2 hms hcl hf hcmp hme hDa hv hln hlt3
              go_wp2_with (first
                | (go_at_call 71; refine CFa.out.mono ?_; rintro e w2 ⟨rfl, hb2⟩; have hmem2 := HMEM.out.below hb2; obtain ⟨w3, hst3, hM3, hg3⟩ := storeS hmem2.map a 1 (Ev.cmp HI0.out HP.out hmem2.bel HDa.out); have HM3 := Lib.hid (hmem2.store hg3 hM3); have CPa := Lib.hid (HCP.out a HDa.out w3 HM3.out.bel); clear hmem2 hM3 hg3)
                | (go_at_call 72; refine CPa.out.mono ?_; rintro e w4 ⟨b, u1, u2, K1, K2, rfl, hb4, hblk, hu4, hu5, hks⟩; have HM4 := Lib.hid (HM3.out.below hb4); have HU := Lib.hid hu4; have HU2 := Lib.hid hu5; have HKS := Lib.hid hks))
              obtain ⟨A4, cap4, rfl, hx4⟩ := hu4
              obtain ⟨A5, cap6, rfl, hx5⟩ := hu5
              clear hx4 hx5
              have HLNb := Lib.hid (show (((st1 ++ [a]) ++ K1.filter (fun c => MapP.get (MapP.put L a 1) c == 0)) ++ K2.filter (fun c => MapP.get (MapP.put L a 1) c == 0)).length ≤ 1000000 by
                have h1 := HLN.out
                rw [HKS.out, List.filter_append, ← List.append_assoc] at h1
                exact h1)
              have HLNa := Lib.hid (show ((st1 ++ [a]) ++ K1.filter (fun c => MapP.get (MapP.put L a 1) c == 0)).length ≤ 1000000 by
                have h1 := HLNb.out
                rw [List.length_append] at h1
                omega)
              rw [hks, List.length_append] at hk6
              clear hks
              obtain ⟨n4, hn4⟩ : ∃ n4, n4 = K1.length := ⟨_, rfl⟩
              have HN4 := Lib.hid hn4
              rw [← hn4] at hblk hk6
              clear hn4
              obtain ⟨n5, hn5⟩ : ∃ n5, n5 = K2.length := ⟨_, rfl⟩
              have HN5 := Lib.hid hn5
              rw [← hn5] at hblk hk6
              clear hn5
              have hc4 := (blk_cell hblk 0).trans (show (#[Value.slice A4 n4 cap4, .slice A5 n5 cap6] : Array Value)[0]? = some (.slice A4 n4 cap4) from rfl)
              refine wp_loop_rounds 3 ?_
              rw [rounds_succ]
              go_wp2_with fail
              go_loopg [8, 63] n4 (fun g4 sv iv wx => ∃ j : Nat, j + g4 = n4 ∧ iv = .int .i64 j ∧ Ev.Mem w 146 (MapP.put L a 1) ((st1 ++ [a]) ++ (K1.take j).filter (fun c => MapP.get (MapP.put L a 1) c == 0)) sv wx ∧ wx.heap[b]? = some (.cells #[.slice A4 n4 cap4, .slice A5 n5 cap6] 54))
              case atStart =>
                refine ⟨0, by omega, rfl, ?_, hblk⟩
                rw [HME.out]
                simpa using HM4.out
              case round =>
                obtain ⟨j, hj, rfl, hmemj, hbj⟩ := hrel
                have hbelj := hmemj.bel
                obtain ⟨Aj, capj, hsv⟩ := hmemj.form
                have hownj := hmemj.own
                obtain ⟨q, hq⟩ : ∃ q, q = ((st1 ++ [a]) ++ (K1.take j).filter (fun c => MapP.get (MapP.put L a 1) c == 0)).length := ⟨_, rfl⟩
                have hq6 : q ≤ 1000000 := by
                  have h1 := HLNa.out
                  have h2 := Ev.filter_take_len (fun c => MapP.get (MapP.put L a 1) c == 0) K1 j
                  rw [List.length_append] at h1 hq
                  omega
                rw [← hq] at hsv hownj
                subst hsv
                have HQ := Lib.hid hq
                have HMJ := Lib.hid hmemj
                have HOJ := Lib.hid hownj
                by_cases hlt4 : j < n4
                · obtain ⟨g4, cap5, e5, hel⟩ := HU.out.at_ (k := j) (by rw [← HN4.out]; exact hlt4)
                  obtain ⟨rfl, _, rfl⟩ := Value.slice.inj e5
                  have hmemc0 : K1[j]'(by rw [← HN4.out]; exact hlt4) ∈ K1 := List.getElem_mem _
                  rw [hel] at hmemc0
                  have hmemc : (⟨g4, j * 11, none⟩ : Addr) ∈ F.kids a := by
                    rw [HKS.out]
                    exact List.mem_append.2 (by first | exact .inl hmemc0 | exact .inr hmemc0)
                  have hDc := (F.down a HDa.out _ hmemc).1
                  have LK4 := lookS hmemj.map ⟨g4, j * 11, none⟩ (Ev.cmp HI2.out HP.out hbelj hDc)
                  have hne1 := HCL.out _ hmemc
                  have HT4 := Lib.hid (Ev.filter_take_snoc (fun c => MapP.get (MapP.put L a 1) c == 0) K1 j (by rw [← HN4.out]; exact hlt4))
                  rw [hel] at HT4
                  have hsz4 := hmemj.lt
                  by_cases h0 : MapP.get (MapP.put L a 1) ⟨g4, j * 11, none⟩ = 0
                  · rw [h0] at LK4
                    have HT5 := Lib.hid (show (K1.take (j + 1)).filter (fun c => MapP.get (MapP.put L a 1) c == 0) = (K1.take j).filter (fun c => MapP.get (MapP.put L a 1) c == 0) ++ [⟨g4, j * 11, none⟩] by
                      rw [HT4.out, if_pos (by rw [h0]; rfl)])
                    clear hmemj hownj hq h0 hne1 hDc hmemc hmemc0 hel e5 HT4
                    go_wp2_with (at_builtin; refine wpList_append_own _ rfl (.tmp 75) (.tmp 79) 114 rfl (w.heap.size + 1) 146 i0 (.pointer none) 1 8 Tryz.underlying114 hi hz0 hz1 hz2 rfl (by decide) _ _ _ rfl (HOJ.out.alloc _) ⟨wr.heap.size, 0, none⟩ 1 1 [.pointer (some ⟨g4, j * 11, none⟩)] rfl rfl (by intro j u hj; match j, hj with | 0, hj => simp at hj; subst hj; simp [Addr.add] | j + 1, hj => simp at hj) (by intro u hu; simp at hu; subst hu; rfl) (by unfold maxLen; omega) (by omega) (by simp; omega) ?_; intro v5 w5 hown5 hgrow5 hnil5)
                    go_roundg (gk - 1)
                    case measure => omega
                    case rel =>
                      refine ⟨j + 1, by omega, by go_num, ?_, blk_kept hbj HOJ.out (by decide) hgrow5⟩
                      rw [HT5.out, ← List.append_assoc]
                      refine Ev.Mem.push HMJ.out _ ?_ hgrow5
                      rw [← HQ.out]
                      exact hown5
                  · have h2 := ((HI2.out.val _).resolve_left h0).resolve_left hne1
                    rw [h2] at LK4
                    have HT5 := Lib.hid (show (K1.take (j + 1)).filter (fun c => MapP.get (MapP.put L a 1) c == 0) = (K1.take j).filter (fun c => MapP.get (MapP.put L a 1) c == 0) by
                      rw [HT4.out, if_neg (by rw [h2]; decide), List.append_nil])
                    clear hmemj hownj hq h0 hne1 hDc hmemc hmemc0 hel e5 HT4 h2
                    go_wp2_with fail
                    go_roundg (gk - 1)
                    case measure => omega
                    case rel =>
                      refine ⟨j + 1, by omega, by go_num, ?_, hbj⟩
                      rw [HT5.out]
                      exact HMJ.out
                · have hjn : j = n4 := by omega
                  have HME2 := Lib.hid (show Ev.Mem w 146 (MapP.put L a 1) ((st1 ++ [a]) ++ K1.filter (fun c => MapP.get (MapP.put L a 1) c == 0)) (.slice Aj q capj) wr by
                    have e : K1.take j = K1 := List.take_of_length_le (by rw [← HN4.out]; omega)
                    rw [e] at hmemj
                    exact hmemj)
                  clear hmemj hownj hq
                  have hc5 := (blk_cell hbj 1).trans (show (#[Value.slice A4 n4 cap4, .slice A5 n5 cap6] : Array Value)[1]? = some (.slice A5 n5 cap6) from rfl)
                  clear hbj
                  go_wp2_with fail
                  rw [rounds_succ]
                  go_wp2_with fail
                  go_loopg [8, 63] n5 (fun g4 sv iv wx => ∃ j : Nat, j + g4 = n5 ∧ iv = .int .i64 j ∧ Ev.Mem w 146 (MapP.put L a 1) (((st1 ++ [a]) ++ K1.filter (fun c => MapP.get (MapP.put L a 1) c == 0)) ++ (K2.take j).filter (fun c => MapP.get (MapP.put L a 1) c == 0)) sv wx)
                  case atStart =>
                    refine ⟨0, by omega, rfl, ?_⟩
                    simpa using HME2.out
                  case round =>
                    obtain ⟨j, hj, rfl, hmemj⟩ := hrel
                    have hbelj := hmemj.bel
                    obtain ⟨Aj, capj, hsv⟩ := hmemj.form
                    have hownj := hmemj.own
                    obtain ⟨q, hq⟩ : ∃ q, q = (((st1 ++ [a]) ++ K1.filter (fun c => MapP.get (MapP.put L a 1) c == 0)) ++ (K2.take j).filter (fun c => MapP.get (MapP.put L a 1) c == 0)).length := ⟨_, rfl⟩
                    have hq6 : q ≤ 1000000 := by
                      have h1 := HLNb.out
                      have h2 := Ev.filter_take_len (fun c => MapP.get (MapP.put L a 1) c == 0) K2 j
                      rw [List.length_append] at h1 hq
                      omega
                    rw [← hq] at hsv hownj
                    subst hsv
                    have HQ := Lib.hid hq
                    have HMJ := Lib.hid hmemj
                    have HOJ := Lib.hid hownj
                    by_cases hlt4 : j < n5
                    · obtain ⟨g4, cap5, e5, hel⟩ := HU2.out.at_ (k := j) (by rw [← HN5.out]; exact hlt4)
                      obtain ⟨rfl, _, rfl⟩ := Value.slice.inj e5
                      have hmemc0 : K2[j]'(by rw [← HN5.out]; exact hlt4) ∈ K2 := List.getElem_mem _
                      rw [hel] at hmemc0
                      have hmemc : (⟨g4, j * 11, none⟩ : Addr) ∈ F.kids a := by
                        rw [HKS.out]
                        exact List.mem_append.2 (by first | exact .inl hmemc0 | exact .inr hmemc0)
                      have hDc := (F.down a HDa.out _ hmemc).1
                      have LK4 := lookS hmemj.map ⟨g4, j * 11, none⟩ (Ev.cmp HI2.out HP.out hbelj hDc)
                      have hne1 := HCL.out _ hmemc
                      have HT4 := Lib.hid (Ev.filter_take_snoc (fun c => MapP.get (MapP.put L a 1) c == 0) K2 j (by rw [← HN5.out]; exact hlt4))
                      rw [hel] at HT4
                      have hsz4 := hmemj.lt
                      by_cases h0 : MapP.get (MapP.put L a 1) ⟨g4, j * 11, none⟩ = 0
                      · rw [h0] at LK4
                        have HT5 := Lib.hid (show (K2.take (j + 1)).filter (fun c => MapP.get (MapP.put L a 1) c == 0) = (K2.take j).filter (fun c => MapP.get (MapP.put L a 1) c == 0) ++ [⟨g4, j * 11, none⟩] by
                          rw [HT4.out, if_pos (by rw [h0]; rfl)])
                        clear hmemj hownj hq h0 hne1 hDc hmemc hmemc0 hel e5 HT4
                        go_wp2_with (at_builtin; refine wpList_append_own _ rfl (.tmp 75) (.tmp 79) 114 rfl (w.heap.size + 1) 146 i0 (.pointer none) 1 8 Tryz.underlying114 hi hz0 hz1 hz2 rfl (by decide) _ _ _ rfl (HOJ.out.alloc _) ⟨wr.heap.size, 0, none⟩ 1 1 [.pointer (some ⟨g4, j * 11, none⟩)] rfl rfl (by intro j u hj; match j, hj with | 0, hj => simp at hj; subst hj; simp [Addr.add] | j + 1, hj => simp at hj) (by intro u hu; simp at hu; subst hu; rfl) (by unfold maxLen; omega) (by omega) (by simp; omega) ?_; intro v5 w5 hown5 hgrow5 hnil5)
                        go_roundg (gk - 1)
                        case measure => omega
                        case rel =>
                          refine ⟨j + 1, by omega, by go_num, ?_⟩
                          rw [HT5.out, ← List.append_assoc]
                          refine Ev.Mem.push HMJ.out _ ?_ hgrow5
                          rw [← HQ.out]
                          exact hown5
                      · have h2 := ((HI2.out.val _).resolve_left h0).resolve_left hne1
                        rw [h2] at LK4
                        have HT5 := Lib.hid (show (K2.take (j + 1)).filter (fun c => MapP.get (MapP.put L a 1) c == 0) = (K2.take j).filter (fun c => MapP.get (MapP.put L a 1) c == 0) by
                          rw [HT4.out, if_neg (by rw [h2]; decide), List.append_nil])
                        clear hmemj hownj hq h0 hne1 hDc hmemc hmemc0 hel e5 HT4 h2
                        go_wp2_with fail
                        go_roundg (gk - 1)
                        case measure => omega
                        case rel =>
                          refine ⟨j + 1, by omega, by go_num, ?_⟩
                          rw [HT5.out]
                          exact HMJ.out
                    · have hjn : j = n5 := by omega
                      have HME2 := Lib.hid (show Ev.Mem w 146 (MapP.put L a 1) (((st1 ++ [a]) ++ K1.filter (fun c => MapP.get (MapP.put L a 1) c == 0)) ++ K2.filter (fun c => MapP.get (MapP.put L a 1) c == 0)) (.slice Aj q capj) wr by
                        have e : K2.take j = K2 := List.take_of_length_le (by rw [← HN5.out]; omega)
                        rw [e] at hmemj
                        exact hmemj)
                      clear hmemj hownj hq
                      go_wp2_with fail
                      rw [rounds_succ]
                      go_wp2_with fail
                      go_roundg mm
                      case measure => exact HLT.out
                      case rel =>
                        refine ⟨_, _, HI2.out, HMM.out, by omega, HRV.out, ?_⟩
                        have hx := HME2.out
                        rw [List.append_assoc, ← List.filter_append, ← HKS.out] at hx
                        exact hx

            · have CFa := Lib.hid (HCF.out a hDa wr hmem.bel)
              have hff : F.fit a = false := by simpa using hf
              rw [hff] at CFa
              have HMEM := Lib.hid hmem
              have HNO := Lib.hid (show ¬ ∀ x ∈ rs, Ev.All F x from fun h => hf (Ev.all_fit (hrch h a (by simp))))
              clear hmem hmem1 hinv hrch hms hcl hf hff hcmp hme hDa hv
              go_wp2_with (go_at_call 71; refine CFa.out.mono ?_; rintro e w2 ⟨rfl, hb2⟩; have hmem2 := Lib.hid (HMEM.out.below hb2))
              go_ret
              exact ⟨false, rfl, ⟨fun h => (by cases h), fun h => absurd h HNO.out⟩, hmem2.out.bel⟩
          · obtain ⟨w5, hst5, hM5, hg5⟩ := storeS hmem.map a 2 hcmp
            obtain ⟨hi2, hlt2⟩ := Ev.pop hinv hv
            have HI2 := Lib.hid hi2
            have HM1 := Lib.hid (hmem1.store hg5 hM5)
            have HRC := Lib.hid hrch.pop
            have hlt3 : Ev.meas F (MapP.put L a 2) st1 < gk := by omega
            obtain ⟨mm, hmm2⟩ : ∃ mm, mm = Ev.meas F (MapP.put L a 2) st1 := ⟨_, rfl⟩
            rw [← hmm2] at hlt3
            have HMM := Lib.hid hmm2.symm
            have hval := (hinv.val a).resolve_left hv
            clear hi2 hlt2 hmem hmem1 hrch hms hmm2 hcmp hinv hM5 hg5 hme hv hDa
            rcases hval with h1 | h1
            all_goals
              rw [h1] at LK
              clear h1
              go_wp2_with fail
              go_roundg mm
              case measure => exact hlt3
              case rel =>
                refine ⟨_, st1, HI2.out, HMM.out, by omega, HRC.out, ?_⟩
                rw [HME.out]
                exact HM1.out
end Go.Proofs.YtncflfadgcaldaaGreatDoor
