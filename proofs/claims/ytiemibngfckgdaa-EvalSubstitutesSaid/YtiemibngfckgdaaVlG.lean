/-
  The reference's value of a name, and the names and bounds that the laws' expressions have.
-/
import Derived.Test.YtiemibngfckgdaaVlE
import Derived.Test.YtiemibngfckgdaaFoE
import Derived.Test.YtiemibngfckgdaaMkE
namespace Go.Proofs.Ytiemibngfckgdaa
open Go.RowKit
open Par
open Vl

namespace Vl
theorem env_at (nm : ByteArray) : ∀ (k : Nat) (ns : List ByteArray) (zs : List Int) (hk : k < ns.length), (∀ j (h : j < k), ns[j] ≠ nm) → ns[k] = nm → env ns zs nm = zs[k]?
  | _, [], _, h, _, _ => absurd h (by simp)
  | k, n :: ns, [], _, _, _ => by simp [env, look]
  | 0, n :: ns, z :: zs, _, _, h => by
    have h : n = nm := h
    simp [env, look, h]
  | k + 1, n :: ns, z :: zs, hk, hne, h => by
    have h0 : n ≠ nm := hne 0 (by omega)
    have ih := env_at nm k ns zs (by simpa using hk) (fun j hj => hne (j + 1) (by omega)) h
    simp only [env, List.zip_cons_cons, look, if_neg h0] at ih ⊢
    simpa using ih
theorem env_none (nm : ByteArray) : ∀ (ns : List ByteArray) (zs : List Int), (∀ j (h : j < ns.length), ns[j] ≠ nm) → env ns zs nm = none
  | [], _, _ => by simp [env, look]
  | n :: ns, [], _ => by simp [env, look]
  | n :: ns, z :: zs, hne => by
    have h0 : n ≠ nm := hne 0 (by simp)
    have ih := env_none nm ns zs (fun j hj => hne (j + 1) (by simpa using hj))
    simp only [env, List.zip_cons_cons, look, if_neg h0] at ih ⊢
    exact ih
mutual
theorem K_bnd : ∀ e : E, K e ≤ bnd e
  | .mk op n nm l => by
    have := KL_bnd l
    simp only [K, bnd]
    omega
theorem KL_bnd : ∀ l : List E, KL l ≤ bndL l
  | [] => Nat.le_refl _
  | e :: r => by
    have h1 := K_bnd e
    have h2 := KL_bnd r
    simp only [KL, bndL]
    omega
end
mutual
theorem nok_bnd : ∀ e : E, bnd e ≤ 100000 → e.nok
  | .mk op n nm l, h => by
    simp only [bnd] at h
    exact ⟨by unfold maxLen; omega, nokL_bnd l (by omega)⟩
theorem nokL_bnd : ∀ l : List E, bndL l ≤ 100000 → nokL l
  | [], _ => trivial
  | e :: r, h => by
    simp only [bndL] at h
    exact ⟨nok_bnd e (by omega), nokL_bnd r (by omega)⟩
end
mutual
theorem nok_put (f : ByteArray → Option Int) : ∀ e : E, e.nok → (putE f e).nok
  | .mk op n nm l, h => by
    simp only [putE]
    split
    · unfold leafP
      cases f nm with
      | none => exact h
      | some v => exact ⟨Nat.zero_le _, trivial⟩
    · exact ⟨h.1, nokL_put f l h.2⟩
theorem nokL_put (f : ByteArray → Option Int) : ∀ l : List E, nokL l → nokL (putL f l)
  | [], _ => trivial
  | e :: r, h => ⟨nok_put f e h.1, nokL_put f r h.2⟩
end
theorem toList_inj {s t : ByteArray} (h : s.toList = t.toList) : s = t := by
  rw [ByteArray.toList_eq, ByteArray.toList_eq] at h
  exact WideShapes.bytes_inj h
end Vl

set_option maxHeartbeats 4000000 in
set_option maxRecDepth 100000 in
theorem refName_any (w : World) (n : Int) (nm : ByteArray) (a : Option Addr) (cap : Nat) (v u : Value) (ns : List ByteArray) (zs : List Int) (hv : StrsAt w v ns) (hu : IntsAt w u zs) (hl : ns.length ≤ 1000) (hz : zs.length ≤ maxLen) :
    Calls Try.prog 16 #[.agg #[.int .i64 2, .int .i64 n, .string nm, .slice a 0 cap], v, u] w fun x w' => x = .returned (.tuple #[.int .i64 ((env ns zs nm).getD 0), .bool (env ns zs nm).isSome]) ∧ Below w.heap.size w w' := by
  obtain ⟨A, cap1, rfl, hc⟩ := hv
  obtain ⟨B, cap2, rfl, hd⟩ := hu
  have HC := Lib.hid hc
  have HD := Lib.hid hd
  unfold maxLen at hz
  obtain ⟨q, hq⟩ : ∃ q, q = ns.length := ⟨_, rfl⟩
  obtain ⟨m, hm⟩ : ∃ m, m = zs.length := ⟨_, rfl⟩
  have HQ := Lib.hid hq
  have HM := Lib.hid hm
  rw [← hq] at hl ⊢
  rw [← hm] at hz ⊢
  clear hc hd hq hm
  go_enter Try.func16, Try.ntmps16
  go_wp2_with fail
  go_loopw [8] (fun i wr => ∃ k : Nat, k ≤ q ∧ i = .int .i64 k ∧ wr.cell? ⟨w.heap.size, 2, none⟩ = some (.string nm) ∧ Below w.heap.size w wr ∧ (∀ j (h : j < ns.length), j < k → ns[j] ≠ nm)) (fun i _ => q - (intOf i).toNat)
  case atStart => exact ⟨0, by omega, by first | rfl | trivial, by simp, (Below.refl _ _).alloc (Nat.le_refl _) _, fun j _ h => absurd h (by omega)⟩
  case round =>
    obtain ⟨k, hk, rfl, hc2, hbel, hne⟩ := hrel
    have HB := Lib.hid hbel
    have HNE := Lib.hid hne
    by_cases hkq : k < q
    · have hkn : k < ns.length := by rw [← HQ.out]; exact hkq
      have hkqi : (k : Int) < (q : Int) := by omega
      obtain ⟨g, off, rfl, hg, hcell⟩ := HC.out k hkn
      have hc1 := (hbel.cell (p := ⟨g, off + k, none⟩) hg).trans hcell
      by_cases hs : ns[k] = nm
      · have hs2 := hs
        rw [hs] at hc1
        have HEV := Lib.hid (env_at nm k ns zs hkn (fun j hj => hne j (by omega) hj) hs)
        by_cases hkm : k < m
        · have hkz : k < zs.length := by rw [← HM.out]; exact hkm
          have hkmi : ¬ (m : Int) ≤ (k : Int) := by omega
          have hkmi2 : (k : Int) < (m : Int) := by omega
          obtain ⟨g2, off2, rfl, hg2, hcell2⟩ := HD.out k hkz
          have hc3 := (hbel.cell (p := ⟨g2, off2 + k, none⟩) hg2).trans hcell2
          have HEV2 := Lib.hid (show env ns zs nm = some zs[k] by rw [HEV.out]; exact List.getElem?_eq_getElem hkz)
          obtain ⟨z, hze⟩ : ∃ z, z = zs[k] := ⟨_, rfl⟩
          rw [← hze] at hc3 HEV2
          clear hze hcell hcell2 hg hg2 hbel hne hs hs2 hkn hkz
          go_wp2_with fail
          go_quiet (fail)
          go_wp2_with fail
          refine bodyPost_ret (v := .tuple #[.int .i64 z, .bool true]) ?_ rfl ⟨?_, HB.out.trans (below_drewN (Below.refl _ _) _ |>.mono HB.out.size)⟩
          · simp [results, Try.results16, go_sem]
          · rw [HEV2.out]
            rfl
        · have hkmi : (m : Int) ≤ (k : Int) := by omega
          have HEV2 := Lib.hid (show env ns zs nm = none by rw [HEV.out]; exact List.getElem?_eq_none (by rw [← HM.out]; omega))
          clear hcell hg hbel hne hs hs2 hkn
          go_wp2_with fail
          go_quiet (fail)
          go_wp2_with fail
          refine bodyPost_ret (v := .tuple #[.int .i64 0, .bool false]) ?_ rfl ⟨?_, HB.out.trans (below_drewN (Below.refl _ _) _ |>.mono HB.out.size)⟩
          · simp [results, Try.results16, go_sem]
          · rw [HEV2.out]
            rfl
      · have HNE2 : Hid (∀ j (h : j < ns.length), j < k + 1 → ns[j] ≠ nm) := Lib.hid (fun j h hj => by
          by_cases e : j = k
          · subst e
            exact hs
          · exact hne j h (by omega))
        obtain ⟨s, hse⟩ : ∃ s, s = ns[k] := ⟨_, rfl⟩
        rw [← hse] at hc1 hs
        have hsb : (s.toList == nm.toList) = false := beq_eq_false_iff_ne.2 (fun e => hs (toList_inj e))
        clear hse hcell hg hbel hne hkn
        go_wp2_with fail
        go_quiet (fail)
        go_wp2_with fail
        go_roundw
        case rel => exact ⟨k + 1, by omega, by go_num, hc2, below_drewN HB.out _, HNE2.out⟩
        case measure => simp [intOf]; omega
    · have hke : k = q := by omega
      subst hke
      have HEV := Lib.hid (env_none nm ns zs (fun j h => hne j h (by have := HQ.out; omega)))
      clear hbel hne
      go_wp2_with fail
      refine bodyPost_ret (v := .tuple #[.int .i64 0, .bool false]) ?_ rfl ⟨?_, HB.out⟩
      · simp [results, Try.results16, go_sem]
      · rw [HEV.out]
        rfl
end Go.Proofs.Ytiemibngfckgdaa
